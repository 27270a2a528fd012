import PyProof.Rows.All
import Wide.All
import OpenK.AllK
import Wide.FinOn
import Lean
import PyProof.EqAt
import PyProof.EqKinds
import PyProof.TupleCall
import PyProof.CompFree
import KE.KIsAll
import PyProof.AttrMiss
import PyProof.IsiH_list
import KE.KDictOf
import PyProof.ConsumeWalk
import PyProof.Rows.SetFrom
import PyProof.NeKinds
import PyProof.AutoListH
import PyProof.EnumMake
import PyProof.EnumFor
import PyProof.EnumStmt
import PyProof.LayNew
import PyProof.Rows.EnumRows
import KE.KDictList
import KE.KItemsList
import PySem.Challenge.RW_homeward_k31_puts_move_by_need
set_option linter.all false
set_option Elab.async false
def zA0:=@List.count_append
def zA1:=@Option.bind_eq_some_iff
def zA2:=@PySem.Heap.get?_push_of_some
def zA3:=@Nat.le_refl
def zA4:=@List.size_toArray
def zA5:=@List.mem_cons_of_mem
def zA6:=@List.getElem?_eq_some_iff
def zA7:=@PySem.Heap.lt_size
def zA8:=@List.length_map
def zA9:=@decide_eq_true
def zAa:=@of_decide_eq_true
def zAb:=@Nat.lt_of_lt_of_le
def zAc:=@List.mem_cons_self
def zAd:=@List.length_append
def zAe:=@List.mem_append
def zAf:=@List.append_nil
def zAg:=@List.length_cons
def zAh:=@Bool.false_ne_true
def zAi:=@Bool.and_eq_true_iff
def zAj:=@List.mem_singleton
def zAk:=@Option.map_eq_some_iff
def zAl:=@Nat.ne_of_lt
def zAm:=@List.mem_cons
def zAn:=@Nat.le_trans
def zAo:=@List.count_cons
def zAp:=@List.mem_range
def zAq:=@List.append_assoc
def zAr:=@Nat.zero_add
def zAs:=@List.take_of_length_le
def zAt:=@List.getElem?_append_left
def zAu:=@List.lookup_cons
def zAv:=@beq_self_eq_true
def zAw:=@List.mem_append_right
def zAx:=@List.map_cons
def zAy:=@decide_eq_false
def zAz:=@PySem.Heap.get?_push_size
def zB0:=@List.forall_mem_cons
def zB1:=@Array.length_toList
def zB2:=@Array.toList_append
def zB3:=@List.cons_merge_cons
def zB4:=@List.mem_of_getElem?
def zB5:=@Option.isSome_iff_exists
def zB6:=@List.nil_append
def zB7:=@List.mem_filter
def zB8:=@List.mem_map
def zB9:=@Bool.and_eq_true
def zBa:=@List.length_range
def zBb:=@List.getElem?_map
def zBc:=@PySem.Heap.get?_update_other
def zBd:=@List.take_append_drop
def zBe:=@List.map_append
def zBf:=@List.getElem?_set_ne
def zBg:=@of_decide_eq_false
def zBh:=@decide_eq_true_eq
def zBi:=@Nat.zero_le
def zBj:=@Array.perm_iff_toList_perm
def zBk:=@List.forall_mem_append
def zBl:=@List.pairwise_map
def zBm:=@List.replicate_succ
def zBn:=@List.length_nil
def zBo:=@PySem.Heap.get?_update_self
def zBp:=@beq_iff_eq
def zBq:=@List.length_take
def zBr:=@List.cons_append
def zBs:=@List.not_mem_nil
def zBt:=@List.nodup_append
def zBu:=@beq_eq_false_iff_ne
def zBv:=@List.find?_cons
def zBw:=@List.getElem?_set_self
def zBx:=@List.all_eq_true
def zBy:=@Nat.lt_succ_self
def zBz:=@decide_eq_decide
def zC0:=@Nat.lt_irrefl
def zC1:=@List.mem_append_left
def zC2:=@Int.emod_eq_of_lt
def zC3:=@List.flatten_cons
def zC4:=@Nat.le_of_eq
def zC5:=@List.filterMap_cons
def zC6:=@Nat.le_of_not_lt
def zC7:=@Nat.mod_eq_of_lt
def zC8:=@List.length_drop
def zC9:=@List.findIdx?_cons
def zCa:=@Int.emod_lt_of_pos
def zCb:=@List.nodup_cons
def zCc:=@List.any_cons
set_option genSizeOf false
set_option genInjectivity false
set_option maxRecDepth 100000
noncomputable section
structure PySem.W.Fast where
 (tw10000802413288944715 tw16115622767898935066 tw12644337424868689221 tw13399985543501259554 tw16055718209687854882 tw4958749393802598284 tw8245676013692949335 tw11676338974562682119 tw9616251687961246114 tw5419120347742926553 tw5594836934905802062 tw8052423349338085613 tw14484667469047193424 tw8534924077970634845 tw5453112035095020149 tw855127667285268997 tw15624287195065098724 tw7714575685775105710 tw11012039437172706702 tw13356016613559404209 tw18320132799691156073 tw9219656774924241219 tw14365935634439903584 tw10190615567681409645 tw13517676300687678667 tw14955486804276243408 tw266408256768292515 tw3173498035331711733 tw11663242502956655509 tw16575309157849023242 tw5500939955707913064 tw2133590124873509846 tw5400403010866202200 tw5116271193988475452 tw9903379290672919635 tw13444169599879742761 tw11575715450218657592 tw489715943987285552 tw12275436422689375914 tw5488868648585359429
 tw8796551117941607863 tw6671530854842868107 tw11901695360911691636 tw17828052503408556457 tw12631586847799280429 tw4384531453544490613 tw8222843554414888356 tw11948533763877758012 tw5003262654422813688 tw1022417402024751357 tw3272024330175889312 tw15303636834025532588 tw9588947545679681223 tw17252900639057624493 tw13086129612641975421 tw5152648375882065500 tw693873594931188865 tw1381297282738896927 tw14844988729038843371 tw6947888965927789835 tw12597417774926635383 tw618010656887266508 tw15061911984847350203 tw948795335307872551 tw14613340739342802799 tw17142691288118008804 tw9359203253185979522 tw14909080543922243575 tw8282194682813928823 tw11671413218240278885 tw13290391074109740479 tw703170574758692101 tw1959234352317549087 tw6565066944526670423 tw17321043515573603255 tw1117666794007451011 tw7154141843039763089 tw11003614338944068691 tw13662257276263773993 tw15531483206042357894
 tw9282274284528753942 tw15752316243492636556 tw1044935928208752422 tw6018250667036355153 tw5434130672852066623 tw16369653670022943979 tw5069811397651315442 tw16960249828142938001 tw17154405160820270689 tw3276256492740418160 tw596613672673256828 tw16636571028720590678 tw17155876866251687413 tw2263081082328949249 tw16002270253059240870 tw819696610986515481 tw10712998684141860279 tw5138152951101482472 tw12654976875066983526 tw2598080963632454927 tw2360703791225964766 tw14595042672259510474 tw17180673311293593626 tw16837672434600715613 tw2891045520178338755 tw435614083175913173 tw4444569563573599919 tw14057763149599333423 tw3917384080520194463 tw4678080274734622007 tw18068259288520406954 tw9138843009651958161 tw7391249499436733252 tw12947048472135911586 tw3133159025329163816 tw13353796140761276959 tw5572904575715219924 tw5928127924590609092 tw8203779596147333717 tw1026590655252960542
 tw12348739128381287877 tw11677820583034652764 tw11997647074880199322 tw8248609509209961644 tw11049247222649880994 tw2120012323784299619 tw3247009090565151536 tw12563674838085593095 tw15884858922542636017 tw5555739190352134327 tw1216614760227525069 tw4579171122634672210 tw12113292869957329060 tw1206301547034957551 tw6325410391687183776 tw8367302609371780646 tw9774230721765248169 tw16905637836519249418 tw9964877743334617446 tw8580952101586751290 tw7797679013441178188 tw12361370582744364521 tw221287182873307744 tw12995692638819528018 tw12664891093602109381 tw11162190916236694027 tw15408331366796755979 tw14118302499403342108 tw10817184594758801119 tw4623254887588448443 tw15399095026417624050 tw14315960541328732429 tw772714633522836117 tw1906540498580760271 tw4958806254376599930 tw14739334072032865913 tw307900715776078527 tw3765320924455761401 tw9796845492817892243 tw8577429717887697529
 tw14481610429503045644 tw13671349787300900950 tw11696124569964120099 tw1122039446168215694 tw2386022566868809326 tw1689371129511424408 tw11417471747394415238 tw2142691193406234033 tw5436236558888952159 tw12350173587237220788 tw15329124319812622240 tw13732851203766947091 tw715793278026821519 tw5599695381774065394 tw5553447261690227646 tw4732193328193046400 tw2082627364253485941 tw17616673026451155209 tw11321995776448729422 tw6409210660427346819 tw15008094596789748535 tw258094924327300470 tw7835116220922129868 tw18084009475021283124 tw17132379043975487494 tw15415827522408494338 tw2044442952728565825 tw16090704954453418384 tw1686631063886565544 tw3231188702054019521 tw17437730002384094450 tw13517888063222303716 tw1209544656390468881 tw1158692469890769260 tw9417163942531801212 tw8440988611575645217 tw11689057313681355960 tw444691748028199919 tw15871860688822551399 tw16839923763106292181
 tw58701476037871262 tw4201874804891639308 tw17952615056716524475 tw11570569121531068679 tw15562956033844598417 tw8070572190395625686 tw11650204261762256285 tw2406825786219331163 tw8202447611287051662 tw11037432383142231314 tw6613929424194308356 tw15158156115602073065 tw4654980361086938663 tw9404633689977193872 tw14305462623204286452 tw6023077973125448136 tw6745450901452099222 tw11194060191564000538 tw8196525221673338892 tw6489919962104439058 tw5436881163155606987 tw3164170105187363301 tw1803887216178397474 tw15631832701039044002 tw16861647558918466785 tw11470910760367210 tw1177405255669328855 tw6748168201291880350 tw4017853412241073236 tw7703746303650820661 tw3022797980838578953 tw18235031686529539398 tw13024215788090957570 tw5652129524417924735 tw12190714623400559985 tw11514151435218095285 tw4012220458437949890 tw8338700353895161317 tw15932391821917065275 tw8128013721789523202
 tw6961490742245812970 tw10133172272077073386 tw14428843963468366736 tw528805134278180614 tw2542038811085533980 tw17722855982436557119 tw13520646757229648449 tw3235377296526834943 tw3266963409478152089 tw10017033696930837932 tw9471353335140996719 tw5305601142648291798 tw5259337993188270333 tw4906352093026519862 tw18137262959132101399 tw17633225431997414859 tw17418862814901889750 tw17235747568875192279 tw15685547354106530328 tw10782505086103765607 tw14705491367108227920 tw11836259932893528417 tw8227258205924530242 tw16673584541230547857 tw15689385583771889844 tw17748005732439271582 tw17922403161397353710 tw17314988147668117089 tw14583242920566750644 tw1423626343663971608 tw16707815046137145809 tw5627304655449336118 tw14844724394100123664 tw10807249525380606191 tw4134811705143619791 tw9204958053965789937 tw8753372526685930725 tw7408734164825608373 tw6787105550098708254 tw6588600109685690754
 tw6520308239512335588 tw3741212756146983395 tw2377955845806393803 tw2083718657665365687 tw15717511825539481866 tw14977338425767758578 tw13336119027393345069 tw12084274960071172985 tw11123970432006341160 tw4661213575548836026 tw9548044527179232063 tw9097121190680202087 tw9035286833241267657 tw8280534108933785857 tw7523126181800150207 tw7255202335246817098 tw6895070255484233099 tw6728435021827546955 tw5613217890656570209 tw5092686265314557618 tw4939391456706068151 tw3601863205492507374 tw3569929403075736521 tw2436022561959114975 tw17541077337549304633 tw1726187482588457993 tw16981434661049613871 tw1566627576728059053 tw15469808767919095984 tw14623154382230823016 tw14576134251420135105 tw13965827030704648229 tw13416008973036751292 tw12955161457058665889 tw12570558060779333987 tw10287873714055005248 tw1234459225886638699 tw8953277757175194803 tw8657497140934150161 tw4190923729725202828
 tw17195189269075074917 tw12601711314636462797 tw10242708042039642765 tw9884721131142062233 tw7343121094405794741 tw5053230509006883442 tw4776543337034884687 tw4546619444267155537 tw18254441161518313979 tw15881351548276478442 tw11279181846708337244 tw15288240247619106392 tw18292190569229107236 tw15231133700549748565 tw14145842271156964274 tw11960693025920821060 tw12119421978082711542 tw7165315151422808878 tw6417205123469082637 tw17616590155185853730 tw3209438772983180710 tw16918010028472686480 tw9922370641821810859 tw9267976316525407479 tw9014508138991638149 tw7753567540750740965 tw6910902132485536082 tw6376837337097814865 tw5432529729782856206 tw3619962119230890268 tw18251304580716214206 tw16868339018403080368 tw16714822247418225970 tw16279701813575904974 tw14038300651757565171 tw13238784403691072722 tw13076084119101386551 tw1204135040222454802 tw11757195979042853629 tw11587279631959188024
 tw11276337549326112654 tw10888745787173830460 tw10117624886210800374 tw16972190810930776198 tw14897225897967093410 tw11843348879105500566 tw9908238757380302910 tw8618314288080264363 tw8461941204832637564 tw6787309875661816928 tw6594762169183265560 tw4199021877928412358 tw3572863497552560441 tw1835602236326093740 tw15711891372385109911 tw14601962502746120958 tw13649465014988624477 tw1042234721307766368 tw4376867362828843283 tw18386414756296997358 tw18224832019592109503 tw17169506036376321324 tw16640565229212050714 tw13791036246592016781 tw13462343116497519272 tw8261995982775176162 tw15221468430556310158 tw8715289749916247356 tw7077446029744214456 tw497233478080614036 tw4410188640590250030 tw3808768699856024264 tw2144319609344251688:Nat)
abbrev N'(x:PySem.Str):Prop:=(x == ("__debug__" : PySem.Str))=false
abbrev γ:=PySem.Addr
abbrev V':=PySem.Value
abbrev Sh:=PySem.Shared
abbrev δ:=PySem.FuncData
open PySem renaming wpAny_bind→G',wpAny_pure→J',starEach→Lq,sizeLine→Lr,compareOp→Ls,foldedSetIterable→Lu,wpAny_holding→Lv,bootBuiltins→Lw,wpAny_truthy_bool→Lx,attributeBase→Ly,sizeLine_eq→Lz,mainGlobals→L5,wpAny_loadPart_at→L6,sysModules→L7,keywordEach→L8,wpAny_mono→L9,wpAny_rule→Ma,wpAny_passesOwn→Mb,call_meets→Mc,assignEach→Me,binaryOp→Mf
open PyProof.Rows renaming wpS_bind→Mg,wpS_pure→Mh,wpS_forRange→Mi,pendingOf→Mj,wpS_mono→Ml,failedOf→Mm,wpS_get→Mn,wpS_modify→Mo
namespace L2
open PySem PySem.Spec PyProof.Rows
variable{M:Model}{N:List Str}{base:Heap}{body:List Stmt}{ch fp:List γ}{i n t':Nat}{kw:List (Str×V')}{mg:Str->Option V'}{op:CmpOp}{pl:Sem Bool}{us:List V'}{α:Type}
abbrev Key:=Sum Int Str
noncomputable def Ha:Key->V'->Bool
 | .inl k,v=>Value.isInt k v
 | .inr x,v=>Value.isStrOf x v
noncomputable def keyH(w:World):Key->Int
 | .inl k=>hashInt k
 | .inr x=>hashStr w x
theorem qd2:∀{k:Key}{v:V'},Ha k v=true->(∃ i t,k=Sum.inl i/\v=Value.int i t)∨(∃ x t,k=Sum.inr x/\v=Value.str x t)
 | .inl i,v,h=>by
   obtain⟨t,e⟩:=Value.isInt_shape (k:=i) (v:=v) h;exact .inl ⟨i,t,rfl,e⟩
 | .inr x,v,h=>by
   obtain⟨t,e⟩:=Value.isStrOf_shape (x:=x) (v:=v) h;exact .inr ⟨x,t,rfl,e⟩
theorem qaj8(i:Int)(t:Tok):Ha (.inl i) (.int i t)=true:=by simp[Ha,Value.isInt]
theorem qaj7(x:Str)(t:Tok):Ha (.inr x) (.str x t)=true:=by simp[Ha,Value.isStrOf]
theorem qaS1(a b:Int):decide ((Sum.inl a:Key)=Sum.inl b)=(a == b):=by
 by_cases e:a=b
 . subst e;simp
 have h:¬ (Sum.inl a:Key)=Sum.inl b:=λ q=>e (Sum.inl.inj q)
 rw[zAy h];exact(zBu.mpr e).symm
theorem qaR8(a b:Str):decide ((Sum.inr a:Key)=Sum.inr b)=decide (a=b):=by
 by_cases e:a=b
 . subst e;simp
 have h:¬ (Sum.inr a:Key)=Sum.inr b:=λ q=>e (Sum.inr.inj q)
 rw[zAy h,zAy e]
theorem qaS0(a:Int)(b:Str):decide ((Sum.inl a:Key)=Sum.inr b)=false:=zAy (λ q=>nomatch q)
theorem qaR9(a:Str)(b:Int):decide ((Sum.inr a:Key)=Sum.inl b)=false:=zAy (λ q=>nomatch q)
def qf4(prog:Program)(w:World):PySem.KeyKind prog w Key where
 is:=Ha
 hash:=keyH w
 inj:=λ v a b g f=>by
   rcases qd2 g with⟨i,t,rfl,rfl⟩ | ⟨x,t,rfl,rfl⟩
   . rcases qd2 f with⟨j,u,rfl,e⟩ | ⟨y,u,rfl,e⟩
     . injection e with c _;rw[c]
     exact nomatch e
   rcases qd2 f with⟨j,u,rfl,e⟩ | ⟨y,u,rfl,e⟩
   . exact nomatch e
   injection e with c _;rw[c]
 byValue:=λ k v h=>by
   rcases qd2 h with⟨i,t,rfl,rfl⟩ | ⟨x,t,rfl,rfl⟩<;>rfl
 pyHash:=λ d h=>by
   rcases qd2 d with⟨i,t,rfl,rfl⟩ | ⟨x,t,rfl,rfl⟩
   . exact wpAny_pyHash_int h
   exact wpAny_pyHash_str h
 eqBool:=λ l d h=>by
   rcases qd2 l with⟨i,t,rfl,rfl⟩ | ⟨x,t,rfl,rfl⟩
   . rcases qd2 d with⟨j,u,rfl,rfl⟩ | ⟨y,u,rfl,rfl⟩
     . rw[qaS1] at h;exact wpAny_eqBool_int h
     rw[qaS0] at h;exact SeqAt.EqAt.int_str i t y u _ _ _ _ h
   rcases qd2 d with⟨j,u,rfl,rfl⟩ | ⟨y,u,rfl,rfl⟩
   . rw[qaR9] at h;exact SeqAt.EqAt.str_int x t j u _ _ _ _ h
   rw[qaR8] at h;exact wpAny_eqBool_str h
 «strs»:=λ k x t v h=>by
   rcases qd2 h with⟨i,u,rfl,e⟩ | ⟨y,u,rfl,e⟩
   . exact nomatch e
   injection e with c _
   subst c;cases v<;>rfl
theorem qT0(prog:Program)(w:World)(i:Int)(t:Tok):(qf4 prog w).is (.inl i) (.int i t)=true:=qaj8 i t
theorem qS9(prog:Program)(w:World)(x:Str)(t:Tok):(qf4 prog w).is (.inr x) (.str x t)=true:=qaj7 x t
inductive V where
 | non | bl (b:Bool) | int (i:Int) | str (x:Str) | byt (b:Array UInt8) | flt (b:UInt64) | ref (a:γ) | ty (n:String)
 deriving DecidableEq
def Mx:V->V'->Prop
 | .non,u=>u=Value.none
 | .bl b,u=>u=Value.bool b
 | .int i,u=>∃ t,u=Value.int i t
 | .str x,u=>∃ t,u=Value.str x t
 | .byt b,u=>∃ t,u=Value.bytes b t
 | .flt b,u=>∃ t,u=Value.float b t
 | .ref a,u=>u=Value.ref a
 | .ty n,u=>u=Value.type n
abbrev Mz:List V->List V'->Prop:=Paired Mx
theorem Mz.length{xs:List V}(r:Mz xs us):xs.length=us.length:=Paired.length r
theorem Mz.get:∀{xs:List V}{us:List V'}{i:Nat}{x:V},Mz xs us->xs[i]? = some x->∃ u,us[i]? = some u/\Mx x u
 | _,_,_,_,.nil,e=>by simp at e
 | _,_,0,_,.cons r _,e=>by simp at e;subst e;exact⟨_,rfl,r⟩
 | _,_,i+1,x,.cons _ t,e=>by
   obtain⟨u,a,b⟩:=Mz.get (i:=i) (x:=x) t (by simpa using e);exact⟨u,by simpa using a,b⟩
theorem Mz.set{x:V}{u:V'}(r:Mx x u):∀{xs:List V}{us:List V'}(i:Nat),Mz xs us->Mz (xs.set i x) (us.set i u)
 | _,_,_,.nil=>.nil
 | _,_,0,.cons _ t=>.cons r t
 | _,_,i+1,.cons q t=>.cons q (Mz.set r i t)
theorem Mz.append{xs ys:List V}{a:List V'}(h:Mz xs us)(s:Mz ys a):Mz (xs++ys) (us++a):=by
 induction h with
 | nil=>exact s
 | cons r t i=>exact .cons r i
theorem Mz.take:∀{xs:List V}{us:List V'}(n:Nat),Mz xs us->Mz (xs.take n) (us.take n)
 | _,_,0,_=>.nil
 | _,_,_+1,.nil=>.nil
 | _,_,n+1,.cons r t=>.cons r (Mz.take n t)
theorem Mz.drop:∀{xs:List V}{us:List V'}(n:Nat),Mz xs us->Mz (xs.drop n) (us.drop n)
 | _,_,0,r=>r
 | _,_,_+1,.nil=>.nil
 | _,_,n+1,.cons _ t=>Mz.drop n t
def RelO:Option V->Option V'->Prop
 | some v,some u=>Mx v u
 | none,none=>True
 | _,_=>False
def KV{κ:Type}:List (κ×V)->List (κ×V')->Prop:=Paired λ(p:κ×V)(q:κ×V')=>p.1=q.1/\Mx p.2 q.2
noncomputable def kV:Key->V
 | .inl i=>.int i
 | .inr x=>.str x
inductive HO where
   | l (xs:List V)
   | q (xs:List V)
   | dK (kvs:List (Key×V)) | dT (kvs:List (List Key×V))
   | set (S:Int->Bool) (n:Nat)
   | ins (C dx:γ) (fs:List (Str×V))
   | own (x:γ)
   | xd (fs:List (Str×V))
   | met (f x:γ)
   | rng (lo hi:Int)
   | frz (o:Obj) (u:HO)
   | tbl (ps:Array V')
   | ext (φ:Heap->Prop)
noncomputable abbrev Hp:=γ->Option HO
noncomputable def upd(H:Hp)(a:γ)(o:HO):Hp:=λ b=>if b=a then some o else H b
theorem qb3{H:Hp}{a:γ}{o:HO}:upd H a o a=some o:=by unfold upd;rw[if_pos rfl]
theorem qb4{H:Hp}{a b:γ}{o:HO}(h:b≠a):upd H a o b=H b:=by unfold upd;rw[if_neg h]
theorem qaB1{H:Hp}{a:γ}{o u:HO}:upd (upd H a o) a u=upd H a u:=by
 funext b;unfold upd;split<;>rfl
theorem ne_of{H:Hp}{a b:γ}{o u:HO}(h:H a=some o)(h':H b=some u)(d:o≠u):a≠b:=by
 intro e;subst e;rw[h] at h';exact d (Option.some.inj h')
theorem qc0{H:Hp}{a b:γ}{o:HO}(h:H a=some o)(h':H b=none):a≠b:=by
 intro e;subst e;rw[h] at h';cases h'
section
variable(P:Program)(w:World)
def ObjOk(H:Hp)(h:Heap)(a:γ):HO->Prop
 | .l xs=>xs.length<=Lr/\∃(its:List V')(n:Nat),Mz xs its/\h.get? a=some { cls:=.type "list",data:=.seq its.toArray n }
 | .q xs=>xs.length<=Lr/\∃ its:List V',Mz xs its/\IsTup h a its.toArray
 | .dK kvs=>kvs.length<=Lr/\(a == L7)=false/\∃ vs,KV kvs vs/\h.DictOf (qf4 P w) a vs
 | .dT kvs=>kvs.length<=Lr/\(a == L7)=false/\∃ xs:List (List Key×γ×V'),
     Paired (λ(p:List Key×V)(q:List Key×γ×V')=>p.1=q.1/\H q.2.1=some (.q (p.1.map kV))/\Mx p.2 q.2.2) kvs xs /\
     ∃ o es b,h.get? a=some o/\o.ExactDict/\o.data=.dict es b/\es.toList=xs.map (entryOfKey (tupleKind (qf4 P w)))/\(xs.map (·.1)).Nodup
 | .set S n=>h.SetOf (intKind P w) a S n
 | .ins C dx fs=>H dx=some (.own a)/\fs.length<=1000/\dx≠a/\h.get? a=some (W.instObj C dx) /\
     ∃ mA,h.Ns1 dx mA/\(∀ f,RelO (fs.lookup f) (mA f))/\PySem.Within mA (fs.map (·.1))
 | .own _=>∃ o,h.get? a=some o
 | .xd fs=>∃ mA,h.Ns1 a mA/\∀ f,RelO (fs.lookup f) (mA f)
 | .rng lo hi=>∃ t u v,h.get? a=some { cls:=.type "range",data:=.fields #[.int lo t,.int hi u,.int 1 v] }
 | .frz o u=>h.get? a=some o/\ObjOk H h a u
 | .tbl ps=>h.get? a=some { cls:=.none,data:=.fields ps }
 | .met f x=>h.get? a=some (W.methodObj (.ref f) (.ref x))
 | .ext φ=>φ h/\(∃ o,h.get? a=some o)/\∀ h1 h2:Heap,φ h1->(∀ o,h1.get? a=some o->h2.get? a=some o)->φ h2
def HOk(H:Hp)(h:Heap):Prop:=∀ a o,H a=some o->ObjOk P w H h a o
end
section
variable{P:Program}{w:World}{H H':Hp}{h h':Heap}{a:γ}{o:HO}
theorem ObjOk.lt(x:ObjOk P w H h a o):a < h.objs.size:=by
 cases o with
 | l c=>obtain⟨_,_,_,_,e⟩:=x;exact zA7 e
 | q c=>obtain⟨_,_,_,p⟩:=x;exact p.lt
 | dK b=>obtain⟨_,_,_,_,o,_,_,e,_⟩:=x;exact zA7 e
 | dT b=>obtain⟨_,_,_,_,o,_,_,e,_⟩:=x;exact zA7 e
 | set S n=>obtain⟨o,_,_,_,e,_⟩:=x;exact zA7 e
 | ins C g d=>obtain⟨_,_,_,e,_⟩:=x;exact zA7 e
 | own y=>obtain⟨_,e⟩:=x;exact zA7 e
 | xd d=>obtain⟨_,⟨_,_,_,e,_⟩,_⟩:=x;exact zA7 e
 | rng i j=>obtain⟨_,_,_,e⟩:=x;exact zA7 e
 | frz k u=>obtain⟨e,_⟩:=x;exact zA7 e
 | tbl l=>exact zA7 (show h.get? a=some _ from x)
 | met f y=>exact zA7 (show h.get? a=some _ from x)
 | ext φ=>obtain⟨_,⟨_,e⟩,_⟩:=x;exact zA7 e
theorem Paired.mapP{β:Type}{F G:α->β->Prop}{l:List α}{m:List β}(h:Paired F l m)(f:∀ a b,F a b->G a b):Paired G l m:=by
 induction h with
 | nil=>exact .nil
 | cons r t i=>exact .cons (f _ _ r) i
theorem ObjOk.stay(x:ObjOk P w H h a o)(k:∀ b u,(b=a∨H b=some (.own a))->h.get? b=some u->h'.get? b=some u)(E:∀ b,H b=some (.own a)->H' b=some (.own a))(F:∀ b xs,H b=some (.q xs)->H' b=some (.q xs)):ObjOk P w H' h' a o:=by
 induction o with
 | l xs=>obtain⟨z,l,n,r,e⟩:=x;exact⟨z,l,n,r,k _ _ (.inl rfl) e⟩
 | q xs=>obtain⟨z,l,r,g,e,c⟩:=x;exact⟨z,l,r,g,k _ _ (.inl rfl) e,c⟩
 | dK m=>obtain⟨z,y,G,r,g,i,j,e,c⟩:=x;exact⟨z,y,G,r,g,i,j,k _ _ (.inl rfl) e,c⟩
 | dT m =>
   obtain⟨z,y,xs,r,g,i,j,e,c⟩:=x;exact⟨z,y,xs,Paired.mapP r λ p q z=>⟨z.1,F _ _ z.2.1,z.2.2⟩,g,i,j,k _ _ (.inl rfl) e,c⟩
 | set S n=>obtain⟨g,i,j,t,e,c⟩:=x;exact⟨g,i,j,t,k _ _ (.inl rfl) e,c⟩
 | ins C L I =>
   obtain⟨d,z,J,e,s,⟨A,i,j,e2,c⟩,r⟩:=x;exact⟨E _ d,z,J,k _ _ (.inl rfl) e,s,⟨A,i,j,k _ _ (.inr d) e2,c⟩,r⟩
 | own y=>obtain⟨g,e⟩:=x;exact⟨g,k _ _ (.inl rfl) e⟩
 | xd I=>obtain⟨s,⟨A,i,j,e,c⟩,r⟩:=x;exact⟨s,⟨A,i,j,k _ _ (.inl rfl) e,c⟩,r⟩
 | rng M N=>obtain⟨t,u,v,e⟩:=x;exact⟨t,u,v,k _ _ (.inl rfl) e⟩
 | frz g u K=>obtain⟨e,q⟩:=x;exact⟨k _ _ (.inl rfl) e,K q⟩
 | tbl B =>
   have e:h.get? a=some { cls:=.none,data:=.fields B }:=x;show h'.get? a=some { cls:=.none,data:=.fields B };exact k a _ (.inl rfl) e
 | met f y =>
   have e:h.get? a=some (W.methodObj (.ref f) (.ref y)):=x;show h'.get? a=some (W.methodObj (.ref f) (.ref y));exact k a _ (.inl rfl) e
 | ext φ=>obtain⟨p,⟨o,e⟩,D⟩:=x;exact⟨D _ _ p λ o q=>k _ _ (.inl rfl) q,⟨o,k _ _ (.inl rfl) e⟩,D⟩
theorem HOk.lt(x:HOk P w H h)(e:H a=some o):a < h.objs.size:=(x a o e).lt
theorem HOk.fresh(x:HOk P w H h)(e:h.objs.size<=a):H a=none:=by
 cases q:H a with
 | none=>rfl
 | some u=>exact absurd (zAb (x.lt q) e) (zC0 _)
theorem HOk.kept(x:HOk P w H h)(k:∀ b u,h.get? b=some u->h'.get? b=some u):HOk P w H h':=λ a o e =>
 (x a o e).stay (λ b u _ q=>k b u q) (λ _ q=>q) λ _ _ q=>q
theorem HOk.laid(x:HOk P w H h)(k:∀ b u,h.get? b=some u->h'.get? b=some u)(i:h.objs.size<=a)(d:ObjOk P w (upd H a o) h' a o):HOk P w (upd H a o) h':=λ b u e=>by
 have f:=x.fresh i;by_cases g:b=a
 . subst g;rw[qb3] at e;cases e;exact d
 rw[qb4 g] at e;exact(x b u e).stay (λ c v _ q=>k c v q) (λ c q=>by rw[qb4 (qc0 q f)];exact q) λ c j q=>by rw[qb4 (qc0 q f)];exact q
end
def Rd(H:Hp)(a:γ)(u:HO):Prop:=H a=some u∨∃ o,H a=some (.frz o u)
theorem Rd.ok{P:Program}{w:World}{H:Hp}{h:Heap}{a:γ}{u:HO}(r:Rd H a u)(x:HOk P w H h):ObjOk P w H h a u:=by
 rcases r with r | ⟨o,r⟩
 . exact x a u r
 obtain⟨_,q⟩:=x a _ r;exact q
def Mut:Option HO->Prop
 | some (.l _)=>True
 | some (.dK _)=>True
 | some (.dT _)=>True
 | some (.set _ _)=>True
 | some (.ins _ _ _)=>True
 | some (.ext _)=>True
 | _=>False
section
variable{P:Program}{w:World}{H:Hp}{h h':Heap}{x e:γ}{o':HO}
theorem HOk.write(o:HOk P w H h)(d:Mut (H x))(m:e=x∨H e=some (.own x))(k:∀ b u,b≠e->h.get? b=some u->h'.get? b=some u)(j:∃ u,h'.get? e=some u)(l:ObjOk P w (upd H x o') h' x o'):HOk P w (upd H x o') h':=λ b u q=>by
 have nown:∀ c y,H c=some (.own y)->c≠x:=λ c y r z=>by subst z;rw[r] at d;exact d
 have ntup:∀ c f,H c=some (.q f)->c≠x:=λ c f r z=>by subst z;rw[r] at d;exact d
 by_cases g:b=x
 . subst g;rw[qb3] at q;cases q;exact l
 rw[qb4 g] at q;by_cases a:b=e
 . have n:H b=some (.own x):=by
     rcases m with z | z
     . exact absurd (a.trans z) g
     rw[a];exact z
   rw[q] at n;cases n;obtain⟨v,p⟩:=j;exact⟨v,by rw[a];exact p⟩
 refine(o b u q).stay (λ c v i r=>k c v ?_ r) (λ c r=>by rw[qb4 (nown c b r)];exact r) λ c f r=>by rw[qb4 (ntup c f r)];exact r
 rcases i with rfl | i
 . exact a
 rintro rfl;rcases m with z | z
 . exact nown c b i z
 rw[i] at z;cases z;exact g rfl
end
structure Un(fs ex:List γ)(H H':Hp)(h h':Heap):Prop where
 keep:∀ b o,h.get? b=some o->H b=none->b∉fs->b∉ex->h'.get? b=some o
 slot:∀ b o,h.get? b=some o->H b=none->b∈fs->b∉ex->∃ sl,h'.get? b=some { o with slots:=sl }
 free:∀ b o,h.get? b=some o->H b=none->b∉ex->H' b=none
 there:∀ b o,h.get? b=some o->b∉ex->∃ o',h'.get? b=some o'
 tups:∀ b xs,H b=some (.q xs)->H' b=some (.q xs)
 frzs:∀ b o u,H b=some (.frz o u)->H' b=some (.frz o u)
 tbls:∀ b ps,H b=some (.tbl ps)->∃ more,H' b=some (.tbl (ps++more))
section
variable{fs ex:List γ}{H H1 H2:Hp}{h h1 h2 h':Heap}{a x e:γ}{o:HO}
theorem Un.any(u:Un fs ex H H1 h h1){b:γ}{ob:Obj}(q:h.get? b=some ob)(n:H b=none)(a:b∉ex):∃ sl,h1.get? b=some { ob with slots:=sl }:=by
 by_cases c:b∈fs
 . exact u.slot b ob q n c a
 exact⟨ob.slots,u.keep b ob q n c a⟩
theorem Un.trans(a:Un fs ex H H1 h h1)(b:Un fs ex H1 H2 h1 h2):Un fs ex H H2 h h2 where
 keep:=λ c d q n g e=>b.keep c d (a.keep c d q n g e) (a.free c d q n e) g e
 slot:=λ c d q n g e=>by
   obtain⟨p,f⟩:=a.slot c d q n g e;obtain⟨j,e2⟩:=b.slot c _ f (a.free c d q n e) g e;exact⟨j,e2⟩
 free:=λ c d q n e=>by
   obtain⟨k,f⟩:=a.there c d q e;exact b.free c k f (a.free c d q n e) e
 there:=λ c d q e=>by
   obtain⟨k,f⟩:=a.there c d q e;exact b.there c k f e
 tups:=λ c i q=>b.tups c i (a.tups c i q)
 frzs:=λ c d i q=>b.frzs c d i (a.frzs c d i q)
 tbls:=λ c l q=>by
   obtain⟨m,f⟩:=a.tbls c l q;obtain⟨o,e2⟩:=b.tbls c _ f;exact⟨m++o,by rw[e2,Array.append_assoc]⟩
theorem Un.kept(k:∀ b u,h.get? b=some u->h'.get? b=some u):Un fs ex H H h h' :=
 ⟨λ b a q _ _ _=>k b a q,λ b a q _ _ _=>⟨a.slots,k b a q⟩,λ _ _ _ n _=>n,λ b a q _=>⟨a,k b a q⟩,λ _ _ q=>q,λ _ _ _ q=>q,λ _ c q=>⟨#[],by rw[q];simp⟩⟩
theorem Un.refl:Un fs ex H H h h:=Un.kept λ _ _ q=>q
theorem Un.laid(k:∀ b u,h.get? b=some u->h'.get? b=some u)(d:h.objs.size<=a)(c:H a=none):Un fs ex H (upd H a o) h h' where
 keep:=λ b u q _ _ _=>k b u q
 slot:=λ b u q _ _ _=>⟨u.slots,k b u q⟩
 free:=λ b u q n _=>by rw[qb4 (zAl (zAb (zA7 q) d))];exact n
 there:=λ b u q _=>⟨u,k b u q⟩
 tups:=λ b e q=>by rw[qb4 (qc0 q c)];exact q
 frzs:=λ b u e q=>by rw[qb4 (qc0 q c)];exact q
 tbls:=λ b f q=>⟨#[],by rw[qb4 (qc0 q c),q];simp⟩
theorem Un.write(c:Mut (H x))(j:e=x∨H e=some (.own x))(k:∀ b u,b≠e->h.get? b=some u->h'.get? b=some u)(d:∃ u,h'.get? e=some u):Un fs ex H (upd H x o) h h':=by
 have g:∀ b,H b=none->b≠x:=λ b n z=>by subst z;rw[n] at c;exact c
 have i:∀ b,H b=none->b≠e:=λ b n z=>by
   subst z;rcases j with r | r
   . exact g b n r
   rw[n] at r;cases r
 have f:∀ b u,H b=some u->¬ Mut (some u)->b≠x:=λ b u q l z=>by subst z;rw[q] at c;exact l c
 refine⟨λ b u q n _ _=>k b u (i b n) q,λ b u q n _ _=>⟨u.slots,k b u (i b n) q⟩,λ b u q n _=>by rw[qb4 (g b n)];exact n,λ b u q _=>?_,
   λ b m q=>by rw[qb4 (f b _ q λ z=>z)];exact q,λ b u m q=>by rw[qb4 (f b _ q λ z=>z)];exact q,λ b p q=>⟨#[],by rw[qb4 (f b _ q λ z=>z),q];simp⟩⟩
 by_cases a:b=e
 . subst a;exact d
 exact⟨u,k b u a q⟩
end
noncomputable def trk(h:Heap)(H:Hp):List γ:=(List.range h.objs.size).filter λ a=>(H a).isSome
def Hk(h:Heap)(H:Hp):Heap:=W.hideAll h (trk h H)
theorem qak1(h:Heap)(H:Hp):(Hk h H).objs.size=h.objs.size:=W.hideAll_size _ _
theorem qay0{h:Heap}{H:Hp}{b:γ}{o:Obj}(e:h.get? b=some o)(n:H b=none):(Hk h H).get? b=some o :=
 W.hideAll_get _ e λ a=>by
   have q:(H b).isSome=true:=(zB7.mp a).2;rw[n] at q;simp at q
theorem qaH3{h:Heap}{H:Hp}{b:γ}{o:Obj}(e:(Hk h H).get? b=some o):h.get? b=some o/\H b=none:=by
 have a:h.get? b=some o:=W.of_hideAll (trk h H) e;refine⟨a,?_⟩;cases q:H b with
 | none=>rfl
 | some x =>
   have c:b∈trk h H:=zB7.mpr ⟨zAp.mpr (zA7 a),by simp[q]⟩;have z:(Hk h H).get? b=none:=W.hideAll_none (trk h H) c;rw[z] at e;cases e
structure Mod(K:W.Frag)(mg:Str->Option V')(base:Heap):Prop where
 kin:K.In base
 glob:base.Ns L5 mg
 blt:∃ mb,base.Ns builtinsNs mb/\∀ x:Str,x ≠ "__name__" -> mb x=Lw x
 nolimit:base.NoLimit
structure Cx where
 prog:Program
 w:World
 K:W.Frag
 mg:Str->Option V'
 base:Heap
 A:Around
 N:List Str
 s₀:Sh
 H₀:Hp
 env:Env
 outer:List Env
 stack:List Env
 ex:List γ
 fn:Str->Bool
 calm:Bool
 pn:List (γ×Obj)
 xe:V'->Sh->Prop
noncomputable def frs(l:List Env):List γ:=l.filterMap (·.frame)
abbrev Cx.fs(X:Cx):List γ:=frs X.outer
def Vis(sc:Scope)(x:Str):Prop:=sc.names.lookup x=some .local∨sc.names.lookup x=some .cell∨sc.names.lookup x=some .free
def Loc(sc:Scope)(x:Str):Prop:=sc.names.lookup x=some .local∨sc.names.lookup x=some .cell
def Look(env:Env)(h:Heap)(m:Str->Option V')(x:Str)(u:V'):Prop :=
 (env.kindOf x=some .local/\m x=some u)∨((env.kindOf x=some .cell∨env.kindOf x=some .free)/\∃ c,env.cells.lookup x=some c/\h.IsCell c (some u))
structure Cx.Ok(X:Cx):Prop where
 mod:Mod X.K X.mg X.base
 kind:X.env.scope.kind=.function
 glob:X.env.globals=L5
 blt:X.env.builtins=builtinsNs
 above:X.s₀.heap.objs.size<=X.env.locals
 inj:∀ x y c,X.env.cells.lookup x=some c->X.env.cells.lookup y=some c->x=y
 has:∀ x,(X.env.kindOf x=some .cell∨X.env.kindOf x=some .free)->∃ c,X.env.cells.lookup x=some c
 cab:∀ x c,X.fn x=true->X.env.cells.lookup x=some c->X.s₀.heap.objs.size<=c
 hd:X.calm=true->X.A.handled=none
 frames:X.A.frames=some X.stack
 stk:X.stack=X.outer∨(X.stack=X.env::X.outer/\X.env.frame=some X.env.locals)
 exf:∀ b∈X.ex,b≠X.env.locals/\∀ x c,X.env.cells.lookup x=some c->c≠b
 bs:∀ b o,X.base.get? b=some o->X.s₀.heap.get? b=some o/\X.H₀ b=none
 bsz:X.base.objs.size<=X.s₀.heap.objs.size
 noex:∀ b o,X.base.get? b=some o->b∉X.ex
 exfs:∀ b∈X.ex,b∉X.fs
 funs:X.s₀.heap.FunFrames X.base X.outer
 frf:∀ b∈X.fs,X.H₀ b=none
structure M4(X:Cx)(Fb:List (γ×Obj))(σ:List (Option V))(H:Hp)(s:Sh):Prop where
 ok:X.Ok
 os:s.os=X.s₀.os
 bare:AllBare s.gens
 base:Un X.fs X.ex X.H₀ H X.s₀.heap s.heap
 loc:∃ m,s.heap.Ns X.env.locals m/\∀(i:Nat)(x:Str)(v:V),X.N[i]? = some x->σ[i]? = some (some v)->Vis X.env.scope x->∃ u,Mx v u/\Look X.env s.heap m x u
 cell:∀ x c,X.env.cells.lookup x=some c->∃ v,s.heap.IsCell c v
 free:H X.env.locals=none
 freeC:∀ x c,X.env.cells.lookup x=some c->H c=none
 pin:∀ p∈X.pn++Fb,s.heap.get? p.1=some p.2/\H p.1=none/\p.1≠X.env.locals/\p.1∉X.fs/\∀ v,p.2.data≠.cell v
 hok:HOk X.prog X.w H s.heap
 len:σ.length=X.N.length
section
variable{X:Cx}{Fb:List (γ×Obj)}{σ:List (Option V)}{H H':Hp}{s:Sh}{h':Heap}
theorem Cx.Ok.nofr(a:X.Ok){b:γ}{o:Obj}(e:X.base.get? b=some o):b∉X.fs:=λ c=>by
 have:=(a.funs.mem c).1
 rw[e] at this;cases this
theorem M4.bs(I:M4 X Fb σ H s):∀ b o,X.base.get? b=some o->s.heap.get? b=some o/\H b=none:=λ b o e =>
 ⟨I.base.keep b o (I.ok.bs b o e).1 (I.ok.bs b o e).2 (I.ok.nofr e) (I.ok.noex b o e),I.base.free b o (I.ok.bs b o e).1 (I.ok.bs b o e).2 (I.ok.noex b o e)⟩
theorem M4.bk(I:M4 X Fb σ H s):∀ b o,X.base.get? b=some o->s.heap.get? b=some o:=λ b o e=>(I.bs b o e).1
theorem M4.mod(I:M4 X Fb σ H s):Mod X.K X.mg X.base:=I.ok.mod
theorem M4.kIn(I:M4 X Fb σ H s):X.K.In s.heap:=I.ok.mod.kin.keeps I.bk
theorem M4.lt(I:M4 X Fb σ H s):X.env.locals < s.heap.objs.size:=let ⟨_,hn,_⟩:=I.loc;hn.lt
theorem M4.sz(I:M4 X Fb σ H s):X.s₀.heap.objs.size<=s.heap.objs.size:=zAn I.ok.above (Nat.le_of_lt I.lt)
theorem M4.nofs(I:M4 X Fb σ H s){a:γ}(h:s.heap.objs.size<=a):a∉X.fs:=λ b=>by
 obtain⟨_,o,c,_⟩:=I.ok.funs.mem b;exact absurd (zAb (zA7 c) (zAn I.sz h)) (zC0 _)
theorem M4.cne(I:M4 X Fb σ H s):∀ x c,X.env.cells.lookup x=some c->c≠X.env.locals:=λ x c e z=>by
 obtain⟨v,o,d,f⟩:=I.cell x c e;obtain⟨m,⟨g,h,i,a,b,_⟩,_⟩:=I.loc;rw[z,a] at d;cases d;rw[b] at f;cases f
theorem M4.funs(I:M4 X Fb σ H s):s.heap.FunFrames X.base X.outer:=by
 have all:∀(l:List Env),(∀ b∈frs l,b∈X.fs)->X.s₀.heap.FunFrames X.base l->s.heap.FunFrames X.base l:=by
   intro l
   induction l with
   | nil=>intro _ _;trivial
   | cons g r h =>
     intro f i;obtain⟨j,⟨L,o,a,k,m,n⟩,p⟩:=i;have c:L∈X.fs:=f L (by unfold frs;rw[zC5,a];exact zAc);obtain⟨q,e⟩:=I.base.slot L o m (I.ok.frf L c) c λ z=>I.ok.exfs L z c
     exact⟨j,⟨L,_,a,k,e,n⟩,h (λ b d=>f b (by unfold frs;rw[zC5,a];exact zA5 _ d)) p⟩
 exact all X.outer (λ _ d=>d) I.ok.funs
theorem M4.stack(I:M4 X Fb σ H s):s.heap.FunFrames X.base X.stack:=by
 rcases I.ok.stk with e | ⟨e,a⟩
 . rw[e];exact I.funs
 rw[e];obtain⟨m,b,_⟩:=I.loc;refine .cons (by rw[I.ok.kind];decide) a b ?_ I.funs;exact Heap.get?_none_of_le (zAn I.ok.bsz I.ok.above)
theorem M4.stkSub(I:M4 X Fb σ H s):∀ b∈frs X.stack,b∈X.env.locals::X.fs:=λ b a=>by
 rcases I.ok.stk with e | ⟨e,c⟩
 . rw[e] at a;exact zA5 _ a
 rw[e] at a;unfold frs at a;rw[zC5,c] at a;exact a
theorem M4.stkFree(I:M4 X Fb σ H s):∀ b∈frs X.stack,H b=none:=λ b a=>by
 rcases zAm.mp (I.stkSub b a) with e | a
 . rw[e];exact I.free
 obtain⟨_,o,c,_⟩:=I.ok.funs.mem a;exact I.base.free b o c (I.ok.frf b a) λ z=>I.ok.exfs b z a
theorem M4.step{g':Array GenState}{d':Drawn}(I:M4 X Fb σ H s)(f:∀ b∈ch,(b∈X.ex∨X.s₀.heap.objs.size<=b)/\b≠X.env.locals/\(∀ x c,X.env.cells.lookup x=some c->c≠b)/\∀ p∈X.pn++Fb,p.1≠b)(keep:∀ b o,b≠X.env.locals->b∉X.fs->b∉ch->s.heap.get? b=some o->H b=none->h'.get? b=some o)(slot:∀ b o,b≠X.env.locals->b∈X.fs->b∉ch->s.heap.get? b=some o->H b=none->∃ sl,h'.get? b=some { o with slots:=sl })(free:∀ b o,b∉ch->s.heap.get? b=some o->H b=none->H' b=none)(there:∀ b o,b∉ch->s.heap.get? b=some o->∃ o',h'.get? b=some o')(tups:∀ b xs,H b=some (.q xs)->H' b=some (.q xs))(frzs:∀ b o u,H b=some (.frz o u)->H' b=some (.frz o u))(tbls:∀ b ps,H b=some (.tbl ps)->∃ more,H' b=some (.tbl (ps++more)))(ns:∀ m,s.heap.Ns X.env.locals m->h'.Ns X.env.locals m)(B:HOk X.prog X.w H' h')(K:AllBare g') :
   M4 X Fb σ H' { s with heap:=h',gens:=g',drawn:=d',toks:=t' }:=by
 have A:∀ b o,X.s₀.heap.get? b=some o->b≠X.env.locals:=λ b o e=>zAl (zAb (zA7 e) I.ok.above)
 have h:∀ b o,X.s₀.heap.get? b=some o->b∉X.ex->b∉ch:=λ b o e a t=>by
   rcases (f b t).1 with z | z
   . exact a z
   exact absurd (zAb (zA7 e) z) (zC0 _)
 have cellK:∀ x c,X.env.cells.lookup x=some c->∀ v,s.heap.IsCell c v->h'.IsCell c v:=λ x c e v ⟨o,y,C⟩=>by
   have g:c∉ch:=λ z=>(f c z).2.2.1 x c e rfl
   by_cases E:c∈X.fs
   . obtain⟨sl,q⟩:=slot c o (I.cne x c e) E g y (I.freeC x c e)
     exact⟨_,q,C⟩
   exact⟨o,keep c o (I.cne x c e) E g y (I.freeC x c e),C⟩
 refine⟨I.ok,I.os,K,⟨λ b o e n t a=>?_,λ b o e n t a=>?_,λ b o e n a=>?_,λ b o e a=>?_,λ b xs e=>tups b xs (I.base.tups b xs e),λ b o xs e=>frzs b o xs (I.base.frzs b o xs e),λ b ps e=>?_⟩,?_,λ x c e=>?_,?_,λ x c e=>?_,λ p F=>?_,B,I.len⟩
 . exact keep b o (A b o e) t (h b o e a) (I.base.keep b o e n t a) (I.base.free b o e n a)
 . obtain⟨sl,j⟩:=I.base.slot b o e n t a
   obtain⟨D,e2⟩:=slot b _ (A b o e) t (h b o e a) j (I.base.free b o e n a);exact⟨D,e2⟩
 . obtain⟨o',j⟩:=I.base.there b o e a
   exact free b o' (h b o e a) j (I.base.free b o e n a)
 . obtain⟨o',j⟩:=I.base.there b o e a
   exact there b o' (h b o e a) j
 . obtain⟨L,j⟩:=I.base.tbls b ps e
   obtain⟨M,e2⟩:=tbls b _ j;exact⟨L++M,by rw[e2,Array.append_assoc]⟩
 . obtain⟨m,N,O⟩:=I.loc
   refine⟨m,ns m N,λ i x v j e2 P=>?_⟩;obtain⟨u,r,l⟩:=O i x v j e2 P;refine⟨u,r,?_⟩;rcases l with l | ⟨k,c,e,z⟩
   . exact .inl l
   exact .inr ⟨k,c,e,cellK x c e _ z⟩
 . obtain⟨v,z⟩:=I.cell x c e
   exact⟨v,cellK x c e v z⟩
 . obtain⟨m,⟨o,_,_,y,_⟩,_⟩:=I.loc
   exact free _ o (λ z=>(f _ z).2.1 rfl) y I.free
 . obtain⟨v,o,y,C⟩:=I.cell x c e
   exact free c o (λ z=>(f c z).2.2.1 x c e rfl) y (I.freeC x c e)
 obtain⟨e,n,G,J,d⟩:=I.pin p F;have g:p.1∉ch:=λ z=>(f p.1 z).2.2.2 p F rfl
 exact⟨keep p.1 p.2 G J g e n,free p.1 p.2 g e n,G,J,d⟩
theorem M4.un(I:M4 X Fb σ H s)(u:Un X.fs [] H H' s.heap h')(c:HOk X.prog X.w H' h'):M4 X Fb σ H' { s with heap:=h',toks:=t' }:=by
 obtain⟨m,⟨o,l,p,h,r⟩,_⟩:=id I.loc;obtain⟨q,i⟩:=u.any h I.free (by simp);exact I.step (g':=s.gens) (d':=s.drawn) (ch:=[]) (λ _ z=>nomatch z) (λ b o _ d _ e n=>u.keep b o e n d (by simp)) (λ b o _ d _ e n=>u.slot b o e n d (by simp)) (λ b o _ e n=>u.free b o e n (by simp)) (λ b o _ e=>u.there b o e (by simp)) u.tups u.frzs u.tbls (λ t j=>by
   obtain⟨v,f,g,a,k⟩:=j;rw[h] at a;cases a;exact⟨_,f,g,i,k⟩) c I.bare
theorem M4.call{g':Array GenState}{d':Drawn}(I:M4 X Fb σ H s)(u:Un (frs X.stack) ch H H' s.heap h')(g:HOk X.prog X.w H' h')(l:AllBare g')(d:∀ b∈ch,(b∈X.ex∨X.s₀.heap.objs.size<=b)/\b≠X.env.locals/\(∀ x c,X.env.cells.lookup x=some c->c≠b)/\∀ p∈X.pn++Fb,p.1≠b) :
   M4 X Fb σ H' { s with heap:=h',gens:=g',drawn:=d',toks:=t' }:=by
 obtain⟨m,⟨o,y,A,k,r⟩,_⟩:=id I.loc;obtain⟨B,h⟩:=u.any k I.free λ z=>(d _ z).2.1 rfl
 exact I.step (ch:=ch) d (λ b o h q a e n=>u.keep b o e n (λ z=>(zAm.mp (I.stkSub b z)).elim h q) a) (λ b o _ _ a e n=>u.any e n a) (λ b o a e n=>u.free b o e n a) (λ b o a e=>u.there b o e a) u.tups u.frzs u.tbls (λ C t=>by
   obtain⟨D,i,j,f,v⟩:=t;rw[k] at f;cases f;exact⟨_,i,j,h,v⟩) g l
theorem M4.turned{it:γ}(I:M4 X Fb σ H s)(k:∀ b o,b≠it->s.heap.get? b=some o->h'.get? b=some o)(g:H it=none)(f:it≠X.env.locals)(h1:it∈X.ex∨X.s₀.heap.objs.size<=it)(h2:∀ x c,X.env.cells.lookup x=some c->c≠it)(h:∀ p∈X.pn++Fb,p.1≠it):M4 X Fb σ H { s with heap:=h',toks:=t' }:=by
 have d:∀ b u,H b=some u->b≠it:=λ b u e z=>by rw[z,g] at e;cases e
 refine I.step (g':=s.gens) (d':=s.drawn) (ch:=[it]) (λ b i=>?_) (λ b o _ _ a e _=>k b o (λ z=>a (by simp[z])) e) (λ b o _ _ a e _=>⟨o.slots,k b o (λ z=>a (by simp[z])) e⟩) (λ _ _ _ _ n=>n)
   (λ b o a e=>⟨o,k b o (λ z=>a (by simp[z])) e⟩) (λ _ _ e=>e) (λ _ _ _ e=>e) (λ b y e=>⟨#[],by rw[e];simp⟩) (λ m j=>?_) (λ b u e=>?_) I.bare
 . have e:b=it:=by simpa using i
   subst e;exact⟨h1,f,h2,h⟩
 . obtain⟨o,l,t,w,r⟩:=j
   exact⟨o,l,t,k _ o (Ne.symm f) w,r⟩
 refine(I.hok b u e).stay (λ c v a q=>k c v ?_ q) (λ _ q=>q) λ _ _ q=>q
 rcases a with z | z
 . rw[z];exact d b u e
 exact d c _ z
theorem M4.tok(I:M4 X Fb σ H s)(t:Nat):M4 X Fb σ H { s with toks:=t }:=I.un (h':=s.heap) (t':=t) Un.refl I.hok
theorem M4.kept(I:M4 X Fb σ H s)(k:∀ b u,s.heap.get? b=some u->h'.get? b=some u):M4 X Fb σ H { s with heap:=h',toks:=t' }:=I.un (Un.kept k) (I.hok.kept k)
theorem M4.laid{a:γ}{o:HO}(I:M4 X Fb σ H s)(k:∀ b u,s.heap.get? b=some u->h'.get? b=some u)(c:s.heap.objs.size<=a)(d:ObjOk X.prog X.w (upd H a o) h' a o) :
   M4 X Fb σ (upd H a o) { s with heap:=h',toks:=t' }:=I.un (Un.laid k c (I.hok.fresh c)) (I.hok.laid k c d)
theorem M4.write{x e:γ}{o:HO}(I:M4 X Fb σ H s)(d:Mut (H x))(f:e=x∨H e=some (.own x))(k:∀ b u,b≠e->s.heap.get? b=some u->h'.get? b=some u)(a:∃ u,h'.get? e=some u)(c:ObjOk X.prog X.w (upd H x o) h' x o):M4 X Fb σ (upd H x o) { s with heap:=h',toks:=t' }:=I.un (Un.write d f k a) (I.hok.write d f k a c)
theorem M4.weak{σ':List (Option V)}(I:M4 X Fb σ H s)(a:σ'.length=σ.length)(w:∀(i:Nat) v,σ'[i]? = some (some v)->σ[i]? = some (some v)):M4 X Fb σ' H s :=
 ⟨I.ok,I.os,I.bare,I.base,let ⟨m,hn,hl'⟩:=I.loc;⟨m,hn,λ i x v b e2 c=>hl' i x v b (w i v e2) c⟩,I.cell,I.free,I.freeC,I.pin,I.hok,a.trans I.len⟩
theorem M4.pins_of{pins':List (γ×Obj)}(I:M4 X Fb σ H s)(h:∀ p∈pins',s.heap.get? p.1=some p.2/\H p.1=none/\p.1≠X.env.locals/\p.1∉X.fs/\∀ v,p.2.data≠.cell v):M4 X pins' σ H s :=
 ⟨I.ok,I.os,I.bare,I.base,I.loc,I.cell,I.free,I.freeC,λ p a=>(zAe.mp a).elim (λ z=>I.pin p (zC1 _ z)) (h p),I.hok,I.len⟩
theorem qK3(c:N.Nodup){j:Nat}{x:Str}(a:N[i]? = some x)(b:N[j]? = some x):i=j:=by
 obtain⟨e,d⟩:=zA6.mp a;obtain⟨f,e2⟩:=zA6.mp b;exact(List.getElem_inj c).mp (d.trans e2.symm)
theorem qag0{A:Around}{E:V'->Sh->Prop}{x:Str}{v:V}{u:V'}{Q:Unit->Sh->Prop}(I:M4 X Fb σ H s)(hN:X.N.Nodup)(hi:X.N[i]? = some x)(t:Loc X.env.scope x)(r:Mx v u)(h:∀ s',M4 X Fb (σ.set i (some v)) H s'->(∃ a,Heap.SameBut a s.heap s'.heap/\(a=X.env.locals∨X.env.cells.lookup x=some a))->Q () s')(hf:X.fn x=true∨X.env.scope.names.lookup x=some .local:=by first | exact .inl rfl | exact .inr rfl | assumption):wpAny M A (storeName X.env x u) Q E s:=by
 obtain⟨m,W,hl⟩:=id I.loc;have K:(X.env.scope.kind == .class||(X.env.scope.kind == .module&&X.env.locals != X.env.globals))=false:=by rw[I.ok.kind];rfl
 have hiσ:i < σ.length:=by rw[I.len];exact(zA6.mp hi).1
 have C:=I.cne;have tracked:∀{a:γ}{J:Heap},(∃ o,s.heap.get? a=some o/\H a=none)->Heap.SameBut a s.heap J->HOk X.prog X.w H J:=λ{a J} ha f b ob e=>by
   obtain⟨_,_,hfree⟩:=ha;refine(I.hok b ob e).stay (λ c S l q=>(f.2 c ?_).trans q) (λ _ q=>q) λ _ _ q=>q
   rintro rfl;rcases l with rfl | l
   . rw[hfree] at e;cases e
   rw[hfree] at l;cases l
 rcases t with B | B
 . refine wpAny_storeName_local B W (λ J Y f=>?_) K
   obtain⟨oL,_,_,Z,_⟩:=id W;refine h _ ⟨I.ok,I.os,I.bare,⟨λ b o e n D t=>?_,λ b o e n D t=>?_,I.base.free,λ b o e t=>?_,I.base.tups,I.base.frzs,I.base.tbls⟩,⟨_,Y,λ j y v' g e2 e3=>?_⟩,λ y c e=>?_,I.free,I.freeC,λ p hp=>?_,tracked ⟨oL,Z,I.free⟩ f,by simpa using I.len⟩ ⟨_,f,.inl rfl⟩
   . exact(f.2 b (zAl (zAb (zA7 e) I.ok.above))).trans (I.base.keep b o e n D t)
   . obtain⟨sl,g⟩:=I.base.slot b o e n D t
     exact⟨sl,(f.2 b (zAl (zAb (zA7 e) I.ok.above))).trans g⟩
   . obtain⟨o',g⟩:=I.base.there b o e t
     exact⟨o',(f.2 b (zAl (zAb (zA7 e) I.ok.above))).trans g⟩
   . by_cases F:j=i
     . subst F
       rw[hi] at g;cases g;rw[zBw hiσ] at e2;cases e2;exact⟨u,r,.inl ⟨B,by simp⟩⟩
     rw[zBf (Ne.symm F)] at e2;obtain⟨u',r',q⟩:=hl j y v' g e2 e3;refine⟨u',r',?_⟩;rcases q with⟨k,e⟩ | ⟨k,c,e,z⟩
     . refine .inl ⟨k,?_⟩
       have:y≠x:=λ e=>F (qK3 hN g (e ▸ hi))
       simp[this,e]
     exact .inr ⟨k,c,e,z.sameBut f (C y c e)⟩
   . obtain⟨S,z⟩:=I.cell y c e
     exact⟨S,z.sameBut f (C y c e)⟩
   obtain⟨e,n,T,nf,d⟩:=I.pin p hp;exact⟨(f.2 p.1 T).trans e,n,T,nf,d⟩
 have G:X.fn x=true:=by
   rcases hf with z | z
   . exact z
   rw[z] at B;cases B
 obtain⟨c,l⟩:=I.ok.has x (.inl B);obtain⟨S,z⟩:=I.cell x c l;refine wpAny_storeName_cell I.ok.kind B l z (λ J L f=>?_);obtain⟨oc,O,P⟩:=id z;refine h { s with heap:=J } ⟨I.ok,I.os,I.bare,⟨λ b o e n D t=>?_,λ b o e n D t=>?_,I.base.free,λ b o e t=>?_,I.base.tups,I.base.frzs,I.base.tbls⟩,⟨m,W.sameBut f (Ne.symm (C x c l)),λ j y v' g e2 e3=>?_⟩,λ y U e=>?_,I.free,I.freeC,λ p hp=>?_,tracked ⟨oc,O,I.freeC x c l⟩ f,by simpa using I.len⟩ ⟨c,f,.inr l⟩
 . exact(f.2 b (zAl (zAb (zA7 e) (I.ok.cab x c G l)))).trans (I.base.keep b o e n D t)
 . obtain⟨sl,g⟩:=I.base.slot b o e n D t
   exact⟨sl,(f.2 b (zAl (zAb (zA7 e) (I.ok.cab x c G l)))).trans g⟩
 . obtain⟨o',g⟩:=I.base.there b o e t
   exact⟨o',(f.2 b (zAl (zAb (zA7 e) (I.ok.cab x c G l)))).trans g⟩
 . by_cases F:j=i
   . subst F
     rw[hi] at g;cases g;rw[zBw hiσ] at e2;cases e2;exact⟨u,r,.inr ⟨.inl B,c,l,L⟩⟩
   rw[zBf (Ne.symm F)] at e2;obtain⟨u',r',q⟩:=hl j y v' g e2 e3;refine⟨u',r',?_⟩;rcases q with q | ⟨k,U,e,z'⟩
   . exact .inl q
   refine .inr ⟨k,U,e,z'.sameBut f ?_⟩;rintro rfl;exact F (qK3 hN g (I.ok.inj _ _ _ e l ▸ hi))
 . by_cases R:U=c
   . subst R;exact⟨_,L⟩
   obtain⟨w2,z2⟩:=I.cell y U e;exact⟨w2,z2.sameBut f R⟩
 obtain⟨e,n,T,nf,d⟩:=I.pin p hp;refine⟨(f.2 p.1 ?_).trans e,n,T,nf,d⟩;intro q;rw[q,O] at e;have q':oc=p.2:=Option.some.inj e;exact d S (by rw[<- q'];exact P)
theorem qz4{A:Around}{E:V'->Sh->Prop}{x:Str}{v:V}{u:V'}{Q:Unit->Sh->Prop}(I:M4 X Fb σ H s)(a:X.N.Nodup)(hi:X.N[i]? = some x)(b:Loc X.env.scope x)(r:Mx v u)(h:∀ s',M4 X Fb (σ.set i (some v)) H s'->Q () s')(c:X.fn x=true∨X.env.scope.names.lookup x=some .local:=by first | exact .inl rfl | exact .inr rfl | assumption):wpAny M A (storeName X.env x u) Q E s :=
 qag0 I a hi b r (λ s' I' _=>h s' I') c
theorem M4.call'{s':Sh}(I:M4 X Fb σ H s)(i:s'.os=s.os)(u:Un (frs X.stack) ch H H' s.heap s'.heap)(a:HOk X.prog X.w H' s'.heap)(j:AllBare s'.gens)(d:∀ b∈ch,(b∈X.ex∨X.s₀.heap.objs.size<=b)/\b≠X.env.locals/\(∀ x c,X.env.cells.lookup x=some c->c≠b)/\∀ p∈X.pn++Fb,p.1≠b):M4 X Fb σ H' s':=by
 obtain⟨l,f,g,h,k⟩:=s';have e:k=s.os:=i;subst e;exact I.call (g':=f) (t':=h) (d':=g) u a j d
end
abbrev XK:=V'->Option γ->Hp->Prop
abbrev St:=List (Option V)
abbrev VK:=V->Hp->Prop
abbrev TE:=St->Hp->VK->Prop
abbrev TT:=St->Hp->(Bool->Hp->Prop)->Prop
abbrev TA:=St->Hp->(List V->Hp->Prop)->Prop
structure Bm where
 nx:St->Hp->Prop
 rt:VK
 bk:St->Hp->Prop:=λ _ _=>False
 ct:St->Hp->Prop:=λ _ _=>False
abbrev TS:=Bm->St->Hp->Prop
def EP(X:Cx)(Fb:List (γ×Obj))(σ:St)(Q:VK)(u:V')(s':Sh):Prop:=∃ v H',M4 X Fb σ H' s'/\Mx v u/\Q v H'
def TP(X:Cx)(Fb:List (γ×Obj))(σ:St)(Q:Bool->Hp->Prop)(b:Bool)(s':Sh):Prop:=∃ H',M4 X Fb σ H' s'/\Q b H'
def AP(X:Cx)(Fb:List (γ×Obj))(σ:St)(Q:List V->Hp->Prop)(us:List V')(s':Sh):Prop:=∃ vs H',M4 X Fb σ H' s'/\Mz vs us/\Q vs H'
def SP(X:Cx)(Fb:List (γ×Obj))(D:Bm)(f:Flow)(s':Sh):Prop :=
 match f with
 | .next=>∃ σ' H',M4 X Fb σ' H' s'/\D.nx σ' H'
 | .brk=>∃ σ' H',M4 X Fb σ' H' s'/\D.bk σ' H'
 | .cont=>∃ σ' H',M4 X Fb σ' H' s'/\D.ct σ' H'
 | .ret u=>∃ v σ' H',M4 X Fb σ' H' s'/\Mx v u/\D.rt v H'
def PE(X:Cx)(e:Expr)(t:TE):Prop :=
 ∀(Fb:List (γ×Obj))(s:Sh)(σ:St)(H:Hp)(Q:VK),M4 X Fb σ H s->t σ H Q->wpAny (model X.prog X.w) X.A (eval e X.env) (EP X Fb σ Q) X.xe s
def PT(X:Cx)(e:Expr)(t:TT):Prop :=
 ∀(Fb:List (γ×Obj))(s:Sh)(σ:St)(H:Hp)(Q:Bool->Hp->Prop),M4 X Fb σ H s->t σ H Q->wpAny (model X.prog X.w) X.A (isTrue e X.env (eval e X.env)) (TP X Fb σ Q) X.xe s
def PW(X:Cx)(e:Expr)(t:TT):Prop :=
 ∀(whole:Sem V')(Fb:List (γ×Obj))(s:Sh)(σ:St)(H:Hp)(Q:Bool->Hp->Prop),M4 X Fb σ H s->t σ H Q->wpAny (model X.prog X.w) X.A (isTrue e X.env whole) (TP X Fb σ Q) X.xe s
theorem PW.pt{X:Cx}{e:Expr}{t:TT}(h:PW X e t):PT X e t:=h _
def PA(X:Cx)(es:List Expr)(t:TA):Prop :=
 ∀(pos:Pos)(Fb:List (γ×Obj))(s:Sh)(σ:St)(H:Hp)(Q:List V->Hp->Prop),M4 X Fb σ H s->t σ H Q->wpAny (model X.prog X.w) X.A (spliced (backTo pos (Lq es X.env))) (AP X Fb σ Q) X.xe s
def PS(X:Cx)(st:Stmt)(t:TS):Prop :=
 ∀(Fb:List (γ×Obj))(s:Sh)(σ:St)(H:Hp)(D:Bm),M4 X Fb σ H s->t D σ H->wpAny (model X.prog X.w) X.A (exec st X.env) (SP X Fb D) X.xe s
def PSs(X:Cx)(st:List Stmt)(t:TS):Prop :=
 ∀(Fb:List (γ×Obj))(s:Sh)(σ:St)(H:Hp)(D:Bm),M4 X Fb σ H s->t D σ H->wpAny (model X.prog X.w) X.A (execs st X.env) (SP X Fb D) X.xe s
theorem thn{t:Sem α}{Q Q':α->Sh->Prop}{A:Around}{E:V'->Sh->Prop}{s:Sh}(h:wpAny M A t Q E s)(b:∀ a s,Q a s->Q' a s):wpAny M A t Q' E s:=L9 h b λ _ _ x=>x
section
variable{X:Cx}
theorem bin{a b:Expr}{ta tb:TE}(d:PE X a ta)(e:PE X b tb){Fb:List (γ×Obj)}{s:Sh}{σ:St}{H:Hp}{R:V->V->Hp->Prop}(I:M4 X Fb σ H s)(h:ta σ H λ x H1=>tb σ H1 λ y H2=>R x y H2){Q:α->Sh->Prop}{f:V'->V'->Sem α}(g:∀ v u s2 x y H2,M4 X Fb σ H2 s2->Mx x v->Mx y u->R x y H2->wpAny (model X.prog X.w) X.A (f v u) Q X.xe s2) :
   wpAny (model X.prog X.w) X.A (eval a X.env) (λ v s₁=>wpAny (model X.prog X.w) X.A (eval b X.env) (λ u s₂=>wpAny (model X.prog X.w) X.A (f v u) Q X.xe s₂) X.xe s₁) X.xe s:=by
 refine thn (d Fb s σ H _ I h) λ v i c=>?_
 obtain⟨x,H1,I1,j,k⟩:=c;refine thn (e Fb i σ H1 _ I1 k) λ u s2 c=>?_
 obtain⟨y,H2,I2,l,q2⟩:=c;exact g v u s2 x y H2 I2 j l q2
def Hl(i:Nat):TE:=λ σ H Q=>∃ v,σ[i]? = some (some v)/\Q v H
def tC(v:V):TE:=λ _ H Q=>Q v H
theorem qp1{x:Str}{pos:Pos}(f:X.N[i]? = some x)(g:Vis X.env.scope x)(b:N' x:=by decide)(d:(x == ("__classdict__" : Str))=false:=by decide):PE X (.Name x pos) (Hl i):=by
 intro Fb s σ H Q I h;obtain⟨v,e,h⟩:=h;obtain⟨m,j,k⟩:=I.loc;obtain⟨u,r,l⟩:=k i x v f e g;have fin:EP X Fb σ Q u s:=⟨v,H,I,r,h⟩
 rcases l with⟨a,hm⟩ | ⟨a,c,hc,hcell⟩
 . exact wpAny_Name (wpAny_loadName_local I.ok.kind a j hm fin) b
 rcases a with a | a
 . exact wpAny_Name (wpAny_loadName_cell I.ok.kind a hc hcell fin) b
 exact wpAny_Name (wpAny_loadName_free I.ok.kind a hc hcell fin d) b
theorem qJ5{i j pos}:PE X (.Constant (.int i) j pos) (tC (.int i)):=λ _ _ _ H _ I h=>wpAny_Constant_int ⟨.int i,H,I.tok _,⟨_,rfl⟩,h⟩
theorem pe_bl{b j pos}:PE X (.Constant (.bool b) j pos) (tC (.bl b)):=λ _ _ _ H _ I h=>Constant_bool ⟨.bl b,H,I,rfl,h⟩
theorem qaP3{j pos}:PE X (.Constant .none j pos) (tC .non):=λ _ _ _ H _ I h=>Constant_none ⟨.non,H,I,rfl,h⟩
theorem qaP0{x j pos}:PE X (.Constant (.str x) j pos) (tC (.str x)):=λ _ _ _ H _ I h=>Calls.Constant_str ⟨.str x,H,I.tok _,⟨_,rfl⟩,h⟩
def Gl(X:Cx)(x:Str):Prop:=X.env.kindOf x=some .globalImplicit
theorem qF0{E:V'->Sh->Prop}{Fb:List (γ×Obj)}{s:Sh}{σ:St}{H:Hp}{x:Str}{u:V'}{pos:Pos}{Q:V'->Sh->Prop}(I:M4 X Fb σ H s)(a:Gl X x)(hm:X.mg x=some u)(h:Q u s)(b:N' x:=by decide):wpAny (model X.prog X.w) X.A (eval (.Name x pos) X.env) Q E s :=
 Calls.Name_function_global I.ok.kind a (Calls.loadGlobal_global (by rw[I.ok.glob];exact I.mod.glob.keeps I.bk) hm h) b
theorem qZ7{E:V'->Sh->Prop}{Fb:List (γ×Obj)}{s:Sh}{σ:St}{H:Hp}{x:Str}{u:V'}{pos:Pos}{Q:V'->Sh->Prop}(I:M4 X Fb σ H s)(a:Gl X x)(hm:X.mg x=none)(b:Lw x=some u)(h:Q u s)(c:x ≠ "__name__" := by decide)(d:N' x:=by decide):wpAny (model X.prog X.w) X.A (eval (.Name x pos) X.env) Q E s:=by
 obtain⟨g,e,f⟩:=I.mod.blt;exact Calls.Name_function_global I.ok.kind a (Calls.loadGlobal_builtin (by rw[I.ok.glob];exact I.mod.glob.keeps I.bk) hm (by rw[I.ok.blt];exact e.keeps I.bk) ((f x c).trans b) h) d
theorem qX5{x:Str}{v:V}{u:V'}{pos:Pos}(a:Gl X x)(hm:X.mg x=some u)(r:Mx v u)(b:N' x:=by decide):PE X (.Name x pos) (tC v) :=
 λ _ _ _ H _ I h=>qF0 I a hm ⟨v,H,I,r,h⟩ b
theorem qaG1{x:Str}{v:V}{u:V'}{pos:Pos}(a:Gl X x)(hm:X.mg x=none)(b:Lw x=some u)(r:Mx v u)(c:x ≠ "__name__" := by decide)(d:N' x:=by decide):PE X (.Name x pos) (tC v) :=
 λ _ _ _ H _ I h=>qZ7 I a hm b ⟨v,H,I,r,h⟩ c d
variable{a b:Expr}{ta tb:TE}{pos:Pos}
def tB(t:TE):TT:=λ σ H Q=>t σ H λ x H1=>∃ c,x=.bl c/\Q c H1
theorem qaD7{e:Expr}{t:TE}(h:PE X e t)(b:∀ whole,isTrue e X.env whole=(do let v <- whole;standAt e.pos;holding [v] (truthy v)):=by intro _;rfl):PT X e (tB t):=by
 intro Fb s σ H Q I c;refine isTrue_plain (thn (h Fb s σ H _ I c) λ v i a=>?_) (b _);obtain⟨x,H1,I1,f,g⟩:=a;obtain⟨d,rfl,q⟩:=g;cases f;exact Lx ⟨H1,I1,q⟩
variable{tA tB':TT}{rest:List Expr}
def tAnd(t u:TT):TT:=λ σ H Q=>t σ H λ c H1=>if c=true then u σ H1 Q else Q false H1
def tOr(t u:TT):TT:=λ σ H Q=>t σ H λ c H1=>if c=true then Q true H1 else u σ H1 Q
def tNot(t:TT):TT:=λ σ H Q=>t σ H λ c H1=>Q (!c) H1
theorem qaD5(b:PT X a tA):PW X (.BoolOp .And [a] pos) tA:=by
 intro d Fb s σ H Q I h;refine isTrue_and (thn (b Fb s σ H Q I h) λ c f e=>?_);cases c with
 | true=>exact isTrue_and_nil e
 | false=>exact e
theorem qaN9(b:PT X a tA):PW X (.BoolOp .Or [a] pos) tA:=by
 intro d Fb s σ H Q I h;refine isTrue_or (thn (b Fb s σ H Q I h) λ c f e=>?_);cases c with
 | false=>exact isTrue_or_nil e
 | true=>exact e
theorem qaO0(f:PT X a tA)(g:PW X (.BoolOp .And (b::rest) pos) tB'):PW X (.BoolOp .And (a::b::rest) pos) (tAnd tA tB'):=by
 intro i Fb s σ H Q I h;refine isTrue_and (thn (f Fb s σ H _ I h) λ c j d=>?_);obtain⟨H1,I1,e⟩:=d;cases c with
 | true=>exact g i Fb j σ H1 Q I1 e
 | false=>exact⟨H1,I1,e⟩
theorem pw_or(f:PT X a tA)(g:PW X (.BoolOp .Or (b::rest) pos) tB'):PW X (.BoolOp .Or (a::b::rest) pos) (tOr tA tB'):=by
 intro i Fb s σ H Q I h;refine isTrue_or (thn (f Fb s σ H _ I h) λ c j d=>?_);obtain⟨H1,I1,e⟩:=d;cases c with
 | true=>exact⟨H1,I1,e⟩
 | false=>exact g i Fb j σ H1 Q I1 e
theorem qaO1(b:PT X a tA):PT X (.UnaryOp .Not a pos) (tNot tA):=by
 intro Fb s σ H Q I h;exact isTrue_not (b Fb s σ H (λ c H1=>Q (!c) H1) I h)
def tAndV(ta tb:TE):TE:=λ σ H Q=>ta σ H λ x H1=>∃ c,x=.bl c/\if c=true then tb σ H1 Q else Q (.bl false) H1
def tOrV(ta tb:TE):TE:=λ σ H Q=>ta σ H λ x H1=>∃ c,x=.bl c/\if c=true then Q (.bl true) H1 else tb σ H1 Q
def tNotV(ta:TE):TE:=λ σ H Q=>ta σ H λ x H1=>∃ c,x=.bl c/\Q (.bl (!c)) H1
theorem qaF3{op}{t:TE}(h:PE X a t):PE X (.BoolOp op [a] pos) t:=λ Fb s σ H Q I b=>BoolOp_one (h Fb s σ H Q I b)
theorem qaG2(f:PE X a ta)(g:PE X (.BoolOp .And (b::rest) pos) tb):PE X (.BoolOp .And (a::b::rest) pos) (tAndV ta tb):=by
 intro Fb s σ H Q I h;refine BoolOp_and (thn (f Fb s σ H _ I h) λ v i e=>?_);obtain⟨x,H1,I1,j,d⟩:=e;obtain⟨c,rfl,d⟩:=d;cases j;refine Lx ?_;cases c with
 | true=>exact g Fb i σ H1 Q I1 d
 | false=>exact⟨.bl false,H1,I1,rfl,d⟩
theorem pe_or(f:PE X a ta)(g:PE X (.BoolOp .Or (b::rest) pos) tb):PE X (.BoolOp .Or (a::b::rest) pos) (tOrV ta tb):=by
 intro Fb s σ H Q I h;refine BoolOp_or (thn (f Fb s σ H _ I h) λ v i e=>?_);obtain⟨x,H1,I1,j,d⟩:=e;obtain⟨c,rfl,d⟩:=d;cases j;refine Lx ?_;cases c with
 | false=>exact g Fb i σ H1 Q I1 d
 | true=>exact⟨.bl true,H1,I1,rfl,d⟩
theorem qaP2(e:PE X a ta):PE X (.UnaryOp .Not a pos) (tNotV ta):=by
 intro Fb s σ H Q I h;refine UnaryOp_ (thn (e Fb s σ H _ I h) λ v g b=>?_);obtain⟨x,H1,I1,f,d⟩:=b;obtain⟨c,rfl,d⟩:=d;cases f;exact not_of (Lx ⟨.bl (!c),H1,I1,rfl,d⟩)
def tIf(t:TT)(ta tb:TE):TE:=λ σ H Q=>t σ H λ c H1=>if c=true then ta σ H1 Q else tb σ H1 Q
theorem qav2{c:Expr}(i:PT X c tA)(j:PE X a ta)(k:PE X b tb):PE X (.IfExp c a b pos) (tIf tA ta tb):=by
 intro Fb s σ H Q I h;refine wpAny_IfExp (thn (i Fb s σ H _ I h) λ d f e=>?_);obtain⟨H1,I1,g⟩:=e;cases d with
 | true=>exact j Fb f σ H1 Q I1 g
 | false=>exact k Fb f σ H1 Q I1 g
end
def SqL(K:W.Frag)(H:Hp)(a:γ)(xs:List V):Prop :=
 Rd H a (.l xs) ∨
   ∃(o:Obj)(its:Array V')(n:Nat),K.lookup a=some o/\o.cls=.type "list" /\ o.dict=none/\o.data=.seq its n/\its.size<=Lr/\Mz xs its.toList
def SqT(K:W.Frag)(H:Hp)(a:γ)(xs:List V):Prop :=
 Rd H a (.q xs) ∨
   ∃(o:Obj)(its:Array V')(n:Nat),K.lookup a=some o/\o.cls=.type "tuple" /\ o.data=.seq its n/\its.size<=Lr/\Mz xs its.toList
noncomputable def absV:V'->Option V
 | .none=>some .non
 | .bool b=>some (.bl b)
 | .int i _=>some (.int i)
 | .str x _=>some (.str x)
 | .bytes b _=>some (.byt b)
 | .float b _=>some (.flt b)
 | .ref a=>some (.ref a)
 | .type n=>some (.ty n)
 | _=>none
theorem Mx.abs{x:V}{u:V'}(r:Mx x u):absV u=some x:=by
 cases x with
 | non=>cases r;rfl
 | bl _=>cases r;rfl
 | int _=>obtain⟨t,rfl⟩:=r;rfl
 | str _=>obtain⟨t,rfl⟩:=r;rfl
 | byt _=>obtain⟨t,rfl⟩:=r;rfl
 | flt _=>obtain⟨t,rfl⟩:=r;rfl
 | ref _=>cases r;rfl
 | ty _=>cases r;rfl
theorem Mx.inj{x y:V}{u:V'}(r:Mx x u)(q:Mx y u):x=y:=Option.some.inj (r.abs.symm.trans q.abs)
theorem Mz.inj{xs ys:List V}(h:Mz xs us)(g:Mz ys us):xs=ys:=by
 induction h generalizing ys with
 | nil=>cases g;rfl
 | cons r t i=>cases g with | cons q u=>rw[r.inj q,i u]
section
variable{X:Cx}{Fb:List (γ×Obj)}{σ:St}{H:Hp}{s:Sh}{a:γ}{xs ys:List V}
theorem SqL.of{K:W.Frag}(h:H a=some (.l xs)):SqL K H a xs:=.inl (.inl h)
theorem M4.list(I:M4 X Fb σ H s)(h:SqL X.K H a xs):∃ its:List V',Mz xs its/\PlainL s.heap a its.toArray/\xs.length<=Lr:=by
 rcases h with h | ⟨o,its,n,b,c,d,f,g,r⟩
 . obtain⟨z,its,n,r,e⟩:=h.ok I.hok
   exact⟨its,r,⟨_,n,e,rfl,rfl,rfl⟩,z⟩
 refine⟨its.toList,r,⟨o,n,I.kIn a o b,c,d,by simpa using f⟩,?_⟩;have e:=r.length;simp only[zB1] at e;lia
theorem M4.tuple(I:M4 X Fb σ H s)(h:SqT X.K H a xs):∃ its:List V',Mz xs its/\IsTup s.heap a its.toArray/\xs.length<=Lr:=by
 rcases h with h | ⟨o,its,n,b,c,d,f,r⟩
 . obtain⟨z,its,r,p⟩:=h.ok I.hok
   exact⟨its,r,p,z⟩
 refine⟨its.toList,r,⟨o,I.kIn a o b,c,n,by simpa using d⟩,?_⟩;have e:=r.length;simp only[zB1] at e;lia
theorem M4.list_inj(I:M4 X Fb σ H s)(h:SqL X.K H a xs)(h':SqL X.K H a ys):xs=ys:=by
 obtain⟨b,r,⟨o,n,e,_,_,d⟩,_⟩:=I.list h;obtain⟨its',g,⟨j,k,c,_,_,f⟩,_⟩:=I.list h';rw[e] at c;cases c;rw[d] at f;injection f with i _
 have:b=its':=by simpa using congrArg Array.toList i
 subst this;exact r.inj g
end
noncomputable abbrev Cx.wish(X:Cx)(E:V'->Sh->Prop):Cx:={ X with xe:=E }
abbrev Cx.nox(X:Cx):Cx:=X.wish λ _ _=>False
theorem Cx.Ok.wish{X:Cx}(a:X.Ok)(E:V'->Sh->Prop):(X.wish E).Ok :=
 ⟨a.mod,a.kind,a.glob,a.blt,a.above,a.inj,a.has,a.cab,a.hd,a.frames,a.stk,a.exf,a.bs,a.bsz,a.noex,a.exfs,a.funs,a.frf⟩
theorem Cx.Ok.unwish{X:Cx}{E:V'->Sh->Prop}(a:(X.wish E).Ok):X.Ok :=
 ⟨a.mod,a.kind,a.glob,a.blt,a.above,a.inj,a.has,a.cab,a.hd,a.frames,a.stk,a.exf,a.bs,a.bsz,a.noex,a.exfs,a.funs,a.frf⟩
section
variable{X:Cx}{Fb:List (γ×Obj)}{σ:St}{H:Hp}{s:Sh}{E:V'->Sh->Prop}
theorem M4.wish(I:M4 X Fb σ H s)(E:V'->Sh->Prop):M4 (X.wish E) Fb σ H s:=⟨I.ok.wish E,I.os,I.bare,I.base,I.loc,I.cell,I.free,I.freeC,I.pin,I.hok,I.len⟩
theorem M4.unwish(I:M4 (X.wish E) Fb σ H s):M4 X Fb σ H s:=⟨I.ok.unwish,I.os,I.bare,I.base,I.loc,I.cell,I.free,I.freeC,I.pin,I.hok,I.len⟩
theorem SP.unwish{D:Bm}{f:Flow}{s':Sh}(h:SP (X.wish E) Fb D f s'):SP X Fb D f s':=by
 cases f with
 | next=>obtain⟨σ',H',I,q⟩:=h;exact⟨σ',H',I.unwish,q⟩
 | brk=>obtain⟨σ',H',I,q⟩:=h;exact⟨σ',H',I.unwish,q⟩
 | cont=>obtain⟨σ',H',I,q⟩:=h;exact⟨σ',H',I.unwish,q⟩
 | ret u=>obtain⟨v,σ',H',I,r,q⟩:=h;exact⟨v,σ',H',I.unwish,r,q⟩
theorem PSs.nox{st:List Stmt}{t:TS}(h:PSs X.nox st t):PSs X st t:=λ Fb s σ H D I a =>
 L9 (h Fb s σ H D (I.wish _) a) (λ _ _ q=>q.unwish) λ _ _ z=>False.elim z
end
section
variable{X:Cx}{st:Stmt}{rest:List Stmt}{t u:TS}{e:Expr}{te:TE}{pos:Pos}
def tNext:TS:=λ D σ H=>D.nx σ H
def tSeq(t u:TS):TS:=λ D σ H=>t { D with nx:=u D } σ H
theorem qaD9:PSs X [] tNext:=λ _ _ σ H _ I h=>wpAny_execs_nil ⟨σ,H,I,h⟩
theorem qX1(h1:PS X st t)(h2:PSs X rest u):PSs X (st::rest) (tSeq t u):=by
 intro Fb s σ H D I h;refine wpAny_execs_cons (thn (h1 Fb s σ H { D with nx:=u D } I h) λ f a q=>?_);cases f with
 | next =>
   obtain⟨σ',H',I',q⟩:=q;exact h2 Fb a σ' H' D I' q
 | ret v=>exact q
 | brk=>exact q
 | cont=>exact q
theorem qM8(h1:PS X st t):PSs X [st] t:=by
 intro Fb s σ H D I h;refine wpAny_execs_cons (thn (h1 Fb s σ H D I h) λ f a q=>?_);cases f with
 | next=>exact wpAny_execs_nil q
 | ret v=>exact q
 | brk=>exact q
 | cont=>exact q
theorem M4.quiet{Fb:List (γ×Obj)}{σ:St}{H:Hp}{s:Sh}(I:M4 X Fb σ H s):interactive X.env=false:=by simp[interactive,I.ok.kind]
def tDrop(te:TE):TS:=λ D σ H=>te σ H λ _ H1=>D.nx σ H1
theorem qaE2(a:PE X e te)(b:swapsWith e none pos.line X.env=pure false:=by rfl):PS X (.Expr e pos) (tDrop te):=by
 intro Fb s σ H D I h;exact wpAny_Expr_any (thn (a Fb s σ H _ I h) λ v d ⟨x,H1,I1,f,c⟩=>⟨σ,H1,I1,c⟩) I.quiet b
def tRet(te:TE):TS:=λ D σ H=>te σ H D.rt
theorem qaE1(a:PE X e te):PS X (.Return (some e) pos) (tRet te):=by
 intro Fb s σ H D I h;exact wpAny_Return_some (thn (a Fb s σ H _ I h) λ v d ⟨x,H1,I1,b,c⟩=>⟨x,σ,H1,I1,b,c⟩)
def tIfS(c:TT)(t u:TS):TS:=λ D σ H=>c σ H λ b H1=>if b=true then t D σ H1 else u D σ H1
theorem ps_if{c:Expr}{a b:List Stmt}{tc:TT}(i:PT X c tc)(j:PSs X a t)(k:PSs X b u):PS X (.If c a b pos) (tIfS tc t u):=by
 intro Fb s σ H D I h;refine wpAny_If (thn (i Fb s σ H _ I h) λ d f e=>?_);obtain⟨H1,I1,g⟩:=e;cases d with
 | true=>exact j Fb f σ H1 D I1 g
 | false=>exact k Fb f σ H1 D I1 g
end
abbrev TG:=V->St->Hp->(St->Hp->Prop)->Prop
abbrev TGs:=List V->St->Hp->(St->Hp->Prop)->Prop
def PG(X:Cx)(target:Expr)(t:TG):Prop :=
 ∀(Fb:List (γ×Obj))(s:Sh)(σ:St)(H:Hp)(v:V)(u:V')(Q:St->Hp->Prop),M4 X Fb σ H s->Mx v u->t v σ H Q ->
   wpAny (model X.prog X.w) X.A (assign target X.env u) (λ _ s'=>∃ σ' H',M4 X Fb σ' H' s'/\Q σ' H') X.xe s
def PGs(X:Cx)(ts:List Expr)(t:TGs):Prop :=
 ∀(Fb:List (γ×Obj))(s:Sh)(σ:St)(H:Hp)(vs:List V)(us:List V')(Q:St->Hp->Prop),M4 X Fb σ H s->Mz vs us->t vs σ H Q ->
   wpAny (model X.prog X.w) X.A (assignInOrder ((Me ts X.env).map (·.2)) us) (λ _ s'=>∃ σ' H',M4 X Fb σ' H' s'/\Q σ' H') X.xe s
abbrev Kc:=V->V->V->Hp->(Hp->Prop)->Prop
def PSet(X:Cx)(t:Kc):Prop :=
 ∀(Fb:List (γ×Obj))(s:Sh)(σ:St)(H:Hp)(o i v:V)(ov iv u:V')(Q:Hp->Prop),M4 X Fb σ H s->Mx o ov->Mx i iv->Mx v u->t o i v H Q ->
   wpAny (model X.prog X.w) X.A (setItem ov iv u) (λ _ s'=>∃ H',M4 X Fb σ H' s'/\Q H') X.xe s
abbrev TIp:=V->V->Hp->VK->Prop
def PIp(X:Cx)(op:Operator)(t:TIp):Prop :=
 ∀(Fb:List (γ×Obj))(s:Sh)(σ:St)(H:Hp)(x y:V)(v u:V')(Q:VK),M4 X Fb σ H s->Mx x v->Mx y u->t x y H Q ->
   wpAny (model X.prog X.w) X.A (inplaceOp op v u) (EP X Fb σ Q) X.xe s
section
variable{X:Cx}{pos:Pos}
def Gr(i:Nat):TG:=λ v σ H Q=>Q (σ.set i (some v)) H
theorem qap0{x:Str}(a:X.N.Nodup)(hi:X.N[i]? = some x)(b:Loc X.env.scope x)(c:X.fn x=true∨X.env.scope.names.lookup x=some .local:=by first | exact .inl rfl | exact .inr rfl | assumption):PG X (.Name x pos) (Gr i):=by
 intro Fb s σ H v u Q I r h;exact wpAny_assign_Name (qz4 I a hi b r (λ d I'=>⟨_,H,I',h⟩) c)
def gNil:TGs:=λ vs σ H Q=>vs=[]/\Q σ H
def gCons(t:TG)(u:TGs):TGs:=λ vs σ H Q=>∃ v r,vs=v::r/\t v σ H λ σ' H'=>u r σ' H' Q
theorem qaE9:PGs X [] gNil:=by
 intro Fb s σ H a b Q I r h;obtain⟨e,h⟩:=h;subst e;cases r;exact assignInOrder_nil ⟨σ,H,I,h⟩
theorem qau9{e:Expr}{es:List Expr}{t:TG}{u:TGs}(h1:PG X e t)(h2:PGs X es u)(b:(Me (e::es) X.env).map (·.2)=assign e X.env::(Me es X.env).map (·.2):=by rfl):PGs X (e::es) (gCons t u):=by
 intro Fb s σ H i j Q I r h;obtain⟨v,k,c,h⟩:=h;subst c;cases r with
 | cons r d =>
   rw[b];refine assignInOrder_cons (thn (h1 Fb s σ H _ _ _ I r h) λ _ f a=>?_);obtain⟨σ1,H1,I1,g⟩:=a;exact h2 Fb f σ1 H1 _ _ Q I1 d g
def gTup(K:W.Frag)(n:Nat)(t:TGs):TG:=λ v σ H Q=>∃ a xs,v=.ref a/\SqT K H a xs/\xs.length=n/\t xs σ H Q
theorem qaO7{es:List Expr}{k:Nat}{t:TGs}(g:X.calm=true)(h:PGs X es t)(i:(Me es X.env).length=n:=by rfl)(c:(Me es X.env).findIdx? (·.1)=none:=by rfl):PG X (.Tuple es k pos) (gTup X.K n t):=by
 intro Fb s σ H v u Q I r d;obtain⟨a,j,l,m,p,d⟩:=d;subst l;cases r;obtain⟨q,f,w,z⟩:=I.tuple m;refine assign_Tuple_tuple (I.ok.hd g) w (by simp[i,<- p,f.length]) c λ x y=>?_
 have I1:M4 X Fb σ H { s with heap:=x }:=I.kept (t':=s.toks) λ b o e=>y b o (zAl (zA7 e)) e
 exact h Fb _ σ H j _ Q I1 (by simpa using f) d
def gSub(to a:TE)(t:Kc):TG:=λ v σ H Q=>to σ H λ o H1=>a σ H1 λ i H2=>t o i v H2 λ H3=>Q σ H3
theorem qaO8{o i:Expr}{to b:TE}{t:Kc}(c:PE X o to)(hi:PE X i b)(d:PSet X t)(e:∀ v,assign (.Subscript o i pos) X.env v=(do
     let ov <- holding [v] (eval o X.env)
     let iv <- holding [v,ov] (eval i X.env)
     standAt pos
     holding [v,ov,iv] (setItem ov iv v)
     release [v,ov,iv] []):=by intro _;rfl):PG X (.Subscript o i pos) (gSub to b t):=by
 intro Fb s σ H v u Q I r h;rw[e];refine G' (Lv (thn (c Fb s σ H _ I h) λ ov f a=>?_));obtain⟨x,H1,I1,g,j⟩:=a;refine G' (Lv (thn (hi Fb f σ H1 _ I1 j) λ iv k a=>?_));obtain⟨y,H2,I2,l,q2⟩:=a;refine G' (wpAny_standAt (G' (Lv (thn (d Fb k σ H2 x y v ov iv u _ I2 g l r q2) λ _ n a=>?_))));obtain⟨H3,I3,m⟩:=a;exact wpAny_release ⟨σ,H3,I3,m⟩
def Js(te:TE)(g:TG):TS:=λ D σ H=>te σ H λ x H1=>g x σ H1 D.nx
theorem qaO4{tg e:Expr}{te:TE}{g:TG}(b:PE X e te)(c:PG X tg g)(d:swapsWithSole [tg] e pos.line X.env=pure false:=by rfl)(f:swappedStores [tg] e X.env=pure none:=by rfl)(h1:(Me [tg] X.env).map (·.2)=[assign tg X.env]:=by rfl):PS X (.Assign [tg] e pos) (Js te g):=by
 intro Fb s σ H D I h;refine wpAny_Assign_stores (thn (b Fb s σ H _ I h) λ v i a=>?_) d f;obtain⟨x,H1,I1,j,k⟩:=a;rw[h1];exact thn (c Fb i σ H1 x v _ I1 j k) λ _ l q=>q
theorem qaE0{x:Str}{e:Expr}{te:TE}{pos':Pos}(b:X.N.Nodup)(hi:X.N[i]? = some x)(c:Loc X.env.scope x)(d:PE X e te)(f:swapsWith e (some (.Name x pos')) pos.line X.env=pure false:=by rfl)(g:X.fn x=true∨X.env.scope.names.lookup x=some .local:=by first | exact .inl rfl | exact .inr rfl | assumption) :
   PS X (.Assign [.Name x pos'] e pos) (Js te (Gr i)):=by
 intro Fb s σ H D I h;refine wpAny_Assign_Name (thn (d Fb s σ H _ I h) λ v l a=>?_) f;obtain⟨y,H1,I1,j,k⟩:=a;exact qz4 I1 b hi c j (λ m I2=>⟨_,H1,I2,k⟩) g
def tAugS(to b te:TE)(tget:V->V->Hp->VK->Prop)(a:TIp)(tset:Kc):TS:=λ D σ H=>to σ H λ o H1=>b σ H1 λ i H2=>tget o i H2 λ x H3=>te σ H3 λ y H4=>a x y H4 λ z H5=>tset o i z H5 λ H6=>D.nx σ H6
def PGet(X:Cx)(t:V->V->Hp->VK->Prop):Prop :=
 ∀(Fb:List (γ×Obj))(s:Sh)(σ:St)(H:Hp)(o i:V)(ov iv:V')(Q:VK),M4 X Fb σ H s->Mx o ov->Mx i iv->t o i H Q ->
   wpAny (model X.prog X.w) X.A (getItem ov iv) (EP X Fb σ Q) X.xe s
theorem qaE4{o i e:Expr}{to j te:TE}{tget:V->V->Hp->VK->Prop}{f:TIp}{tset:Kc}{op:Operator}{tpos:Pos}(p:PE X o to)(hi:PE X i j)(q:PGet X tget)(r:PE X e te)(t:PIp X op f)(u:PSet X tset)(w:∀ c d b,augStore i c d b=(do holding [b,c,d] (setItem c d b);release [b,c,d] [];pure .next):=by intros;rfl):PS X (.AugAssign (.Subscript o i tpos) op e pos) (tAugS to j te tget f tset):=by
 intro Fb s σ H D I h;refine wpAny_AugAssign_SubscriptAny (thn (p Fb s σ H _ I h) λ c x a=>?_) w;obtain⟨k,H1,I1,l,y⟩:=a;refine thn (hi Fb x σ H1 _ I1 y) λ d z a=>?_
 obtain⟨m,H2,I2,n,q2⟩:=a;refine thn (q Fb z σ H2 k m c d _ I2 l n q2) λ g A a=>?_
 obtain⟨B,H3,I3,C,E⟩:=a;refine thn (r Fb A σ H3 _ I3 E) λ v F a=>?_
 obtain⟨G,H4,I4,J,K⟩:=a;refine thn (t Fb F σ H4 B G g v _ I4 C J K) λ b L a=>?_
 obtain⟨M,H5,I5,N,O⟩:=a;exact thn (u Fb L σ H5 k m M c d b _ I5 l n N O) λ _ Q ⟨H6,I6,P⟩=>⟨σ,H6,I6,P⟩
def ipI(f:Int->Int->Int):TIp:=λ x y H Q=>∃ i j,x=.int i/\y=.int j/\Q (.int (f i j)) H
theorem qaS5:PIp X .Add (ipI λ i j=>i+j):=by
 intro Fb s σ H x y v u Q I a b h;obtain⟨i,j,c,e2,q⟩:=h;subst c;subst e2;obtain⟨t,rfl⟩:=a;obtain⟨d,rfl⟩:=b;exact iadd_int ⟨.int _,H,I.tok _,⟨_,rfl⟩,q⟩
end
section
variable{X:Cx}{pos:Pos}
def qaN4(c:TT)(tb:TS):TS:=λ D σ H=>∃ W:Nat->St->Hp->Prop,(∃ m,W m σ H)/\∀ m σ H,W m σ H ->
 c σ H λ b H1=>if b=true then ∃ N:St->Hp->Prop,(∀ σ' H',N σ' H'->∃ a,a < m/\W a σ' H')/\tb { D with nx:=N,ct:=N,bk:=D.nx } σ H1 else D.nx σ H1
theorem qau3{c:Expr}{tc:TT}{tb:TS}(k:PassesOwn (model X.prog X.w) X.A X.env X.xe)(m:PT X c tc)(o:PSs X body tb):PS X (.While c body [] pos) (qaN4 tc tb):=by
 intro Fb s σ H D I h;obtain⟨W,⟨p,q⟩,turn⟩:=h;refine wpAny_While (codeAny_whileLoop (λ n r=>∃ σ' H',M4 X Fb σ' H' r/\W n σ' H') ?_ p ⟨σ,H,I,q⟩);rintro n t ⟨σ1,H1,I1,u⟩;refine Mb k (thn (m Fb t σ1 H1 _ I1 (turn n σ1 H1 u)) λ b x d=>?_);obtain⟨H2,I2,q2⟩:=d;cases b with
 | true =>
   obtain⟨N,l,q2⟩:=q2;rw[if_pos rfl];refine Mb k (thn (o Fb x σ1 H2 _ I2 q2) λ f y a=>?_);cases f with
   | next =>
     obtain⟨σ3,H3,I3,e⟩:=a;obtain⟨g,i,j⟩:=l σ3 H3 e;exact⟨g,i,σ3,H3,I3,j⟩
   | cont =>
     obtain⟨σ3,H3,I3,e⟩:=a;obtain⟨g,i,j⟩:=l σ3 H3 e;exact⟨g,i,σ3,H3,I3,j⟩
   | brk=>exact a
   | ret v=>exact a
 | false =>
   rw[if_neg zAh];exact wpAny_execs_nil ⟨σ1,H2,I2,q2⟩
end
structure It where
 go:Nat->Hp->Prop
 yld:Nat->Hp->V->Hp->Prop
 stop:Nat->Hp->Prop
def Hm(X:Cx)(Fb:List (γ×Obj))(H:Hp)(b:γ):Prop :=
 H b=none/\b≠X.env.locals/\b∉X.fs/\(b∈X.ex∨X.s₀.heap.objs.size<=b)/\(∀ x c,X.env.cells.lookup x=some c->c≠b)/\∀ p∈X.pn++Fb,p.1≠b
theorem M4.fpOk{X:Cx}{Fb:List (γ×Obj)}{σ:St}{H H':Hp}{s:Sh}{b:γ}(I:M4 X Fb σ H s)(a:s.heap.objs.size<=b)(d:H' b=none):Hm X Fb H' b:=by
 refine⟨d,Nat.ne_of_gt (zAb I.lt a),I.nofs a,.inr (zAn I.sz a),λ x c e z=>?_,λ p f z=>?_⟩
 . obtain⟨v,q⟩:=I.cell x c e
   exact absurd (zAb q.lt (by rw[z];exact a)) (zC0 _)
 exact absurd (zAb (zA7 (I.pin p f).1) (by rw[z];exact a)) (zC0 _)
structure Kd(P:Program)(w:World)(K:W.Frag)(tg:Expr)(J:It)(fp:List γ)(it:γ)(tn:Nat->Heap->Prop):Prop where
 mem:it∈fp
 obj:∀ i h,tn i h->∀ b∈fp,∃ o,h.get? b=some o/\∀ v,o.data≠.cell v
 keep:∀ i h h',tn i h->(∀ b∈fp,∀ o,h.get? b=some o->h'.get? b=some o)->tn i h'
 item:∀(X:Cx),X.prog=P->X.w=w->X.K=K->X.calm=true->∀(i:Nat)(Fb:List (γ×Obj))(s:Sh)(σ:St)(H:Hp)(E:V'->Sh->Prop),M4 X Fb σ H s->(∀ b∈fp,Hm X Fb H b)->tn i s.heap->J.go i H ->
   wpAny (model P w) X.A (pyNext (.ref it)) (λ r s1=>∃ u,r=some u /\
     wpAny (model P w) X.A (letOwnedTupleGo tg (.ref it) u) (λ _ s2=>∃ x H',M4 X Fb σ H' s2/\Mx x u/\J.yld i H x H'/\tn (i+1) s2.heap/\∀ b∈fp,H' b=none) E s1) E s
 done:∀(X:Cx),X.prog=P->X.w=w->X.K=K->X.calm=true->∀(i:Nat)(Fb:List (γ×Obj))(s:Sh)(σ:St)(H:Hp)(E:V'->Sh->Prop),M4 X Fb σ H s->(∀ b∈fp,Hm X Fb H b)->tn i s.heap->J.stop i H ->
   wpAny (model P w) X.A (pyNext (.ref it)) (λ r s1=>r=none/\M4 X Fb σ H s1) E s
 self:∀(A:Around)(i:Nat)(s:Sh)(Q:V'->Sh->Prop)(E:V'->Sh->Prop),tn i s.heap->Q (.ref it) s->wpAny (model P w) A (pyIter (.ref it)) Q E s
abbrev TI:=St->Hp->(It->Hp->Prop)->Prop
def PIE(X:Cx)(Fb:List (γ×Obj))(σ:St)(tg:Expr)(R:It->Hp->Prop)(a:V')(s2:Sh):Prop :=
 ∃(it:γ)(fp:List γ)(tn:Nat->Heap->Prop)(J:It)(H':Hp),a=.ref it/\M4 X Fb σ H' s2/\Kd X.prog X.w X.K tg J fp it tn/\tn 0 s2.heap/\(∀ b∈fp,Hm X Fb H' b)/\R J H'
def PI(X:Cx)(tg iter:Expr)(wi:TI):Prop :=
 ∀(Fb:List (γ×Obj))(s:Sh)(σ:St)(H:Hp)(R:It->Hp->Prop),M4 X Fb σ H s->wi σ H R ->
   wpAny (model X.prog X.w) X.A (eval iter X.env) (λ v a=>wpAny (model X.prog X.w) X.A (pyIter v) (PIE X Fb σ tg R) X.xe a) X.xe s
theorem go_of{A:Around}{E:V'->Sh->Prop}{s:Sh}{tg:Expr}{it:γ}{u:V'}{o:Obj}{n:String}{vs:Array V'}{Q:Unit->Sh->Prop}(b:s.heap.get? it=some o)(c:o.cls=.type n)(d:o.data=.fields vs)(e:["enumerate", "zip", "dict_itemiterator", "dict_reverseitemiterator", "odict_iterator", "itertools.zip_longest", "itertools.pairwise"].contains n=false)(a:Q () s):wpAny M A (letOwnedTupleGo tg (.ref it) u) Q E s:=by
 unfold letOwnedTupleGo;cases tg<;>first
   | exact J' a
   | (cases u<;>first
       | exact J' a
       | (refine G' (wpAny_load b ?_)
          rw[c,d];show wpAny M A (if (["enumerate", "zip", "dict_itemiterator", "dict_reverseitemiterator", "odict_iterator", "itertools.zip_longest", "itertools.pairwise"].contains n&&vs[0]? == some (rawInt _))=true then _ else _) Q E s;rw[if_neg (by intro h;rw[e,Bool.false_and] at h;cases h)];exact J' a))
noncomputable def Itl(K:W.Frag)(a:γ):It :=
 ⟨λ i H=>∃ xs x,SqL K H a xs/\xs[i]? = some x,λ i H x H'=>H'=H/\∀ xs,SqL K H a xs->xs[i]? = some x,λ i H=>∃ xs,SqL K H a xs/\xs.length<=i⟩
noncomputable def Itr(lo:Int)(n:Nat):It:=⟨λ i _=>i < n,λ i H x H'=>H'=H/\x=.int (lo+i),λ i _=>n<=i⟩
theorem qaf6{P:Program}{w:World}{K:W.Frag}{tg:Expr}(a it:γ):Kd P w K tg (Itl K a) [it] it (λ i h=>h.IsListIter it a i) where
 mem:=by simp
 obj:=λ i h f b g=>by
   have e:b=it:=by simpa using g
   subst e;obtain⟨o,e,c,d⟩:=f;exact⟨o,e,λ v z=>by rw[d] at z;cases z⟩
 keep:=λ i h l f k=>f.at λ o e=>k it (by simp) o e
 item:=by
   intro X q r t J i Fb s σ H E I m f y;subst q r t;obtain⟨L,x,n,A⟩:=y;obtain⟨B,C,p,M⟩:=I.list n;obtain⟨u,N,O⟩:=C.get A;obtain⟨D,f1,f2,f3,F,G⟩:=m it (by simp);refine wpAny_pyNext_list_item f p.isList (x:=u) (by simpa using N) λ l j Q=>?_
   have I1:M4 X Fb σ H { s with heap:=l }:=I.turned (t':=s.toks) (λ b o g e=>(Q.2 b g).trans e) D f1 f3 F G;obtain⟨o,e,c,d⟩:=id j;exact⟨u,rfl,go_of (s:={ s with heap:=l }) e c d (by decide) ⟨x,H,I1,O,⟨rfl,λ U S=>by rw[I.list_inj S n];exact A⟩,j,λ b g=>(m b g).1⟩⟩
 done:=by
   intro X q r t J i Fb s σ H E I m f y;subst q r t;obtain⟨L,n,A⟩:=y;obtain⟨B,C,p,M⟩:=I.list n;obtain⟨D,f1,f2,f3,F,G⟩:=m it (by simp);have V:=C.length;exact wpAny_pyNext_list_end (I.ok.hd J) f p.isList (by simp;lia) λ l T=>⟨rfl,I.turned (t':=s.toks) (λ b o g e=>T b o g e) D f1 f3 F G⟩
 self:=λ _ _ _ _ _ f h=>wpAny_pyIter_listiter f h
theorem qU3{P:Program}{w:World}{K:PySem.W.Frag}{tg:Expr}(it:γ)(lo:Int)(n:Nat):Kd P w K tg (Itr lo n) [it] it (λ i h=>IsRangeIter h it (lo+(i:Nat) * 1) ((n:Int) - (i:Nat)) 1) where
 mem:=by simp
 obj:=λ i h a b c=>by
   have e:b=it:=by simpa using c
   subst e;exact⟨_,a,λ v z=>by
     have A:Data.fields _=Data.cell v:=z;cases A⟩
 keep:=λ i h f a k=>k it (by simp) _ a
 item:=by
   intro X j l m p i Fb s σ H E I g a q;subst j l m;obtain⟨r,f1,f2,f3,u,x⟩:=g it (by simp);have W:=Walks.range (prog:=X.prog) (w:=X.w) (I.ok.hd p) it lo 1 n;refine W.item i s _ _ q a λ v f y B d C=>?_
   obtain⟨t,rfl⟩:=B;have I1:M4 X Fb σ H { s with heap:=f,toks:=y }:=I.turned (λ b o c e=>C b o (by simpa using c) e) r f1 f3 u x;refine⟨_,rfl,go_of (s:={ s with heap:=f,toks:=y }) (n := "range_iterator") d rfl rfl (by decide) ⟨.int (lo+i),H,I1,⟨t,?_⟩,⟨rfl,rfl⟩,d,λ b c=>(g b c).1⟩⟩;rw[Int.mul_one]
 done:=by
   intro X j l m p i Fb s σ H E I g a q;subst j l m;obtain⟨r,f1,f2,f3,u,x⟩:=g it (by simp);exact wpAny_pyNext_range_end (I.ok.hd p) a (by have:n<=i:=q;lia) λ f D=>⟨rfl,I.turned (t':=s.toks) (λ b o c e=>D b o c e) r f1 f3 u x⟩
 self:=λ _ _ _ _ _ a h=>wpAny_pyIter_rangeiter a h
section
variable{X:Cx}{tg:Expr}
def Jb(K:W.Frag)(tl:TE):TI:=λ σ H R=>tl σ H λ x H1=>∃ a,x=.ref a/\(∃ xs,SqL K H1 a xs)/\R (Itl K a) H1
theorem qt8{l:Expr}{tl:TE}(f:PE X l tl):PI X tg l (Jb X.K tl):=by
 intro Fb s σ H R I h;refine thn (f Fb s σ H _ I h) λ v c d=>?_
 obtain⟨x,H1,I1,g,i⟩:=d;obtain⟨a,e,⟨n,j⟩,q⟩:=i;subst e;cases g;obtain⟨k,r,p,t⟩:=I1.list j;refine wpAny_pyIter_list p.isList ?_;refine⟨c.heap.objs.size,[c.heap.objs.size],_,_,H1,rfl,I1.kept (t':=c.toks) λ b o e=>zA2 _ e,qaf6 a _,⟨_,zAz _ rfl,rfl,rfl⟩,λ b m=>?_,q⟩;have e:b=c.heap.objs.size:=by simpa using m
 subst e;exact I1.fpOk (zA3 _) (I1.hok.fresh (zA3 _))
theorem qau1{Fb:List (γ×Obj)}{σ:St}{H:Hp}{s:Sh}{R:It->Hp->Prop}{E:V'->Sh->Prop}{lo hi:Int}{t u v:Tok}{a:Nat}(I:M4 X Fb σ H s)(h1:-(2 ^ 62)<=lo)(h2:lo < 2 ^ 62)(c:-(2 ^ 62)<=hi)(d:hi < 2 ^ 62)(q:R (Itr lo (hi - lo).toNat) H):wpAny (model X.prog X.w) X.A (pyIter (.ref s.heap.objs.size)) (PIE X Fb σ tg R) E { s with heap:=s.heap.push { cls:=.type "range",data:=.fields #[.int lo t,.int hi u,.int 1 v] },toks:=a }:=by
 refine wpAny_pyIter_range (IsRange.new ..) (small_one h1 h2 c d) ?_;have I1:M4 X Fb σ H { s with heap:=s.heap.push { cls:=.type "range",data:=.fields #[.int lo t,.int hi u,.int 1 v] },toks:=a }:=I.kept λ b o e=>zA2 _ e
 refine⟨(s.heap.push { cls:=.type "range",data:=.fields #[.int lo t,.int hi u,.int 1 v] }).objs.size,[(s.heap.push { cls:=.type "range",data:=.fields #[.int lo t,.int hi u,.int 1 v] }).objs.size],_,_,H,rfl,
   I1.kept (t':=a) λ b o e=>zA2 _ e,qU3 _ lo (hi - lo).toNat,?_,λ b f=>?_,q⟩
 . have g:lo+((0:Nat):Int) * 1=lo:=by simp
   have e2:(((hi - lo).toNat:Nat):Int) - ((0:Nat):Int)=Builtin.Range.rangeSize lo hi 1:=by rw[rangeSize_one];split<;>lia
   show IsRangeIter _ _ (lo+((0:Nat):Int) * 1) ((((hi - lo).toNat:Nat):Int) - ((0:Nat):Int)) 1;rw[g,e2];exact zAz _ rfl
 have e:b=(s.heap.push { cls:=.type "range",data:=.fields #[.int lo t,.int hi u,.int 1 v] }).objs.size:=by simpa using f
 subst e;exact I1.fpOk (zA3 _) (I1.hok.fresh (zA3 _))
def iRng1(ta:TA):TI:=λ σ H R=>ta σ H λ vs H1=>∃ j:Int,vs=[.int j]/\-(2 ^ 62)<=j/\j < 2 ^ 62/\R (Itr 0 j.toNat) H1
theorem qai1{a:Expr}{ta:TA}{p pos:Pos}(d:Gl X "range")(hm:X.mg "range" = none)(f:PA X [a] ta)(g:Lq [a] X.env=[(false,eval a X.env)]:=by rfl):PI X tg (.Call (.Name "range" p) [a] [] pos) (iRng1 ta):=by
 intro Fb s σ H R I h;refine Call_ (qZ7 I d hm boot_range (PyProof.Rows.callWith_type1 (thn (f pos Fb s σ H _ I h) λ l m b=>?_) g rfl));obtain⟨n,H1,I1,i,c⟩:=b;obtain⟨j,e,c,q2,q⟩:=c;subst e;cases i with
 | cons r k =>
   cases k;obtain⟨t,rfl⟩:=r;exact call_range_1 (qau1 I1 (by lia) (by lia) c q2 (by simpa using q))
def tFor(wi:TI)(g:TG)(tb:TS):TS:=λ D σ H=>wi σ H λ J H1=>∃ W:Nat->Nat->St->Hp->Prop,(∃ m,W 0 m σ H1)/\∀ i m σ H,W i m σ H ->
 (J.stop i H/\D.nx σ H)∨(J.go i H/\∃ N:St->Hp->Prop,(∀ σ' H',N σ' H'->∃ a,a < m/\W (i+1) a σ' H')/\∀ x H',J.yld i H x H'->g x σ H' λ σ2 H2=>tb { D with nx:=N,ct:=N,bk:=D.nx } σ2 H2)
noncomputable def qX3(fp:List γ)(h:Heap):List (γ×Obj):=fp.filterMap λ b=>(h.get? b).map λ o=>(b,o)
theorem qm8{h:Heap}{b:γ}{o:Obj}(a:b∈fp)(e:h.get? b=some o):(b,o)∈qX3 fp h:=List.mem_filterMap.mpr ⟨b,a,by rw[e];rfl⟩
theorem qai9{h:Heap}{p:γ×Obj}(a:p∈qX3 fp h):p.1∈fp/\h.get? p.1=some p.2:=by
 obtain⟨b,c,e⟩:=List.mem_filterMap.mp a;cases q:h.get? b with
 | none=>rw[q] at e;cases e
 | some o =>
   rw[q] at e;have d:(b,o)=p:=Option.some.inj e;subst d;exact⟨c,q⟩
theorem M4.pinned{Fb:List (γ×Obj)}{σ:St}{H:Hp}{s:Sh}(I:M4 X Fb σ H s)(f:∀ b∈fp,Hm X Fb H b)(g:∀ b∈fp,∃ o,s.heap.get? b=some o/\∀ v,o.data≠.cell v):M4 X (Fb++qX3 fp s.heap) σ H s :=
 I.pins_of λ p h=>(zAe.mp h).elim (λ z=>I.pin p (zAw _ z)) λ z=>by
   obtain⟨a,e⟩:=qai9 z;obtain⟨i,f1,f2,_⟩:=f p.1 a;obtain⟨o,c,d⟩:=g p.1 a;rw[e] at c;cases c;exact⟨e,i,f1,f2,d⟩
theorem M4.unpinned{Fb pl:List (γ×Obj)}{σ:St}{H:Hp}{s:Sh}(I:M4 X (Fb++pl) σ H s):M4 X Fb σ H s:=I.pins_of λ p a=>I.pin p (zAw _ (zC1 _ a))
theorem qau5{iter:Expr}{wi:TI}{g:TG}{tb:TS}{pos:Pos}(l:PassesOwn (model X.prog X.w) X.A X.env X.xe)(F:X.calm=true)(hi:PI X tg iter wi)(O:PG X tg g)(c:PSs X body tb)(P:∀ x,Lu iter X.env x=pure x:=by intro _;rfl):PS X (.For tg iter body [] pos) (tFor wi g tb):=by
 intro Fb s σ H D I h;refine wpAny_For (thn (hi Fb s σ H _ I h) λ v s1 Q=>thn Q λ R s2 S=>?_) P;obtain⟨it,p,G,J,H2,e,I2,T,z,f2,W,⟨U,V⟩,turn⟩:=S;subst e;have stat:∀{H':Hp},(∀ b∈p,H' b=none)->∀ b∈p,Hm X Fb H' b:=λ Y b c=>⟨Y b c,(f2 b c).2⟩
 refine codeAny_forLoop_any (λ n K=>∃ i σ' H',M4 X Fb σ' H' K/\G i K.heap/\(∀ b∈p,H' b=none)/\W i n σ' H') ?_ U ⟨0,σ,H2,I2,z,λ b c=>(f2 b c).1,V⟩;rintro n L ⟨i,σ3,H3,I3,q,t,Z⟩;rcases turn i n σ3 H3 Z with⟨stop,qn⟩ | ⟨go,N,hN,step⟩
 . refine Mb l (thn (T.done X rfl rfl rfl F i Fb L σ3 H3 X.xe I3 (stat t) q stop) λ r s4 a=>?_)
   obtain⟨B,I4⟩:=a;subst B;exact wpAny_execs_nil ⟨σ3,H3,I4,qn⟩
 refine Mb l (thn (T.item X rfl rfl rfl F i Fb L σ3 H3 X.xe I3 (stat t) q go) λ r s4 a=>?_);obtain⟨u,B,h4⟩:=a;subst B;refine Mb l (thn h4 λ _ M a=>?_);obtain⟨x,H5,I5,r5,y5,k,C⟩:=a;have I5':=I5.pinned (stat C) (T.obj _ _ k);refine Mb l (thn (O _ M σ3 H5 x u _ I5' r5 (step x H5 y5)) λ _ s6 a=>?_);obtain⟨σ6,H6,I6,q6⟩:=a;refine Mb l (thn (c _ s6 σ6 H6 _ I6 q6) λ f E j=>?_);have again:∀{σ7:St}{H7:Hp},M4 X (Fb++qX3 p M.heap) σ7 H7 E->N σ7 H7->∃ m,m < n/\∃ i σ' H',M4 X Fb σ' H' E/\G i E.heap/\(∀ b∈p,H' b=none)/\W i m σ' H':=λ{σ7 H7} I7 y=>by
   obtain⟨m',hm,w7⟩:=hN σ7 H7 y;refine⟨m',hm,i+1,σ7,H7,I7.unpinned,T.keep _ _ _ k λ b c o e=>(I7.pin (b,o) (zAw _ (zAw _ (qm8 c e)))).1,λ b c=>?_,w7⟩;obtain⟨o,e,d⟩:=T.obj _ _ k b c;exact(I7.pin (b,o) (zAw _ (zAw _ (qm8 c e)))).2.1
 cases f with
 | next=>obtain⟨σ7,H7,I7,y⟩:=j;exact again I7 y
 | cont=>obtain⟨σ7,H7,I7,y⟩:=j;exact again I7 y
 | brk=>obtain⟨σ7,H7,I7,j⟩:=j;exact⟨σ7,H7,I7.unpinned,j⟩
 | ret v=>obtain⟨x7,σ7,H7,I7,r7,j⟩:=j;exact⟨x7,σ7,H7,I7.unpinned,r7,j⟩
end
theorem qac5{K:PySem.W.Frag}{a:γ}{xs:List V}{g:TG}{tb:TS}{D:Bm}{σ:St}{H:Hp}(Pv:Nat->St->Hp->Prop)(d:Pv 0 σ H)(f:∀ i σ H,i<=xs.length->Pv i σ H->SqL K H a xs)(h:∀ i x σ H,xs[i]? = some x->Pv i σ H->g x σ H λ σ2 H2=>tb { D with nx:=Pv (i+1),ct:=Pv (i+1),bk:=D.nx } σ2 H2)(j:∀ σ H,Pv xs.length σ H->D.nx σ H) :
   ∃ W:Nat->Nat->St->Hp->Prop,(∃ m,W 0 m σ H)/\∀ i m σ H,W i m σ H ->
     ((Itl K a).stop i H/\D.nx σ H)∨((Itl K a).go i H/\∃ N:St->Hp->Prop,(∀ σ' H',N σ' H'->∃ c,c < m/\W (i+1) c σ' H')/\∀ x H',(Itl K a).yld i H x H'->g x σ H' λ σ2 H2=>tb { D with nx:=N,ct:=N,bk:=D.nx } σ2 H2):=by
 refine⟨λ i m σ H=>m=xs.length - i/\i<=xs.length/\Pv i σ H,⟨xs.length,by simp,zBi _,d⟩,?_⟩;rintro i m σ H ⟨rfl,k,p⟩;have q:=f i σ H k p;by_cases b:i < xs.length
 . refine .inr ⟨⟨xs,xs[i],q,by simp[b]⟩,Pv (i+1),λ σ' H' l=>⟨xs.length - (i+1),by lia,rfl,b,l⟩,λ x H' y=>?_⟩
   obtain⟨e,y⟩:=y;subst e;exact h i x σ _ (y xs q) p
 have e:i=xs.length:=by lia
 subst e;exact .inl ⟨⟨xs,q,zA3 _⟩,j σ H p⟩
theorem qak4{lo:Int}{g:TG}{tb:TS}{D:Bm}{σ:St}{H:Hp}(Pv:Nat->St->Hp->Prop)(c:Pv 0 σ H)(d:∀ i σ H,i < n->Pv i σ H->g (.int (lo+i)) σ H λ σ2 H2=>tb { D with nx:=Pv (i+1),ct:=Pv (i+1),bk:=D.nx } σ2 H2)(f:∀ σ H,Pv n σ H->D.nx σ H) :
   ∃ W:Nat->Nat->St->Hp->Prop,(∃ m,W 0 m σ H)/\∀ i m σ H,W i m σ H ->
     ((Itr lo n).stop i H/\D.nx σ H)∨((Itr lo n).go i H/\∃ N:St->Hp->Prop,(∀ σ' H',N σ' H'->∃ b,b < m/\W (i+1) b σ' H')/\∀ x H',(Itr lo n).yld i H x H'->g x σ H' λ σ2 H2=>tb { D with nx:=N,ct:=N,bk:=D.nx } σ2 H2):=by
 refine⟨λ i m σ H=>m=n - i/\i<=n/\Pv i σ H,⟨n,by simp,zBi _,c⟩,?_⟩;rintro i m σ H ⟨rfl,j,p⟩;by_cases a:i < n
 . refine .inr ⟨a,Pv (i+1),λ σ' H' h=>⟨n - (i+1),by lia,rfl,a,h⟩,λ x H' y=>?_⟩
   obtain⟨e,y⟩:=y;subst e y;exact d i σ _ a p
 have e:i=n:=by lia
 subst e;exact .inl ⟨zA3 _,f σ H p⟩
abbrev R2:=V->V->Hp->VK->Prop
def OpR(X:Cx)(f:V'->V'->Sem V')(r:R2):Prop :=
 ∀(Fb:List (γ×Obj))(s:Sh)(σ:St)(H:Hp)(x y:V)(v u:V')(Q:VK),M4 X Fb σ H s->Mx x v->Mx y u->r x y H Q ->
   wpAny (model X.prog X.w) X.A (f v u) (EP X Fb σ Q) X.xe s
def UnR(X:Cx)(f:V'->Sem V')(r:V->Hp->VK->Prop):Prop :=
 ∀(Fb:List (γ×Obj))(s:Sh)(σ:St)(H:Hp)(x:V)(v:V')(Q:VK),M4 X Fb σ H s->Mx x v->r x H Q ->
   wpAny (model X.prog X.w) X.A (f v) (EP X Fb σ Q) X.xe s
def CallR(X:Cx)(f:V')(r:List V->Hp->VK->Prop):Prop :=
 ∀(Fb:List (γ×Obj))(s:Sh)(σ:St)(H:Hp)(xs:List V)(us:List V')(Q:VK),M4 X Fb σ H s->Mz xs us->r xs H Q ->
   wpAny (model X.prog X.w) X.A (call f us) (EP X Fb σ Q) X.xe s
def tOp(r:R2)(ta tb:TE):TE:=λ σ H Q=>ta σ H λ x H1=>tb σ H1 λ y H2=>r x y H2 Q
def tUn(r:V->Hp->VK->Prop)(ta:TE):TE:=λ σ H Q=>ta σ H λ x H1=>r x H1 Q
def rI(C:Int->Int->Prop)(g:Int->Int->V):R2:=λ x y H Q=>∃ i j,x=.int i/\y=.int j/\C i j/\Q (g i j) H
def rI0(g:Int->Int->V):R2:=λ x y H Q=>∃ i j,x=.int i/\y=.int j/\Q (g i j) H
def rU(g:Int->V):V->Hp->VK->Prop:=λ x H Q=>∃ i,x=.int i/\Q (g i) H
section
variable{X:Cx}{a b:Expr}{ta tb:TE}{pos:Pos}
theorem binT(d:PE X a ta)(e:PE X b tb){Fb:List (γ×Obj)}{s:Sh}{σ:St}{H:Hp}{R:V->V->Hp->Prop}(I:M4 X Fb σ H s)(h:ta σ H λ x H1=>tb σ H1 λ y H2=>R x y H2){Q:V'->Sh->Prop}{f:V'->V'->Sem V'}(g:∀ v u s2 x y H2,M4 X Fb σ H2 s2->Mx x v->Mx y u->R x y H2->wpAny (model X.prog X.w) X.A (f v u) Q X.xe s2) :
   wpAny (model X.prog X.w) X.A (eval a X.env) (λ v s₁=>wpAny (model X.prog X.w) X.A (eval b X.env) (λ u s₂=>wpAny (model X.prog X.w) X.A (f v u) Q X.xe s₂) X.xe s₁) X.xe s:=by
 refine thn (d Fb s σ H _ I h) λ v i c=>?_
 obtain⟨x,H1,I1,j,k⟩:=c;refine thn (e Fb i σ H1 _ I1 k) λ u s2 c=>?_
 obtain⟨y,H2,I2,l,q2⟩:=c;exact g v u s2 x y H2 I2 j l q2
theorem pe_op{op:Operator}{r:R2}(c:OpR X (Mf op) r)(d:PE X a ta)(e:PE X b tb):PE X (.BinOp a op b pos) (tOp r ta tb):=by
 intro Fb s σ H Q I h;exact wpAny_BinOp (binT d e I h λ v u f x y H2 I2 g i q=>c Fb f σ H2 x y v u Q I2 g i q)
theorem pe_un{op:UnaryOp}{r:V->Hp->VK->Prop}(b:UnR X (unaryOp op) r)(c:PE X a ta):PE X (.UnaryOp op a pos) (tUn r ta):=by
 intro Fb s σ H Q I h;exact UnaryOp_ (thn (c Fb s σ H _ I h) λ v d ⟨x,H1,I1,e,f⟩=>b Fb d σ H1 x v Q I1 e f)
theorem opI{f:V'->V'->Sem V'}{C:Int->Int->Prop}{g:Int->Int->Int}(rule:∀(i j:Int)(t u:Tok)(s:Sh)(Q:V'->Sh->Prop)(E:V'->Sh->Prop),C i j->Q (.int (g i j) s.toks) { s with toks:=s.toks+1 }->wpAny (model X.prog X.w) X.A (f (.int i t) (.int j u)) Q E s) :
   OpR X f (rI C λ i j=>.int (g i j)):=by
 intro Fb s σ H x y v u Q I a b h;obtain⟨i,j,rfl,rfl,c,q⟩:=h;obtain⟨t,rfl⟩:=a;obtain⟨d,rfl⟩:=b;exact rule i j t d s _ _ c ⟨.int (g i j),H,I.tok _,⟨_,rfl⟩,q⟩
theorem opI0{f:V'->V'->Sem V'}{g:Int->Int->Int}(rule:∀(i j:Int)(t u:Tok)(s:Sh)(Q:V'->Sh->Prop)(E:V'->Sh->Prop),Q (.int (g i j) s.toks) { s with toks:=s.toks+1 }->wpAny (model X.prog X.w) X.A (f (.int i t) (.int j u)) Q E s) :
   OpR X f (rI0 λ i j=>.int (g i j)):=by
 intro Fb s σ H x y v u Q I a b h;obtain⟨i,j,rfl,rfl,q⟩:=h;obtain⟨t,rfl⟩:=a;obtain⟨c,rfl⟩:=b;exact rule i j t c s _ _ ⟨.int (g i j),H,I.tok _,⟨_,rfl⟩,q⟩
theorem opB0{f:V'->V'->Sem V'}{g:Int->Int->Bool}(rule:∀(i j:Int)(t u:Tok)(s:Sh)(Q:V'->Sh->Prop)(E:V'->Sh->Prop),Q (.bool (g i j)) s->wpAny (model X.prog X.w) X.A (f (.int i t) (.int j u)) Q E s) :
   OpR X f (rI0 λ i j=>.bl (g i j)):=by
 intro Fb s σ H x y v u Q I a b h;obtain⟨i,j,rfl,rfl,q⟩:=h;obtain⟨t,rfl⟩:=a;obtain⟨c,rfl⟩:=b;exact rule i j t c s _ _ ⟨.bl (g i j),H,I,rfl,q⟩
def CPow(i j:Int):Prop:=0<=j/\j<=1000000/\i.natAbs < 2 ^ 64
def CMul(i j:Int):Prop:=(-(2 ^ 64) < i/\i < 2 ^ 64)∨(-(2 ^ 64) < j/\j < 2 ^ 64)
theorem CMul.ok{i j:Int}(h:CMul i j):IntMulOk i j:=by
 rcases h with⟨h1,h2⟩ | ⟨h1,h2⟩
 . exact .of_left (intBits_le_64 h1 h2)
 exact .of_right (intBits_le_64 h1 h2)
theorem qaQ7:OpR X (Mf .Add) (rI0 λ i j=>.int (i+j)):=opI0 λ _ _ _ _ _ _ _ q=>add_int q
theorem qm7:OpR X (Mf .Sub) (rI0 λ i j=>.int (i - j)):=opI0 λ _ _ _ _ _ _ _ q=>sub_int q
theorem qaQ0:OpR X (Mf .Mult) (rI CMul λ i j=>.int (i * j)):=opI λ _ _ _ _ _ _ _ a q=>mul_int q a.ok
theorem qj5:OpR X (Mf .Mod) (rI (λ _ j=>0 < j) λ i j=>.int (i % j)):=opI λ i j _ _ _ _ _ a q=>by
 have b:(0:Int) < j:=a;exact mod_int' (by lia) (by rw[Int.fmod_eq_emod_of_nonneg i (by lia)];exact q)
theorem qaP9:OpR X (Mf .Pow) (rI CPow λ i j=>.int (i ^ j.toNat)):=opI λ _ _ _ _ _ _ _ a q=>pow_int_small a.1 a.2.1 a.2.2 q
theorem unI{f:V'->Sem V'}{g:Int->Int}(rule:∀(i:Int)(t:Tok)(s:Sh)(Q:V'->Sh->Prop)(E:V'->Sh->Prop),Q (.int (g i) s.toks) { s with toks:=s.toks+1 }->wpAny (model X.prog X.w) X.A (f (.int i t)) Q E s) :
   UnR X f (rU λ i=>.int (g i)):=by
 intro Fb s σ H x v Q I a h;obtain⟨i,rfl,q⟩:=h;obtain⟨t,rfl⟩:=a;exact rule i t s _ _ ⟨.int (g i),H,I.tok _,⟨_,rfl⟩,q⟩
theorem qaM8:UnR X (unaryOp .USub) (rU λ i=>.int (-i)):=unI λ _ _ _ _ _ q=>neg_int q
end
section
variable{X:Cx}{a b c:Expr}{ta tb tc:TE}{pos:Pos}
theorem qaK8{Fb:List (γ×Obj)}{σ:St}{H:Hp}{s:Sh}{Q:VK}{k a:Bool}(I:M4 X Fb σ H s)(q:Q (.bl k) H)(e:k=a):EP X Fb σ Q (.bool a) s:=by
 subst e;exact⟨.bl k,H,I,rfl,q⟩
theorem Ke:OpR X (Ls .Lt) (rI0 λ i j=>.bl (decide (i < j))):=opB0 λ _ _ _ _ _ _ _ q=>lt_int q
theorem Kf:OpR X (Ls .LtE) (rI0 λ i j=>.bl (decide (i<=j))):=opB0 λ _ _ _ _ _ _ _ q=>le_int q
theorem Bu:OpR X (Ls .Gt) (rI0 λ i j=>.bl (decide (j < i))):=opB0 λ _ _ _ _ _ _ _ q=>gt_int q
theorem Gs:OpR X (Ls .GtE) (rI0 λ i j=>.bl (decide (j<=i))):=opB0 λ _ _ _ _ _ _ _ q=>ge_int q
theorem qaQ1:OpR X (Ls .Is) (λ x y H Q=>y=.non/\Q (.bl (decide (x=.non))) H):=by
 intro Fb s σ H x y v u Q I a b h;obtain⟨rfl,q⟩:=h;cases b;refine is_none_gen (qaK8 I q ?_);cases x<;>first
   | (cases a;rfl)
   | (obtain⟨t,rfl⟩:=a;rfl)
theorem qaG8:OpR X (Ls .IsNot) (λ x y H Q=>y=.non/\Q (.bl (!decide (x=.non))) H):=by
 intro Fb s σ H x y v u Q I a b h;obtain⟨rfl,q⟩:=h;cases b;refine isnot_none_gen (qaK8 I q ?_);cases x<;>first
   | (cases a;rfl)
   | (obtain⟨t,rfl⟩:=a;rfl)
theorem OpR.or{f:V'->V'->Sem V'}{r a:R2}(h:OpR X f r)(h':OpR X f a):OpR X f (λ x y H Q=>r x y H Q∨a x y H Q):=by
 intro Fb s σ H x y v u Q I b c q;rcases q with q | q
 . exact h Fb s σ H x y v u Q I b c q
 exact h' Fb s σ H x y v u Q I b c q
theorem qb1(b:Expr)(h:op≠.In:=by decide)(h2:op≠.NotIn:=by decide):behindInMarks op b=false:=by
 have a:(op == CmpOp.In)=false:=by cases op<;>first | rfl | exact absurd rfl h
 have e2:(op == CmpOp.NotIn)=false:=by cases op<;>first | rfl | exact absurd rfl h2
 cases b<;>simp[behindInMarks,a,e2]
theorem qaF9{r:R2}(c:OpR X (Ls op) r)(d:PE X a ta)(e:PE X b tb)(hm:behindInMarks op b=false):PE X (.Compare a [op] [b] pos) (tOp r ta tb):=by
 intro Fb s σ H Q I h;exact wpAny_Compare1 (binT d e I h λ v u f x y H2 I2 g i q=>c Fb f σ H2 x y v u Q I2 g i q) hm
def Kg(t:TE):TT:=λ σ H Q=>t σ H λ x H'=>∃ k,x=.bl k/\Q k H'
theorem qaD8{r:R2}(d:OpR X (Ls op) r)(f:PE X a ta)(g:PE X b tb)(hm:behindInMarks op b=false):PT X (.Compare a [op] [b] pos) (Kg (tOp r ta tb)):=by
 intro Fb s σ H Q I h;refine wpAny_isTrue_Compare1 (thn (f Fb s σ H _ I h) λ v i ⟨x,H1,I1,j,l⟩=>thn (g Fb i σ H1 _ I1 l) λ u m ⟨y,H2,I2,n,q2⟩ =>
   thn (d Fb m σ H2 x y v u _ I2 j n q2) λ c q ⟨z,H3,I3,o,k,e,p⟩=>?_) hm
 subst e;cases o;exact Lx ⟨H3,I3,p⟩
def qas5(r a:R2)(ta tb tc:TE):TE:=λ σ H Q=>ta σ H λ x H1=>tb σ H1 λ y H2=>r x y H2 λ z H3=>∃ k,z=.bl k /\
 (if k=true then tc σ H3 λ b H4=>a y b H4 Q else Q (.bl false) H3)
theorem qav4{f:CmpOp}{r i:R2}(m:OpR X (Ls op) r)(g:OpR X (Ls f) i)(n:PE X a ta)(o:PE X b tb)(p:PE X c tc)(hm:lastMarks [op,f] [b,c]=false:=by with_unfolding_all rfl):PE X (.Compare a [op,f] [b,c] pos) (qas5 r i ta tb tc):=by
 intro Fb s σ H Q I h;refine Compare_chain (thn (n Fb s σ H _ I h) λ v q ⟨x,H1,I1,t,w⟩=>chain_link (thn (o Fb q σ H1 _ I1 w) λ u A ⟨y,H2,I2,j,q2⟩ =>
   thn (m Fb A σ H2 x y v u _ I2 t j q2) λ d B ⟨z,H3,I3,C,k,e,l⟩=>?_)) hm
 subst e;cases C;refine Lx ?_;cases k with
 | false=>exact ite_ff ⟨.bl false,H3,I3,rfl,l⟩
 | true=>exact ite_tt (chain_last (thn (p Fb B σ H3 _ I3 l) λ D E ⟨F,H4,I4,G,J⟩=>g Fb E σ H4 y F u D Q I4 j G J))
theorem qau2{f:CmpOp}{r j:R2}(n:OpR X (Ls op) r)(i:OpR X (Ls f) j)(o:PE X a ta)(p:PE X b tb)(q:PE X c tc)(hm:lastMarks [op,f] [b,c]=false:=by with_unfolding_all rfl):PT X (.Compare a [op,f] [b,c] pos) (Kg (qas5 r j ta tb tc)):=by
 intro Fb s σ H Q I h;refine isTrue_chain (thn (o Fb s σ H _ I h) λ v t ⟨x,H1,I1,w,A⟩=>test_link (thn (p Fb t σ H1 _ I1 A) λ u B ⟨y,H2,I2,l,q2⟩ =>
   thn (n Fb B σ H2 x y v u _ I2 w l q2) λ d C ⟨z,H3,I3,D,k,e,m⟩=>?_)) hm
 subst e;cases D;refine Lx ?_;cases k with
 | false =>
   obtain⟨P,E,F⟩:=m;cases E;exact ite_ff ⟨H3,I3,F⟩
 | true =>
   refine ite_tt (test_last (thn (q Fb C σ H3 _ I3 m) λ G J g=>?_));obtain⟨K,H4,I4,L,M⟩:=g;refine thn (i Fb J σ H4 y K u G _ I4 l L M) λ R S g=>?_
   obtain⟨T,H5,I5,N,U,e2,O⟩:=g;subst e2;cases N;exact Lx ⟨H5,I5,O⟩
theorem qK7:(Lr:Nat) < 2 ^ 63:=by rw[Lz];decide
theorem qY2:OpR X (Mf .Add) (λ x y H Q=>∃ i j,x=.str i/\y=.str j/\i.length+j.length<=Lr/\Q (.str (i++j)) H):=by
 intro Fb s σ H x y v u Q I a b h;obtain⟨i,j,rfl,rfl,c,q⟩:=h;obtain⟨t,rfl⟩:=a;obtain⟨d,rfl⟩:=b;exact add_str (λ d e=>⟨.str (i++j),H,I.tok _,⟨_,rfl⟩,q⟩) c
theorem Bo{x:V}(r:Mz [x] us):∃ u,us=[u]/\Mx x u:=by
 cases r with
 | cons a b=>cases b;exact⟨_,rfl,a⟩
theorem Hr{x y:V}(r:Mz [x,y] us):∃ u a,us=[u,a]/\Mx x u/\Mx y a:=by
 cases r with
 | cons b c =>
   cases c with
   | cons d e=>cases e;exact⟨_,_,rfl,b,d⟩
theorem qaA0:CallR X (.builtin "abs") (λ xs H Q=>∃ i,xs=[.int i]/\Q (.int (if i < 0 then -i else i)) H):=by
 intro Fb s σ H xs a Q I r h;obtain⟨i,rfl,q⟩:=h;obtain⟨u,rfl,t,rfl⟩:=Bo r;exact call_abs_int λ u b=>⟨.int (if i < 0 then -i else i),H,I.tok _,⟨_,rfl⟩,q⟩
theorem qQ4(b:X.calm=true):CallR X (.builtin "max") (λ xs H Q=>∃ i j,xs=[.int i,.int j]/\Q (.int (if j > i then j else i)) H):=by
 intro Fb s σ H xs c Q I r h;obtain⟨i,j,rfl,q⟩:=h;obtain⟨u,d,rfl,⟨t,rfl⟩,⟨e,rfl⟩⟩:=Hr r;refine max_two_ints (I.ok.hd b) λ f g k=>⟨_,H,I.kept k,?_,q⟩
 by_cases a:j > i
 . rw[if_pos a,if_pos a];exact⟨_,rfl⟩
 rw[if_neg a,if_neg a];exact⟨_,rfl⟩
theorem qC6(b:X.calm=true):CallR X (.builtin "min") (λ xs H Q=>∃ i j,xs=[.int i,.int j]/\Q (.int (if j < i then j else i)) H):=by
 intro Fb s σ H xs c Q I r h;obtain⟨i,j,rfl,q⟩:=h;obtain⟨u,d,rfl,⟨t,rfl⟩,⟨e,rfl⟩⟩:=Hr r;refine min_two_ints (I.ok.hd b) λ f g k=>⟨_,H,I.kept k,?_,q⟩
 by_cases a:j < i
 . rw[if_pos a,if_pos a];exact⟨_,rfl⟩
 rw[if_neg a,if_neg a];exact⟨_,rfl⟩
theorem qam8:CallR X (.type "int") (λ xs H Q=>(∃ i,xs=[.int i]/\Q (.int i) H)∨∃ k,xs=[.bl k]/\Q (.int (if k then 1 else 0)) H):=by
 intro Fb s σ H xs b Q I r h;rcases h with⟨i,rfl,q⟩ | ⟨k,rfl,q⟩
 . obtain⟨u,rfl,t,rfl⟩:=Bo r
   exact call_int_int ⟨.int i,H,I,⟨_,rfl⟩,q⟩
 obtain⟨u,rfl,a⟩:=Bo r;cases a;exact call_int_bool ⟨.int (if k then 1 else 0),H,I.tok _,⟨_,rfl⟩,q⟩
end
structure ObjM(h:Heap)(x dx C:γ)(mA:Str->Option V'):Prop where
 obj:h.get? x=some (W.instObj C dx)
 ns:h.Ns1 dx mA
 ne:dx≠x
theorem qs4{h:Heap}{dx:γ}{mA:Str->Option V'}(n:h.Ns1 dx mA):∃ od,h.get? dx=some od/\∀ name,W.lookIn name od=some (mA name):=by
 obtain⟨o,c,l,d,f,g,_,i⟩:=n;refine⟨o,d,λ name=>?_⟩;have e:=i name;unfold nsFind findBy at e;rw[<- Array.find?_toList] at e;unfold W.lookIn;rw[f];dsimp only;split
 . rename_i y q
   rw[q] at e;exact congrArg some e
 rename_i q
 rw[q] at e;have a:c.toList.any (·.refKey)=false:=by
   rw[List.any_eq_false];intro y j;obtain⟨z,t,b⟩:=g y (Array.mem_toList_iff.mp j);simp[DictEntry.refKey,b]
 have k:¬ c.toList.any (·.refKey)=true:=by rw[a];exact zAh
 rw[if_neg k];exact congrArg some e
theorem ObjM.look{h:Heap}{x dx C:γ}{mA:Str->Option V'}(I:ObjM h x dx C mA):∃ od,W.InstAt h x (W.instObj C dx) C (some od)/\∀ name,W.lookIn name od=some (mA name) :=
 let ⟨od,ho,hl⟩:=qs4 I.ns
 ⟨od,⟨I.obj,rfl,rfl,ho⟩,hl⟩
section
variable{prog:Program}{w:World}{A:Around}{E:V'->Sh->Prop}{s:Sh}{K:W.Frag}{x dx C f:γ}{mA:Str->Option V'}{name:Str}{v:V'}
theorem qaK1{expr:Bool}{Q:V'->Sh->Prop}(X:K.In s.heap)(I:ObjM s.heap x dx C mA)(b:W.plainGet K C name=true)(c:W.hasDictIn K C=true)(d:W.findIn K (.ref C) name=some none)(e:mA name=some v)(a:W.handedIn v=true)(h:Q v { s with toks:=s.toks+1 }) :
   wpAny (model prog w) A (getAttr (.ref x) name expr) Q E s:=by
 obtain⟨g,J,f⟩:=I.look;exact W.get_value X J (W.plainGet_of b).1 (W.findObj_own c d rfl (by rw[f,e])) a h
theorem qay1{Q:V'×List V'->Sh->Prop}(X:K.In s.heap)(I:ObjM s.heap x dx C mA)(a:W.plainGet K C name=true)(b:W.findIn K (.ref C) name=some (some (.ref f)))(c:W.isFn K (.ref f)=true)(d:mA name=none)(h:Q (.ref f,[.ref x]) s) :
   wpAny (model prog w) A (getMethod (.ref x) name pl) Q E s:=by
 obtain⟨e,J,g⟩:=I.look;exact W.method_fn X J (W.plainGet_of a).1 (W.plainGet_of a).2 b (zBp.mp c) (by show (W.lookIn name e).map (·.isSome)=some false;rw[g,d];rfl) h
theorem qaC4{ns:List Str}{Q:Unit->Sh->Prop}(X:K.In s.heap)(I:ObjM s.heap x dx C mA)(j:W.findIn K (.ref C) "__setattr__" = some (some (.builtin "object.__setattr__")))(k:W.plainOver K C=true)(l:W.takerIn K C name=some none)(m:W.hasDictIn K C=true)(n:PySem.Within mA ns)(hsz:ns.length<=Lr)(h:∀ h',ObjM h' x dx C (λ y=>if y=name then some v else mA y)->Heap.SameBut dx s.heap h'->Q () { s with heap:=h',toks:=s.toks+2 }) :
   wpAny (model prog w) A (setAttr (.ref x) name v) Q E s:=by
 obtain⟨u,J,z⟩:=I.look;refine W.set_plain X J j (W.osa_open (s:={ s with toks:=s.toks+1 }) (r:=none) X J k l λ b=>?_);obtain⟨B,o,e⟩:=W.any_some m;have p:s.heap.get? x=some ⟨.ref C,some dx,.plain,#[]⟩:=I.obj;refine G' (J' (G' (G' (wpAny_loadPart p (G' (W.Looks.here (s:={ s with toks:=s.toks+1 }) (W.looks_clsIn X o) ?_))))));rw[e];refine J' (a:=some dx) (G' (J' (G' ?_)));refine wpAny_nsSet1 (s:={ s with toks:=s.toks+1 }) I.ns λ h' c d=>?_
 obtain⟨D,q,t,f,g,i⟩:=c.count (PySem.Within.cons name v n);refine G' (wpAny_lookBehind f (by rw[g];exact pastItsLine_dict (zAn i (by rw[zAg];lia))) ?_);exact J' (h _ ⟨(d.2 _ (Ne.symm I.ne)).trans I.obj,c,I.ne⟩ d)
theorem qax2{R:Result->Sh->Prop}{vs:List V'}(X:K.In s.heap)(hm:W.makesIn K C=true)(hi:W.findIn K (.ref C) "__init__" = some (some (.ref f)))(a:W.typeIn K (.ref f)=some (.type "function"))(h:codeAny (model prog w) (A.under (.builtin "type.__call__" ⟨.ref C::vs,kw⟩)) (.call (.ref f) ⟨.ref (s.heap.objs.size+1)::vs,kw⟩) (W.InitBack (s.heap.objs.size+1) R)
     { s with heap:=(s.heap.push W.emptyDict).push (W.instObj C s.heap.objs.size) }) :
   codeAny (model prog w) A (.call (.ref C) ⟨vs,kw⟩) R s:=by
 obtain⟨b,g,d,t,c⟩:=s;exact W.make_core (W.makes_of X hm) (W.looks_findIn X hi) (λ self=>W.bind_fn X self a) (.inl rfl) h
end
noncomputable def Bj(f:Str)(v:V):List (Str×V)->List (Str×V)
 | []=>[(f,v)]
 | (g,x)::r=>if g=f then (g,v)::r else (g,x)::Bj f v r
theorem qp3(f g:Str)(v:V):∀ fs:List (Str×V),(Bj f v fs).lookup g=if g=f then some v else fs.lookup g
 | []=>by
   show List.lookup g [(f,v)]=_;by_cases h:g=f
   . have a:(g == f)=true:=zBp.mpr h
     simp only[List.lookup,a,if_pos h]
   have a:(g == f)=false:=zBu.mpr h;simp only[List.lookup,a,if_neg h]
 | (k,x)::r=>by
   have c:=qp3 f g v r;rw[show Bj f v ((k,x)::r)=(if k=f then (k,v)::r else (k,x)::Bj f v r) from rfl];by_cases b:k=f
   . rw[if_pos b]
     by_cases h:g=k
     . have a:(g == k)=true:=zBp.mpr h
       simp only[List.lookup,a,if_pos (h.trans b)]
     have a:(g == k)=false:=zBu.mpr h;simp only[List.lookup,a,if_neg (λ e:g=f=>h (e.trans b.symm))]
   rw[if_neg b];by_cases h:g=k
   . have a:(g == k)=true:=zBp.mpr h
     simp only[List.lookup,a,if_neg (λ e:g=f=>b (h.symm.trans e))]
   have a:(g == k)=false:=zBu.mpr h;simp only[List.lookup,a];exact c
theorem qn2(f:Str)(v:V):∀ fs:List (Str×V),f∈(Bj f v fs).map (·.1)/\∀ g,g∈fs.map (·.1)->g∈(Bj f v fs).map (·.1)
 | []=>⟨by simp[Bj],λ g h=>by simp at h⟩
 | (k,x)::r=>by
   obtain⟨b,c⟩:=qn2 f v r;rw[show Bj f v ((k,x)::r)=(if k=f then (k,v)::r else (k,x)::Bj f v r) from rfl];by_cases a:k=f
   . rw[if_pos a]
     subst a;exact⟨by simp,λ g h=>by simpa using h⟩
   rw[if_neg a];refine⟨?_,λ g h=>?_⟩
   . rw[zAx]
     exact zA5 _ b
   rw[zAx] at h ⊢;rcases zAm.mp h with e | e
   . exact zAm.mpr (.inl e)
   exact zA5 _ (c g e)
theorem qp4(f:Str)(v:V):∀ fs:List (Str×V),(Bj f v fs).length<=fs.length+1
 | []=>by simp[Bj]
 | (k,x)::r=>by
   have b:=qp4 f v r;rw[show Bj f v ((k,x)::r)=(if k=f then (k,v)::r else (k,x)::Bj f v r) from rfl];by_cases a:k=f
   . rw[if_pos a,zAg,zAg];lia
   rw[if_neg a,zAg,zAg];lia
theorem RelO.some_of{v:V}{o:Option V'}(r:RelO (some v) o):∃ u,o=some u/\Mx v u:=by
 cases o with
 | none=>exact(show False from r).elim
 | some u=>exact⟨u,rfl,r⟩
theorem RelO.none_of{o:Option V'}(r:RelO none o):o=none:=by
 cases o with
 | none=>rfl
 | some u=>exact(show False from r).elim
theorem qO1{v:V}{u:V'}(r:Mx v u):W.handedIn u=true:=by
 cases v with
 | non=>cases (show u=Value.none from r);rfl
 | bl b=>cases (show u=Value.bool b from r);rfl
 | int i=>obtain⟨t,e⟩:=(show ∃ t,u=Value.int i t from r);cases e;rfl
 | str x=>obtain⟨t,e⟩:=(show ∃ t,u=Value.str x t from r);cases e;rfl
 | byt b=>obtain⟨t,e⟩:=(show ∃ t,u=Value.bytes b t from r);cases e;rfl
 | flt b=>obtain⟨t,e⟩:=(show ∃ t,u=Value.float b t from r);cases e;rfl
 | ref a=>cases (show u=Value.ref a from r);rfl
 | ty n=>cases (show u=Value.type n from r);rfl
section
variable{P:Program}{w:World}{H:Hp}{h:Heap}{a C dx:γ}{fs:List (Str×V)}
theorem qN9(b:HOk P w H h)(e:H a=some (.ins C dx fs)):∃ mA,ObjM h a dx C mA/\(∀ f,RelO (fs.lookup f) (mA f))/\PySem.Within mA (fs.map (·.1))/\fs.length<=1000/\H dx=some (.own a):=by
 obtain⟨d,z,c,g,mA,n,r,q⟩:=(show ObjOk P w H h a (.ins C dx fs) from b a _ e)
 exact⟨mA,⟨g,n,c⟩,r,q,z,d⟩
end
structure Cls(K:W.Frag)(C:γ):Prop where
 pg:W.plainGet K C Str.empty=true
 hd:W.hasDictIn K C=true
 po:W.plainOver K C=true
 sa:W.findIn K (.ref C) "__setattr__" = some (some (.builtin "object.__setattr__"))
theorem Cls.get{K:W.Frag}{C:γ}(c:Cls K C)(f:Str):W.plainGet K C f=true:=c.pg
def qc8(K:W.Frag)(C:γ)(f:Str):Prop:=W.findIn K (.ref C) f=some none
theorem qc8.taker{K:W.Frag}{C:γ}{f:Str}(n:qc8 K C f):W.takerIn K C f=some none:=by
 unfold W.takerIn;rw[show W.findIn K (.ref C) f=some none from n];rfl
structure Jt(K:W.Frag)(C:γ)(m:Str)(f:γ):Prop where
 at_:W.findIn K (.ref C) m=some (some (.ref f))
 fn:W.isFn K (.ref f)=true
 kp:W.keepIn K (.ref f)=true
section
variable{X:Cx}{Fb:List (γ×Obj)}{σ:St}{H:Hp}{s:Sh}{a C dx:γ}{fs:List (Str×V)}{f:Str}{v:V}{A:Around}{E:V'->Sh->Prop}
theorem qac0{b:Bool}{Q:V'->Sh->Prop}(I:M4 X Fb σ H s)(e:H a=some (.ins C dx fs))(c:Cls X.K C)(n:qc8 X.K C f)(l:fs.lookup f=some v)(h:∀ u s',M4 X Fb σ H s'->Mx v u->Q u s'):wpAny (model X.prog X.w) A (getAttr (.ref a) f b) Q E s:=by
 obtain⟨g,O,r,_,_,_⟩:=qN9 I.hok e;obtain⟨u,i,d⟩:=RelO.some_of (v:=v) (o:=g f) (by rw[<- l];exact r f);exact qaK1 I.kIn O (c.get f) c.hd n i (qO1 d) (h u _ (I.tok _) d)
theorem qv0{m:Str}{g:γ}{Q:V'×List V'->Sh->Prop}(I:M4 X Fb σ H s)(e:H a=some (.ins C dx fs))(c:Cls X.K C)(k:Jt X.K C m g)(l:fs.lookup m=none)(h:Q (.ref g,[.ref a]) s):wpAny (model X.prog X.w) A (getMethod (.ref a) m pl) Q E s:=by
 obtain⟨b,O,r,_,_,_⟩:=qN9 I.hok e;have d:b m=none:=RelO.none_of (by rw[<- l];exact r m);exact qay1 I.kIn O (c.get m) k.at_ k.fn d h
theorem qW0{y:V}{u:V'}{Q:Unit->Sh->Prop}(I:M4 X Fb σ H s)(e:H a=some (.ins C dx fs))(c:Cls X.K C)(n:qc8 X.K C f)(D:fs.length < 1000)(k:Mx y u)(h:∀ s',M4 X Fb σ (upd H a (.ins C dx (Bj f y fs))) s'->Q () s'):wpAny (model X.prog X.w) A (setAttr (.ref a) f u) Q E s:=by
 obtain⟨d,O,r,i,_,j⟩:=qN9 I.hok e;have l:(fs.map (·.1)).length<=Lr:=by rw[zA8,Lz];lia
 refine qaC4 I.kIn O c.sa c.po n.taker c.hd i l λ m O' p=>h _ ?_
 have t:∃ o,m.get? dx=some o:=let ⟨o,_,_,e',_⟩:=O'.ns;⟨o,e'⟩
 refine I.write (x:=a) (e:=dx) (by rw[e];exact True.intro) (.inr j) (λ b q v z=>(p.2 b v).trans z) t ?_;refine⟨by rw[qb4 O.ne];exact j,?_,O.ne,O'.obj,_,O'.ns,λ g=>?_,λ g B=>?_⟩
 . have:=qp4 f y fs;lia
 . show RelO ((Bj f y fs).lookup g) (if g=f then some u else d g)
   rw[qp3];by_cases q:g=f
   . rw[if_pos q,if_pos q];exact k
   rw[if_neg q,if_neg q];exact r g
 by_cases q:g=f
 . rw[q];exact(qn2 f y fs).1
 refine(qn2 f y fs).2 g (i g λ z=>B ?_);show (if g=f then some u else d g)=none;rw[if_neg q];exact z
theorem M4.made(I:M4 X Fb σ H s):M4 X Fb σ (upd (upd H s.heap.objs.size (.own (s.heap.objs.size+1))) (s.heap.objs.size+1) (.ins C s.heap.objs.size []))
   { s with heap:=(s.heap.push W.emptyDict).push (W.instObj C s.heap.objs.size) }:=by
 have c:(s.heap.push W.emptyDict).get? s.heap.objs.size=some W.emptyDict:=zAz s.heap rfl;have e2:((s.heap.push W.emptyDict).push (W.instObj C s.heap.objs.size)).get? (s.heap.objs.size+1)=some (W.instObj C s.heap.objs.size):=by
   have:=zAz (s.heap.push W.emptyDict) (o:=W.instObj C s.heap.objs.size) rfl
   rwa[Heap.size_push] at this
 have f:(s.heap.push W.emptyDict).Ns s.heap.objs.size (λ _=>none):=⟨W.emptyDict,#[],_,c,rfl,(λ e g=>absurd g (by simp)),λ _=>rfl⟩
 have I1:=I.laid (a:=s.heap.objs.size) (o:=.own (s.heap.objs.size+1)) (h':=s.heap.push W.emptyDict) (t':=s.toks) (λ b u q=>zA2 _ q) (zA3 _) ⟨_,c⟩;refine I1.laid (a:=s.heap.objs.size+1) (o:=.ins C s.heap.objs.size []) (t':=s.toks) (λ b u q=>zA2 _ q) (zC4 (Heap.size_push _ _)) ?_;have d:s.heap.objs.size≠s.heap.objs.size+1:=zAl (zBy _);refine⟨by rw[qb4 d,qb3],zBi _,d,e2,λ _=>none,(Heap.Ns1.of_empty f).at λ o q=>zA2 _ q,λ _=>True.intro,λ y h=>absurd rfl h⟩
theorem qar4{prog:Program}{w:World}{env:Env}{e:Expr}{f:Str}{pos:Pos}{s:Sh}{Q:V'->Sh->Prop}(a:Ly e f env (eval e env)=eval e env)(h:wpAny (model prog w) A (eval e env) (λ o s₁=>wpAny (model prog w) A (getAttr o f true) Q E s₁) E s):wpAny (model prog w) A (eval (.Attribute e f pos) env) Q E s :=
 Attribute_any_ h (by rw[arm_eval_Attribute,a])
end
def tFld(K:W.Frag)(ta:TE)(f:Str):TE:=λ σ H Q=>ta σ H λ x H1=>∃ a C dx fs v,x=.ref a/\H1 a=some (.ins C dx fs)/\Cls K C/\qc8 K C f/\fs.lookup f=some v/\Q v H1
def sFld(K:W.Frag)(ta tv:TE)(f:Str):TS:=λ D σ H=>tv σ H λ y H1=>ta σ H1 λ x H2=>∃ a C dx fs,x=.ref a/\H2 a=some (.ins C dx fs)/\Cls K C/\qc8 K C f/\fs.length < 1000 /\
 D.nx σ (upd H2 a (.ins C dx (Bj f y fs)))
section
variable{X:Cx}{o e value:Expr}{f:Str}{pos pos':Pos}{ta tv:TE}
theorem qaF7(d:PE X e ta)(g:Ly e f X.env (eval e X.env)=eval e X.env):PE X (.Attribute e f pos) (tFld X.K ta f):=by
 intro Fb s σ H Q I h;refine qar4 g (thn (d Fb s σ H _ I h) λ u o b=>?_);obtain⟨x,H1,I1,i,a,C,p,r,v,j,k,c,n,l,q⟩:=b;subst j;obtain rfl:u=Value.ref a:=i;exact qac0 I1 k c n l λ t w I2 m=>⟨v,H1,I2,m,q⟩
theorem qaO3(d:PE X o ta)(e:PE X value tv)(g:swapsWith value (some (.Attribute o f pos')) pos.line X.env=pure false):PS X (.Assign [.Attribute o f pos'] value pos) (sFld X.K ta tv f):=by
 intro Fb s σ H D I h;refine plainObj_wpAny_Assign_Attribute (thn (e Fb s σ H _ I h) λ u i b=>?_) g;obtain⟨y,H1,I1,j,q⟩:=b;refine thn (d Fb i σ H1 _ I1 q) λ k t b=>?_
 obtain⟨x,H2,I2,m,a,C,v,w,p,r,c,n,l,q2⟩:=b;subst p;obtain rfl:k=Value.ref a:=m;exact qW0 I2 r c n l j λ z I3=>⟨σ,_,I3,q2⟩
theorem qaA6{m:Str}{apos:Pos}{args:List Expr}{Fb:List (γ×Obj)}{s:Sh}{σ:St}{H:Hp}{Q:V'->Sh->Prop}{te:TE}(i:PE X e te)(I:M4 X Fb σ H s)(h:te σ H λ x H1=>∃ a C dx fs g,x=.ref a/\H1 a=some (.ins C dx fs)/\Cls X.K C/\Jt X.K C m g/\fs.lookup m=none /\
     ∀ b,M4 X Fb σ H1 b->wpAny (model X.prog X.w) X.A (callWith pos (.ref g) [.ref a] (backTo pos (Lq args X.env)) (backToKw pos (L8 [] X.env))) Q X.xe b)(j:eval (.Call (.Attribute e m apos) args [] pos) X.env=(do
     let ov <- eval e X.env
     standAt apos.atName
     let (f,first) <- holding [ov] (getMethod ov m pl)
     callWith pos f first (backTo pos (Lq args X.env)) (backToKw pos (L8 [] X.env)))) :
   wpAny (model X.prog X.w) X.A (eval (.Call (.Attribute e m apos) args [] pos) X.env) Q X.xe s:=by
 refine W.methodCall_KW (pl:=pl) (thn (i Fb s σ H _ I h) λ u b d=>?_) j;obtain⟨x,H1,I1,n,a,C,dx,fs,g,o,p,c,k,l,q⟩:=d;subst o;obtain rfl:u=Value.ref a:=n;exact qv0 I1 p c k l (q b I1)
end
section
variable{X:Cx}{Fb:List (γ×Obj)}{σ:St}{H:Hp}{s:Sh}{A:Around}{E Q:V'->Sh->Prop}{c:V'}{b:Bool}
inductive Gb(K:W.Frag)(H:Hp):V->V'->Prop where
 | non:Gb K H .non (.type "NoneType")
 | bl (x:Bool):Gb K H (.bl x) (.type "bool")
 | int (i:Int):Gb K H (.int i) (.type "int")
 | str (x:Str):Gb K H (.str x) (.type "str")
 | flt (x:UInt64):Gb K H (.flt x) (.type "float")
 | l {a:γ} {xs:List V} (e:H a=some (.l xs)):Gb K H (.ref a) (.type "list")
 | frz {a:γ} {o:Obj} {xs:List V} (e:H a=some (.frz o (.l xs))):Gb K H (.ref a) (.type "list")
 | q {a:γ} {xs:List V} (e:H a=some (.q xs)):Gb K H (.ref a) (.type "tuple")
 | dK {a:γ} {kvs:List (Key×V)} (e:H a=some (.dK kvs)):Gb K H (.ref a) (.type "dict")
 | dT {a:γ} {kvs:List (List Key×V)} (e:H a=some (.dT kvs)):Gb K H (.ref a) (.type "dict")
 | ins {a C dx:γ} {fs:List (Str×V)} (e:H a=some (.ins C dx fs)) (cl:Cls K C) (ha:W.findIn K (.ref C) "__class__" = some (some (.builtin "object.__class__")))
     (hn:W.specialIn K (.builtin "object.__class__") "__get__" = some (some (.builtin "getset_descriptor.__get__"))) (htk:W.takesIn K (.builtin "object.__class__")=some true)
     (hm:W.mroIn K C (.type "object")=some true):Gb K H (.ref a) (.ref C)
theorem qB9{x:V}{u t:V'}(I:M4 X Fb σ H s)(d:Mx x u)(ty:Gb X.K H x t)(e:W.kitOne X.K t c=some b)(h:∀ k,Q (.bool b) { s with toks:=k }) :
   wpAny (model X.prog X.w) A (call (.builtin "isinstance") [u,c]) Q E s:=by
 cases ty with
 | non=>cases (show u=Value.none from d);exact W.kia_one W.kitx_none I.kIn True.intro e (λ z=>nomatch z) h
 | bl y=>cases (show u=Value.bool y from d);exact W.kia_one W.kitx_bool I.kIn True.intro e (λ z=>nomatch z) h
 | int i=>obtain⟨t,q⟩:=(show ∃ t,u=Value.int i t from d);cases q;exact W.kia_one W.kitx_int I.kIn True.intro e (λ z=>nomatch z) h
 | str y=>obtain⟨t,q⟩:=(show ∃ t,u=Value.str y t from d);cases q;exact W.kia_one W.kitx_str I.kIn True.intro e (λ z=>nomatch z) h
 | flt y=>obtain⟨t,q⟩:=(show ∃ t,u=Value.float y t from d);cases q;exact W.kia_one W.kitx_float I.kIn True.intro e (λ z=>nomatch z) h
 | @l a g ea =>
   cases (show u=Value.ref a from d);obtain⟨_,_,n,_,f⟩:=(show ObjOk X.prog X.w H s.heap a (.l g) from I.hok a _ ea)
   exact W.kia_one W.kitx_list I.kIn ⟨_,f,rfl⟩ e (λ z=>nomatch z) h
 | @frz a ob g ea =>
   cases (show u=Value.ref a from d);obtain⟨_,_,_,n,_,f⟩:=(show ObjOk X.prog X.w H s.heap a (.frz ob (.l g)) from I.hok a _ ea)
   exact W.kia_one W.kitx_list I.kIn ⟨_,f,rfl⟩ e (λ z=>nomatch z) h
 | @q a g ea =>
   cases (show u=Value.ref a from d);obtain⟨_,_,_,p⟩:=(show ObjOk X.prog X.w H s.heap a (.q g) from I.hok a _ ea)
   obtain⟨o,f,j,_⟩:=p;exact W.kia_one W.kitx_tuple I.kIn ⟨o,f,j⟩ e (λ z=>nomatch z) h
 | @dK a kvs ea =>
   cases (show u=Value.ref a from d);obtain⟨_,_,r,_,p⟩:=(show ObjOk X.prog X.w H s.heap a (.dK kvs) from I.hok a _ ea)
   obtain⟨o,l,m,f,j,_⟩:=p;exact W.kia_one W.kitx_dict I.kIn ⟨o,f,j.1⟩ e (λ z=>nomatch z) h
 | @dT a kvs ea =>
   cases (show u=Value.ref a from d);obtain⟨_,_,g,_,o,l,m,f,j,_⟩:=(show ObjOk X.prog X.w H s.heap a (.dT kvs) from I.hok a _ ea)
   exact W.kia_one W.kitx_dict I.kIn ⟨o,f,j.1⟩ e (λ z=>nomatch z) h
 | @ins a C dx fs ea cl ha hn htk hm =>
   cases (show u=Value.ref a from d);obtain⟨v,O,_⟩:=qN9 I.hok ea;obtain⟨B,J,_⟩:=O.look;exact W.kia_one (W.kitx_own (cl.get _) cl.hd ha hn htk hm) I.kIn J e (λ z=>nomatch z) h
end
structure M7(cm:Bool)(k:Nat)(A:Around):Prop where
 hd:cm=true->A.handled=none
 dp:A.depth+3 * k+5 < recursionLimit
 un:A.units+16 * k+200 < cLine
abbrev Room:=M7 true
theorem M7.mono{cm:Bool}{j k:Nat}{A:Around}(r:M7 cm k A)(h:j<=k):M7 cm j A:=⟨r.hd,by have:=r.dp;lia,by have:=r.un;lia⟩
theorem M7.deeper{cm:Bool}{k:Nat}{A:Around}(r:M7 cm (k+1) A)(env:Env):M7 cm k (A.deeper env) :=
 ⟨r.hd,by have:=r.dp;show A.depth+1+3 * k+5 < _;lia,by have:=r.un;show A.units+3+16 * k+200 < _;lia⟩
theorem qZ2{A:Around}{C:γ}:(A.under (.builtin "type.__call__" ⟨.ref C::us,kw⟩)).depth=A.depth+1:=by
 first | rfl | simp[Around.under,Code.weight,Code.isCreation,Code.isGuard,Code.isCaller,Code.frames,Code.isFrame,guardIds]
theorem qZ1{A:Around}{C:γ}:(A.under (.builtin "type.__call__" ⟨.ref C::us,kw⟩)).units=A.units+1:=by
 first | rfl | simp[Around.under,Code.cUnits,Code.frames,Code.isFrame]
theorem M7.make{cm:Bool}{k:Nat}{A:Around}(r:M7 cm (k+1) A)(C:γ)(us:List V')(kw:List (Str×V')):M7 cm k (A.under (.builtin "type.__call__" ⟨.ref C::us,kw⟩)) :=
 ⟨r.hd,by have:=r.dp;rw[qZ2];lia,by have:=r.un;rw[qZ1];lia⟩
theorem M7.depth{cm:Bool}{k:Nat}{A:Around}(r:M7 cm k A):A.depth < recursionLimit:=by have:=r.dp;lia
theorem M7.units{cm:Bool}{k:Nat}{A:Around}(r:M7 cm k A):A.units+64 < cLine:=by have:=r.un;lia
theorem M7.units0{cm:Bool}{k:Nat}{A:Around}(r:M7 cm k A):A.units < cLine:=by have:=r.un;lia
def tNil:TA:=λ _ H Q=>Q [] H
def tCons(ta:TE)(tr:TA):TA:=λ σ H Q=>ta σ H λ x H1=>tr σ H1 λ xs H2=>Q (x::xs) H2
section
variable{X:Cx}{e:Expr}{es:List Expr}{te:TE}{t:TA}{pos:Pos}
theorem qt9:PA X [] tNil:=λ _ _ _ _ H Q I h=>Calls.spliced_nil ⟨[],H,I,.nil,h⟩
theorem qe6(b:PE X e te)(c:PA X es t)(d:Lq (e::es) X.env=(false,eval e X.env)::Lq es X.env:=by rfl):PA X (e::es) (tCons te t):=by
 intro pos Fb s σ H Q I h;rw[d];show wpAny _ _ (spliced ((false,eval e X.env)::backTo pos (Lq es X.env))) _ _ s;refine Calls.spliced_cons (thn (b Fb s σ H _ I h) λ u f a=>?_);obtain⟨x,H1,I1,g,i⟩:=a;exact thn (c pos Fb f σ H1 _ I1 i) λ l m ⟨j,H2,I2,k,q2⟩=>⟨x::j,H2,I2,.cons g k,q2⟩
def tTup(t:TA):TE:=λ σ H Q=>t σ H λ xs H1=>xs.length<=Lr/\∀ p,H1 p=none->Q (.ref p) (upd H1 p (.q xs))
def tLst(t:TA):TE:=λ σ H Q=>t σ H λ xs H1=>xs.length<=Lr/\∀ p,H1 p=none->Q (.ref p) (upd H1 p (.l xs))
theorem qaF1{x1}(h:PA X es t):PE X (.Tuple es x1 pos) (tTup t):=by
 intro Fb s σ H Q I d;refine wpAny_Tuple_spliced (thn (h pos Fb s σ H _ I d) λ f a c=>?_);obtain⟨g,H1,I1,r,z,q⟩:=c;refine⟨by rw[<- r.length];exact z,?_⟩;have i:H1 a.heap.objs.size=none:=I1.hok.fresh (zA3 _);refine⟨.ref a.heap.objs.size,upd H1 a.heap.objs.size (.q g),I1.laid (t':=a.toks) (λ b u e=>zA2 _ e) (zA3 _) ?_,rfl,q _ i⟩;exact⟨z,f,r,⟨_,zAz _ rfl,rfl,_,rfl⟩⟩
theorem qav1(h:PA X es t):PE X (.List es pos) (tLst t):=by
 intro Fb s σ H Q I d;refine wpAny_List_spliced (thn (h pos Fb s σ H _ I d) λ f a c=>?_);obtain⟨g,H1,I1,r,z,q⟩:=c;refine⟨by rw[<- r.length];exact z,?_⟩;have i:H1 a.heap.objs.size=none:=I1.hok.fresh (zA3 _);refine⟨.ref a.heap.objs.size,upd H1 a.heap.objs.size (.l g),I1.laid (t':=a.toks) (λ b u e=>zA2 _ e) (zA3 _) ?_,rfl,q _ i⟩;exact⟨z,f,0,r,zAz _ rfl⟩
end
abbrev Sp:=List V->Hp->VK->XK->Prop
abbrev CXT:=List Env->Hp->Sh->XK->V'->Sh->Prop
structure Env0(P:Program)(w:World)(K:W.Frag)(mg:Str->Option V')(base:Heap)(A:Around)(outer:List Env)(s:Sh)(H:Hp):Prop where
 frames:A.frames=some outer
 mod:Mod K mg base
 bs:∀ b o,base.get? b=some o->s.heap.get? b=some o/\H b=none
 bsz:base.objs.size<=s.heap.objs.size
 funs:s.heap.FunFrames base outer
 frf:∀ b∈frs outer,H b=none
 hok:HOk P w H s.heap
 bare:AllBare s.gens
def CE(outer:List Env)(P:Program)(w:World)(H:Hp)(s:Sh)(Q:VK)(u:V')(s':Sh):Prop :=
 ∃ v H',s'.os=s.os/\AllBare s'.gens/\Un (frs outer) [] H H' s.heap s'.heap/\HOk P w H' s'.heap/\Mx v u/\Q v H'
def CR(CX:CXT)(outer:List Env)(P:Program)(w:World)(H:Hp)(s:Sh)(Q:VK)(E:XK)(r:Result)(s':Sh):Prop :=
 match r with
 | .ok (.ret u)=>CE outer P w H s Q u s'
 | .ok _=>False
 | .error e=>CX outer H s E e s'
structure Fl(cm:Bool)(P:Program)(w:World)(K:W.Frag)(mg:Str->Option V')(base:Heap)(CX:CXT)(k:Nat)(f:γ)(fd:δ)(ps:List Str)(sp:Sp):Prop where
 len:∀ vs H Q E,sp vs H Q E->vs.length=ps.length
 run:∀(A:Around)(outer:List Env)(s:Sh)(H:Hp)(args:Args)(us:List V')(vs:List V)(Q:VK)(E:XK),M7 cm k A->Env0 P w K mg base A outer s H->BindsTo s fd args (ps.zip us)->Mz vs us->sp vs H Q E ->
   codeAny (model P w) A (.call (.ref f) args) (CR CX outer P w H s Q E) s
abbrev Gc:=Fl true
theorem Env0.make{P:Program}{w:World}{K:W.Frag}{A:Around}{outer:List Env}{s:Sh}{H:Hp}(e:Env0 P w K mg base A outer s H)(C:γ)(us:List V')(kw:List (Str×V')) :
   Env0 P w K mg base (A.under (.builtin "type.__call__" ⟨.ref C::us,kw⟩)) outer s H:=⟨by first | exact e.frames | (simpa[Around.under,Code.envs,Code.isFrame,pushEnvs] using e.frames),e.mod,e.bs,e.bsz,e.funs,e.frf,e.hok,e.bare⟩
section
variable{X:Cx}{Fb:List (γ×Obj)}{σ:St}{H:Hp}{s s':Sh}
theorem M4.env0(I:M4 X Fb σ H s):Env0 X.prog X.w X.K X.mg X.base X.A X.stack s H :=
 ⟨I.ok.frames,I.ok.mod,I.bs,zAn I.ok.bsz I.sz,I.stack,I.stkFree,I.hok,I.bare⟩
theorem M4.after{Q:VK}{u:V'}(I:M4 X Fb σ H s)(h:CE X.stack X.prog X.w H s Q u s'):EP X Fb σ Q u s':=by
 obtain⟨v,H',e,bare,f,a,r,q⟩:=h;obtain⟨i,g,d,t,c⟩:=s';obtain rfl:c=s.os:=e;exact⟨v,H',I.call (h':=i) (g':=g) (d':=d) (t':=t) (ch:=[]) f a bare (λ b z=>absurd z (by simp)),r,q⟩
end
def Ki(sp:Sp)(dvs:List V)(E:St->XK)(t:TA):TE:=λ σ H Q=>t σ H λ vs H1=>sp (vs++dvs) H1 Q (E σ)
def Kj(C:γ)(m:Str)(sp:Sp)(dvs:List V)(E:St->XK)(ta:TE)(t:TA):TE:=λ σ H Q=>ta σ H λ x H1=>∃ a dx fs,x=.ref a/\H1 a=some (.ins C dx fs)/\fs.lookup m=none /\
 t σ H1 λ vs H2=>sp (x::(vs++dvs)) H2 Q (E σ)
def tMake(C:γ)(sp:Sp)(dvs:List V)(E:St->XK)(t:TA):TE:=λ σ H Q=>t σ H λ vs H1=>∀ x dx,H1 x=none->H1 dx=none->dx≠x ->
 sp (.ref x::(vs++dvs)) (upd (upd H1 dx (.own x)) x (.ins C dx [])) (λ v H2=>v=.non/\Q (.ref x) H2) (E σ)
def Binds(K:W.Frag)(fd:δ)(ps:List Str)(ds:List V'):Prop :=
 ∀(s:Sh)(us:List V'),K.In s.heap->(us++ds).length=ps.length->BindsTo s fd ⟨us,[]⟩ (ps.zip (us++ds))
theorem Binds.all{K:W.Frag}{fd:δ}{ps:List Str}(h:∀ us:List V',us.length=ps.length->bindArgs fd ⟨us,[]⟩=pure (ps.zip us)):Binds K fd ps []:=λ s us _ a=>by
 rw[zAf] at a ⊢;exact .of_eq (h us a)
def qG8(CX:CXT)(X:Cx)(E:St->XK):Prop:=∀(Fb:List (γ×Obj))(σ:St)(H:Hp)(s:Sh)(e:V')(s':Sh),M4 X Fb σ H s->CX X.stack H s (E σ) e s'->X.xe e s'
section
variable{X:Cx}{cm:Bool}{CX:CXT}{k:Nat}{f C:γ}{fd:δ}{ps:List Str}{sp:Sp}{dvs:List V}{ds:List V'}{E:St->XK}{x m:Str}{p pos apos:Pos}{e o:Expr}{es:List Expr}{ta:TE}{t:TA}
theorem qat9{Fb:List (γ×Obj)}{σ:St}{H:Hp}{s:Sh}{Q:VK}{vs:List V}(F:Fl cm X.prog X.w X.K X.mg X.base CX k f fd ps sp)(c:M7 cm k X.A)(d:Binds X.K fd ps ds)(g:Mz dvs ds)(i:qG8 CX X E)(I:M4 X Fb σ H s)(r:Mz vs us)(h:sp (vs++dvs) H Q (E σ)):wpAny (model X.prog X.w) X.A (call (.ref f) us) (EP X Fb σ Q) X.xe s:=by
 have b:Mz (vs++dvs) (us++ds):=r.append g;have j:(us++ds).length=ps.length:=by rw[<- b.length];exact F.len _ _ _ _ h
 refine wpAny_call (codeAny_mono (F.run X.A X.stack s H ⟨us,[]⟩ (us++ds) (vs++dvs) Q (E σ) c I.env0 (d s us I.kIn j) b h) λ r l a=>?_);cases r with
 | error e=>exact i Fb σ H s e l I a
 | ok m =>
   cases m with
   | ret u=>exact I.after a
   | next=>exact False.elim a
   | brk=>exact False.elim a
   | cont=>exact False.elim a
theorem qap2(F:Fl cm X.prog X.w X.K X.mg X.base CX k f fd ps sp)(d:M7 cm k X.A)(g:Gl X x)(hm:X.mg x=some (.ref f))(i:W.keepIn X.K (.ref f)=true)(j:Binds X.K fd ps ds)(l:Mz dvs ds)(m:qG8 CX X E)(n:PA X (e::es) t)(a:N' x:=by decide)(o:Lq (e::es) X.env=(false,eval e X.env)::Lq es X.env:=by rfl)(b:(backTo pos (Lq es X.env)).any (·.1)=false:=by rfl) :
   PE X (.Call (.Name x p) (e::es) [] pos) (Ki sp dvs E t):=by
 intro Fb s σ H Q I h;refine wpAny_Call_Name_kw (qF0 I g hm ?_ a);refine W.callWith_K (h₀:=X.base) I.ok.mod.kin i (thn (n pos Fb s σ H _ I h) λ u v c=>?_) o b;obtain⟨y,H1,I1,r,q⟩:=c;refine⟨I1.kIn,?_⟩;exact qat9 F d j l m I1 r q
theorem qaF4(n:PE X o ta)(c:Cls X.K C)(hm:Jt X.K C m f)(F:Fl cm X.prog X.w X.K X.mg X.base CX k f fd ps sp)(p:M7 cm k X.A)(v:Binds X.K fd ps ds)(y:Mz dvs ds)(z:qG8 CX X E)(B:PA X (e::es) t)(d:Lq (e::es) X.env=(false,eval e X.env)::Lq es X.env:=by rfl)(g:(backTo pos (Lq es X.env)).any (·.1)=false:=by rfl)(D:eval (.Call (.Attribute o m apos) (e::es) [] pos) X.env=(do
     let ov <- eval o X.env
     standAt apos.atName
     let (f,first) <- holding [ov] (getMethod ov m pl)
     callWith pos f first (backTo pos (Lq (e::es) X.env)) (backToKw pos (L8 [] X.env))):=by rfl) :
   PE X (.Call (.Attribute o m apos) (e::es) [] pos) (Kj C m sp dvs E ta t):=by
 intro Fb s σ H Q I h;refine W.methodCall_KW (pl:=pl) (thn (n Fb s σ H _ I h) λ u G b=>?_) D;obtain⟨x,H1,I1,J,a,N,O,L,M,l,q⟩:=b;subst L;obtain rfl:u=Value.ref a:=J;refine qv0 I1 M c hm l ?_;refine W.callWith_K (first:=[.ref a]) (h₀:=X.base) I.ok.mod.kin hm.kp (thn (B pos Fb G σ H1 _ I1 q) λ i P b=>?_) d g;obtain⟨j,H2,I2,r,q2⟩:=b;refine⟨I2.kIn,?_⟩;exact qat9 (us:=.ref a::i) (vs:=.ref a::j) F p v y z I2 (.cons rfl r) q2
theorem qav0(d:PE X o ta)(c:Cls X.K C)(hm:Jt X.K C m f)(F:Fl cm X.prog X.w X.K X.mg X.base CX k f fd ps sp)(e:M7 cm k X.A)(g:Binds X.K fd ps ds)(i:Mz dvs ds)(j:qG8 CX X E)(n:eval (.Call (.Attribute o m apos) [] [] pos) X.env=(do
     let ov <- eval o X.env
     standAt apos.atName
     let (f,first) <- holding [ov] (getMethod ov m pl)
     callWith pos f first (backTo pos (Lq [] X.env)) (backToKw pos (L8 [] X.env))):=by rfl) :
   PE X (.Call (.Attribute o m apos) [] [] pos) (Kj C m sp dvs E ta tNil):=by
 intro Fb s σ H Q I h;refine W.methodCall_KW (pl:=pl) (thn (d Fb s σ H _ I h) λ u v b=>?_) n;obtain⟨x,H1,I1,p,a,y,z,r,t,l,q⟩:=b;subst r;obtain rfl:u=Value.ref a:=p;refine qv0 I1 t c hm l ?_;exact W.callWith_K0 (first:=[.ref a]) I1.kIn hm.kp (qat9 (us:=[.ref a]) (vs:=[.ref a]) F e g i j I1 (.cons rfl .nil) q)
structure Mk(K:W.Frag)(C f:γ):Prop where
 makes:W.makesIn K C=true
 init:W.findIn K (.ref C) "__init__" = some (some (.ref f))
 fn:W.isFn K (.ref f)=true
 kp:W.keepIn K (.ref C)=true
theorem qat8{Fb:List (γ×Obj)}{σ:St}{H:Hp}{s:Sh}{Q:VK}{vs:List V}(M:Mk X.K C f)(F:Fl cm X.prog X.w X.K X.mg X.base CX k f fd ps sp)(d:M7 cm (k+1) X.A)(g:Binds X.K fd ps ds)(i:Mz dvs ds)(j:qG8 CX X E)(I:M4 X Fb σ H s)(r:Mz vs us)(h:∀ x dx,H x=none->H dx=none->dx≠x->sp (.ref x::(vs++dvs)) (upd (upd H dx (.own x)) x (.ins C dx [])) (λ v H2=>v=.non/\Q (.ref x) H2) (E σ)) :
   wpAny (model X.prog X.w) X.A (call (.ref C) us) (EP X Fb σ Q) X.xe s:=by
 have b:=h (s.heap.objs.size+1) s.heap.objs.size (I.hok.fresh (Nat.le_succ _)) (I.hok.fresh (zA3 _)) (zAl (zBy _));have I2:=M4.made (C:=C) I;have c:Mz (V.ref (s.heap.objs.size+1)::(vs++dvs)) (Value.ref (s.heap.objs.size+1)::(us++ds)):=.cons rfl (r.append i);have l:(Value.ref (s.heap.objs.size+1)::us++ds).length=ps.length:=by
   have e:=c.length;rw[F.len _ _ _ _ b] at e;exact e.symm
 refine wpAny_call (qax2 (f:=f) I.kIn M.makes M.init (zBp.mp M.fn) (codeAny_mono (F.run _ X.stack _ _ ⟨Value.ref (s.heap.objs.size+1)::us,[]⟩ (Value.ref (s.heap.objs.size+1)::(us++ds)) _ _ (E σ) (d.make C us [])
   (I2.env0.make C us []) (g _ (Value.ref (s.heap.objs.size+1)::us) I2.kIn l) c b) λ r m a=>?_))
 cases r with
 | error e=>exact j Fb σ _ _ e m I2 a
 | ok n =>
   cases n with
   | ret u =>
     obtain⟨v,H',I3,o,p,q⟩:=I2.after a;subst p;exact⟨o,⟨V.ref (s.heap.objs.size+1),H',I3,rfl,q⟩⟩
   | next=>exact False.elim a
   | brk=>exact False.elim a
   | cont=>exact False.elim a
theorem qap1(M:Mk X.K C f)(F:Fl cm X.prog X.w X.K X.mg X.base CX k f fd ps sp)(d:M7 cm (k+1) X.A)(g:Gl X x)(hm:X.mg x=some (.ref C))(i:Binds X.K fd ps ds)(j:Mz dvs ds)(l:qG8 CX X E)(m:PA X (e::es) t)(a:N' x:=by decide)(n:Lq (e::es) X.env=(false,eval e X.env)::Lq es X.env:=by rfl)(b:(backTo pos (Lq es X.env)).any (·.1)=false:=by rfl) :
   PE X (.Call (.Name x p) (e::es) [] pos) (tMake C sp dvs E t):=by
 intro Fb s σ H Q I h;refine wpAny_Call_Name_kw (qF0 I g hm ?_ a);refine W.callWith_K (h₀:=X.base) I.ok.mod.kin M.kp (thn (m pos Fb s σ H _ I h) λ o u c=>?_) n b;obtain⟨v,H1,I1,r,q⟩:=c;refine⟨I1.kIn,?_⟩;exact qat8 M F d i j l I1 r q
end
structure qa9(N P:List Str)(sc:Scope):Prop where
 kind:sc.kind=.function
 co:sc.isCoroutine=false
 gen:sc.isGenerator=false
 nd:N.Nodup
 pre:N.take P.length=P
 par:∀ x∈P,sc.names.lookup x=some .local∨sc.names.lookup x=some .cell
 nofree:∀ y∈sc.names,y.2≠.free
theorem qQ7{kindOf:Str->Option NameKind}{x:Str}:∀{binds:List (Str×V')}{m:Str->Option V'},(∀ v,(x,v)∉binds)->bindL kindOf binds m x=m x
 | [],_,_=>rfl
 | (n,v)::r,m,h=>by
   unfold bindL;rw[qQ7 λ w a=>h w (zA5 _ a)];split
   . have:x≠n:=by rintro rfl;exact h v zAc
     simp[this]
   rfl
theorem qQ9{kindOf:Str->Option NameKind}{x:Str}:∀{binds:List (Str×V')}{m:Str->Option V'},(∀ v,(x,v)∉binds)->bindC kindOf binds m x=m x
 | [],_,_=>rfl
 | (n,v)::r,m,h=>by
   unfold bindC;rw[qQ9 λ w a=>h w (zA5 _ a)];split
   . rfl
   have:x≠n:=by rintro rfl;exact h v zAc
   simp[this]
theorem qQ8{kindOf:Str->Option NameKind}{x:Str}{v:V'}:∀{P:List Str}{vs:List V'}{i:Nat}{m:Str->Option V'},P.Nodup->P[i]? = some x->vs[i]? = some v->kindOf x=some .local ->
   bindL kindOf (P.zip vs) m x=some v
 | [],_,_,_,_,h,_,_=>by simp at h
 | _::_,[],_,_,_,_,h,_=>by simp at h
 | p::P,w::vs,0,m,nd,h1,h2,hk=>by
   simp at h1 h2;subst h1;subst h2;show bindL kindOf ((p,w)::P.zip vs) m p=_;unfold bindL;rw[qQ7 λ v a=>(zCb.mp nd).1 (List.of_mem_zip a).1,if_pos hk];simp
 | p::P,w::vs,i+1,m,nd,h1,h2,hk=>by
   show bindL kindOf ((p,w)::P.zip vs) m x=_;unfold bindL;exact qQ8 (i:=i) (zCb.mp nd).2 (by simpa using h1) (by simpa using h2) hk
theorem qR0{kindOf:Str->Option NameKind}{x:Str}{v:V'}:∀{P:List Str}{vs:List V'}{i:Nat}{m:Str->Option V'},P.Nodup->P[i]? = some x->vs[i]? = some v->kindOf x≠some .local ->
   bindC kindOf (P.zip vs) m x=some v
 | [],_,_,_,_,h,_,_=>by simp at h
 | _::_,[],_,_,_,_,h,_=>by simp at h
 | p::P,w::vs,0,m,nd,h1,h2,hk=>by
   simp at h1 h2;subst h1;subst h2;show bindC kindOf ((p,w)::P.zip vs) m p=_;unfold bindC;rw[qQ9 λ v a=>(zCb.mp nd).1 (List.of_mem_zip a).1,if_neg hk];simp
 | p::P,w::vs,i+1,m,nd,h1,h2,hk=>by
   show bindC kindOf ((p,w)::P.zip vs) m x=_;unfold bindC;exact qR0 (i:=i) (zCb.mp nd).2 (by simpa using h1) (by simpa using h2) hk
noncomputable def start(N:List Str)(vs:List V):St:=vs.map some++List.replicate (N.length - vs.length) none
noncomputable def Fv(cm:Bool)(CX:CXT)(P:Program)(w:World)(K:W.Frag)(mg:Str->Option V')(base:Heap)(N:List Str)(qual:Str)(scope:Scope)(f:γ)(cd:V')(A:Around)(outer:List Env)(s:Sh)(H:Hp)(E:XK):Cx where
 prog:=P
 w:=w
 K:=K
 mg:=mg
 base:=base
 A:=A.deeper (envOfC qual scope s.heap.objs.size f cd)
 N:=N
 s₀:=s
 H₀:=H
 env:=envOfC qual scope s.heap.objs.size f cd
 outer:=outer
 stack:=envOfC qual scope s.heap.objs.size f cd::outer
 ex:=[]
 calm:=cm
 fn:=λ _=>true
 pn:=[]
 xe:=λ e s'=>wpAny (model P w) (A.deeper (envOfC qual scope s.heap.objs.size f cd)) (leaving (envOfC qual scope s.heap.objs.size f cd) e) (λ _ a=>CX outer H s E e a) (λ b a=>CX outer H s E b a) s'
theorem qad9{sc:Scope}{x:Str}(h:sc.names.lookup x=some .cell):∃ c,(cellsFrom n sc.names []).lookup x=some c:=by
 have q:=W.cellsFrom_some sc.names n [] (.inl h);exact zB5.mp q
theorem qak0{cm:Bool}{CX:CXT}{P:Program}{w:World}{K:W.Frag}{ps:List Str}{qual:Str}{scope:Scope}{f:γ}{cd:V'}{A:Around}{outer:List Env}{s C:Sh}{H:Hp}{E:XK}{vs:List V}(S:qa9 N ps scope)(G:cm=true->A.handled=none)(g:Env0 P w K mg base A outer s H)(M:vs.length=ps.length)(r:Mz vs us)(x:InCallC s s.heap.objs.size (bindL (envOfC qual scope s.heap.objs.size f cd).kindOf (ps.zip us) λ _=>none) (cellsFrom (s.heap.objs.size+1) scope.names []) (bindC (envOfC qual scope s.heap.objs.size f cd).kindOf (ps.zip us) λ _=>none) C) :
   M4 (Fv cm CX P w K mg base N qual scope f cd A outer s H E) [] (start N vs) H C:=by
 have I:ps.length<=N.length:=by have:=congrArg List.length S.pre;rw[zBq] at this;lia
 obtain⟨t,O,rfl,D⟩:=x.done;have j:∀ b:γ,b∉(Fv cm CX P w K mg base N qual scope f cd A outer s H E).ex:=λ b z=>absurd (show b∈([]:List γ) from z) (by simp)
 refine⟨⟨g.mod,S.kind,rfl,rfl,zA3 _,λ y z c t d=>?_,λ y l=>?_,λ y c _ h=>?_,G,Around.frames_deeper g.frames,.inr ⟨rfl,rfl⟩,λ b z=>absurd z (j b),g.bs,g.bsz,λ b _ _=>j b,λ b z=>absurd z (j b),g.funs,g.frf⟩,
   rfl,g.bare,Un.kept D,⟨_,x.toInCall.ns,λ i y v t d Q=>?_⟩,λ y c h=>⟨_,x.cell y c h⟩,g.hok.fresh (zA3 _),λ y c h=>?_,λ p m=>absurd (show p∈([]:List (γ×Obj)) from m) (by simp),g.hok.kept D,?_⟩
 . exact name_of_addr x.apart (PySem.mem_of_lookup t) (PySem.mem_of_lookup d)
 . have l:scope.names.lookup y=some .cell∨scope.names.lookup y=some .free:=l
   rcases l with l | l
   . exact qad9 l
   exact absurd rfl (S.nofree _ (PySem.mem_of_lookup l))
 . exact Nat.le_of_lt (x.above y c (PySem.mem_of_lookup h))
 . have B:i < vs.length:=by
     unfold start at d;by_cases B:i < vs.length
     . exact B
     rw[List.getElem?_append_right (by simpa using B)] at d;rw[List.getElem?_replicate] at d;split at d<;>cases d
   have J:vs[i]? = some v:=by
     unfold start at d;rw[zAt (by simpa using B),zBb] at d;cases e:vs[i]? with
     | none=>rw[e] at d;cases d
     | some a=>rw[e] at d;cases d;rfl
   obtain⟨u,F,L⟩:=r.get J;have m:ps[i]? = some y:=by
     rw[<- S.pre,List.getElem?_take_of_lt (by lia)];exact t
   have o:ps.Nodup:=by rw[<- S.pre];exact S.nd.sublist (List.take_sublist _ _)
   refine⟨u,L,?_⟩;rcases S.par y (zB4 m) with k | k
   . exact .inl ⟨k,qQ8 o m F k⟩
   obtain⟨c,e⟩:=qad9 (n:=s.heap.objs.size+1) k;refine .inr ⟨.inl k,c,e,?_⟩;have q:=x.cell y c e;rw[qR0 o m F (by show scope.names.lookup y≠_;rw[k];decide)] at q;exact q
 . exact g.hok.fresh (Nat.le_of_lt (x.above y c (PySem.mem_of_lookup h)))
 unfold start;show _=N.length;rw[zAd,zA8,List.length_replicate];lia
theorem Kk{cm:Bool}{CX:CXT}{P:Program}{w:World}{K:W.Frag}{k:Nat}{f:γ}{name qual:Str}{params:Arguments}{scope:Scope}{B kV d C a D oc:V'}{F od:Option γ}{i:Array (Option V')}{ps:List Str}{sp:Sp}(L:K.lookup f=some ⟨oc,od,.func (W.fnOf name qual params body scope B kV d C F a D),i⟩)(j:W.codeIn K a qual=true)(S:qa9 N ps scope)(len:∀ vs H Q E,sp vs H Q E->vs.length=ps.length)(hbody:∀(A:Around)(outer:List Env)(s:Sh)(H:Hp)(vs:List V)(Q:VK)(E:XK),M7 cm k (A.deeper (envOfC qual scope s.heap.objs.size f a))->sp vs H Q E ->
     ∃ t,PSs (Fv cm CX P w K mg base N qual scope f a A outer s H E) body t/\t { nx:=λ _ H'=>Q .non H',rt:=Q } (start N vs) H) :
   Fl cm P w K mg base CX (k+1) f (W.fnOf name qual params body scope B kV d C F a D) ps sp:=by
 refine⟨len,λ A outer s H args M vs Q E l g O r h=>?_⟩;have R:=len _ _ _ _ h;have KX:K.In s.heap:=g.mod.kin.keeps λ b o e=>(g.bs b o e).1
 have m:s.heap.NoLimit:=g.mod.nolimit.keeps λ b o e=>(g.bs b o e).1
 have hkind:∀ y∈ps.zip M,scope.names.lookup y.1=some .local∨(scope.names.lookup y.1=some .cell/\((cellsFrom (s.heap.objs.size+1) scope.names []).lookup y.1).isSome=true):=λ ⟨n,v⟩ T=>by
   rcases S.par n (List.of_mem_zip T).1 with q | q
   . exact .inl q
   exact .inr ⟨q,W.cellsFrom_some _ _ _ (.inl q)⟩
 refine codeAny_call_function l.depth (KX _ _ L) rfl S.co S.gen rfl (W.codeRec_of KX j) (O _ _ _ _ ?_);refine wpAny_newFunctionEnv_cells S.kind hkind λ U X G x=>?_
 subst X;refine⟨m.keeps x.toInCall.keep,codeAny_func ?_⟩;obtain⟨t,Y,Z⟩:=hbody A outer s H vs Q E (l.deeper _) h;have I:M4 (Fv cm CX P w K mg base N qual scope f a A outer s H E) [] (start N vs) H G:=qak0 S l.hd g R r x;refine L9 (Y [] G (start N vs) H _ I Z) (λ fl p c=>?_) λ e p c=>c
 have fin:∀{σ':St}{H':Hp}{v:V}{u:V'},M4 (Fv cm CX P w K mg base N qual scope f a A outer s H E) [] σ' H' p->Mx v u->Q v H'->CE outer P w H s Q u p :=
   λ{σ' H' v u} J z q=>⟨v,H',J.os,J.bare,J.base,J.hok,z,q⟩
 cases fl with
 | ret u =>
   obtain⟨v,σ',H',J,z,q⟩:=c;exact fin J z q
 | next =>
   obtain⟨σ',H',J,q⟩:=c;exact fin (v:=V.non) (u:=Value.none) J rfl q
 | brk =>
   obtain⟨_,_,_,q⟩:=c;exact False.elim q
 | cont =>
   obtain⟨_,_,_,q⟩:=c;exact False.elim q
section
variable{X:Cx}{x:Str}{p pos:Pos}{e:Expr}{es:List Expr}{t:TA}{id T:String}{r:List V->Hp->VK->Prop}
def tCB(r:List V->Hp->VK->Prop)(t:TA):TE:=λ σ H Q=>t σ H λ vs H1=>r vs H1 Q
theorem qav5(c:CallR X (.builtin id) r)(d:Gl X x)(hm:X.mg x=none)(f:Lw x=some (.builtin id))(g:PA X (e::es) t)(i:x ≠ "__name__" := by decide)(a:N' x:=by decide)(j:Lq (e::es) X.env=(false,eval e X.env)::Lq es X.env:=by rfl)(b:(backTo pos (Lq es X.env)).any (·.1)=false:=by rfl):PE X (.Call (.Name x p) (e::es) [] pos) (tCB r t):=by
 intro Fb s σ H Q I h;refine wpAny_Call_Name_kw (qZ7 I d hm f ?_ i a);exact PyProof.Rows.callWith_builtin1 (thn (g pos Fb s σ H _ I h) λ k l ⟨m,H1,I1,n,o⟩=>c Fb l σ H1 m k Q I1 n o) j b
theorem qai2(c:CallR X (.type T) r)(d:Gl X x)(hm:X.mg x=none)(f:Lw x=some (.type T))(g:PA X (e::es) t)(i:x ≠ "__name__" := by decide)(a:N' x:=by decide)(j:Lq (e::es) X.env=(false,eval e X.env)::Lq es X.env:=by rfl)(b:(backTo pos (Lq es X.env)).any (·.1)=false:=by rfl):PE X (.Call (.Name x p) (e::es) [] pos) (tCB r t):=by
 intro Fb s σ H Q I h;refine wpAny_Call_Name_kw (qZ7 I d hm f ?_ i a);exact PyProof.Rows.callWith_type1 (thn (g pos Fb s σ H _ I h) λ k l ⟨m,H1,I1,n,o⟩=>c Fb l σ H1 m k Q I1 n o) j b
end
end L2
namespace HT
open PySem PyProof.Rows
theorem qaz3(A:Around)(s:Sh)(a:Int)(t:Tok)(c:Int)(u:Tok):∃ e,SeqAt.EqAt A s (.int a t) (.int c u) e/\(e=true↔a=c) :=
 ⟨(a == c),SeqAt.EqAt.int_int a t c u,by simp⟩
section
noncomputable def sIx(n d:Nat):Option Int->Nat
 | none=>d
 | some v=>if v < 0 then (v+(n:Int)).toNat else min v.toNat n
theorem qW7(n d:Nat):sIx n d none=d:=rfl
theorem qan9(n d k:Nat):sIx n d (some (k:Int))=min k n:=by
 show (if (k:Int) < 0 then ((k:Int)+(n:Int)).toNat else min (k:Int).toNat n)=min k n;rw[if_neg (by lia),Int.toNat_natCast]
end
end HT
namespace L2
open PySem PySem.Spec PyProof.Rows
variable{its:List V'}{n:Nat}{x:V}{α:Type}
abbrev TO:=St->Hp->(Option Int->Hp->Prop)->Prop
def PO(X:Cx)(e:Option Expr)(t:TO):Prop :=
 ∀(Fb:List (γ×Obj))(s:Sh)(σ:St)(H:Hp)(Q:Option Int->Hp->Prop),M4 X Fb σ H s->t σ H Q ->
   wpAny (model X.prog X.w) X.A (evalPart e X.env) (λ u s'=>∃ o H',M4 X Fb σ H' s'/\IsPart u o/\Q o H') X.xe s
def qaB5:TO:=λ _ H Q=>Q none H
def tPart(t:TE):TO:=λ σ H Q=>t σ H λ x H1=>∃ i,x=.int i/\Q (some i) H1
theorem qu8{ns:List Int}:∀{us:List V'},Mz (ns.map V.int) us->IntsAre us ns:=by
 induction ns with
 | nil=>intro us r;rw[List.map_nil] at r;cases r;exact .nil
 | cons n ns a =>
   intro us r;rw[zAx] at r;cases r with
   | cons b c =>
     obtain⟨t,e⟩:=b;subst e;exact .cons n t (a c)
section
variable{X:Cx}{e:Expr}{te:TE}{lo hi:Option Expr}{tl th:TO}{pos p2:Pos}
theorem qao9:PO X none qaB5:=by
 intro Fb s σ H Q I h;rw[evalPart_none];exact J' ⟨none,H,I,.none,h⟩
theorem qao8(h:PE X e te):PO X (some e) (tPart te):=by
 intro Fb s σ H Q I b;rw[evalPart_some];refine thn (h Fb s σ H _ I b) λ u f a=>?_
 obtain⟨x,H1,I1,c,d⟩:=a;obtain⟨i,rfl,q⟩:=d;obtain⟨t,rfl⟩:=c;exact⟨some i,H1,I1,.int i t,q⟩
def SlR(X:Cx)(r:V->Option Int->Option Int->Hp->VK->Prop):Prop :=
 ∀(Fb:List (γ×Obj))(s:Sh)(σ:St)(H:Hp)(x:V)(v vl vu:V')(lo hi:Option Int)(sl:γ)(Q:VK),M4 X Fb σ H s->Mx x v->s.heap.IsSliceOf sl vl vu .none->IsPart vl lo->IsPart vu hi->r x lo hi H Q ->
   ∃ T id,typeLookup (.type T) "__getitem__" = pure (some (.builtin id))/\s.TypeIs v T/\wpAny (model X.prog X.w) X.A (getItem v (.ref sl)) (EP X Fb σ Q) X.xe s
def tSl(r:V->Option Int->Option Int->Hp->VK->Prop)(te:TE)(tl th:TO):TE:=λ σ H Q=>te σ H λ x H1=>tl σ H1 λ l H2=>th σ H2 λ u H3=>r x l u H3 Q
theorem qX4{r:V->Option Int->Option Int->Hp->VK->Prop}(g:SlR X r)(i:PE X e te)(j:PO X lo tl)(k:PO X hi th):PE X (.Subscript e (.Slice lo hi none p2) pos) (tSl r te tl th):=by
 intro Fb s σ H Q I h;refine Subscript_ (thn (i Fb s σ H _ I h) λ v m a=>?_);obtain⟨x,H1,I1,n,o⟩:=a;refine wpAny_Slice (thn (j Fb m σ H1 _ I1 o) λ d p a=>?_);obtain⟨l,H2,I2,t,q2⟩:=a;refine thn (k Fb p σ H2 _ I2 q2) λ f c a=>?_
 obtain⟨u,H3,I3,y,z⟩:=a;rw[evalPart_none];refine J' ?_;have I4:M4 X Fb σ H3 { c with heap:=c.heap.push { cls:=.type "slice",data:=.fields #[d,f,.none] } }:=I3.kept (t':=c.toks) λ b F q=>zA2 _ q
 obtain⟨T,id,B,C,D⟩:=g Fb { c with heap:=c.heap.push { cls:=.type "slice",data:=.fields #[d,f,.none] } } σ H3 x v d f l u c.heap.objs.size Q I4 n (Heap.IsSliceOf.new ..) t y z;show wpAny (model X.prog X.w) X.A (subscriptTail e (.Slice lo hi none p2) v (.ref c.heap.objs.size)) (EP X Fb σ Q) X.xe { c with heap:=c.heap.push { cls:=.type "slice",data:=.fields #[d,f,.none] } };exact tail_any (ops:=[.ref c.heap.objs.size,v]) C B D (by with_unfolding_all rfl)
def Hs(xs:List V)(lo hi:Option Int):List V:=(xs.drop (HT.sIx xs.length 0 lo)).take (HT.sIx xs.length xs.length hi - HT.sIx xs.length 0 lo)
theorem qT8(xs:List V)(lo hi:Option Int):(Hs xs lo hi).length<=xs.length:=by
 unfold Hs;rw[zBq,zC8];lia
end
noncomputable def ixN(n:Nat)(i:Int):Option Nat:=if 0<=i then (if i < n then some i.toNat else none) else if -(n:Int)<=i then some (i+n).toNat else none
def atI{α:Type}(xs:List α)(i:Int):Option α:=(ixN xs.length i).bind λ j=>xs[j]?
theorem qaa7{i:Int}{j:Nat}(h:ixN n i=some j):seqIndex? i n=some j/\j < n/\-(n:Int)<=i/\i < n:=by
 unfold ixN at h;by_cases b:0<=i
 . rw[if_pos b] at h
   by_cases a:i < n
   . rw[if_pos a] at h
     have e:i.toNat=j:=Option.some.inj h;exact⟨by rw[seqIndex_of b a,e],by lia,by lia,a⟩
   rw[if_neg a] at h;cases h
 rw[if_neg b] at h;by_cases a:-(n:Int)<=i
 . rw[if_pos a] at h
   have e:(i+n).toNat=j:=Option.some.inj h;exact⟨by rw[seqIndex_neg (by lia) a,e],by lia,a,by lia⟩
 rw[if_neg a] at h;cases h
theorem qae4{xs:List α}{i:Int}{v:α}(h:atI xs i=some v):∃ j,seqIndex? i xs.length=some j/\xs[j]? = some v/\j < xs.length/\-(xs.length:Int)<=i/\i < xs.length:=by
 unfold atI at h;cases e:ixN xs.length i with
 | none=>rw[e] at h;cases h
 | some j =>
   rw[e] at h;obtain⟨a,b,c,d⟩:=qaa7 e;exact⟨j,a,h,b,c,d⟩
theorem qae3{xs:List α}{j:Nat}{v:α}(h:xs[j]? = some v):atI xs (j:Int)=some v:=by
 have a:j < xs.length:=(zA6.mp h).1;have e:ixN xs.length (j:Int)=some j:=by
   unfold ixN;rw[if_pos (by lia),if_pos (by lia)];simp
 unfold atI;rw[e];exact h
theorem qaA3(xs:List α)(v:α):atI (xs++[v]) (-1)=some v:=by
 have a:(xs++[v]).length=xs.length+1:=by simp
 have e:ixN (xs++[v]).length (-1)=some xs.length:=by
   unfold ixN;rw[a,if_neg (by decide),if_pos (by lia)];congr 1;lia
 unfold atI;rw[e];show (xs++[v])[xs.length]? = some v;simp
def qae9(b:Expr):Prop:=∀ o i,subscripted b false o i=operate [o,i] (getItem o i)
def IxR(X:Cx)(r:R2):Prop :=
 ∀(value slice:Expr)(Fb:List (γ×Obj))(s:Sh)(σ:St)(H:Hp)(x y:V)(v u:V')(Q:VK),M4 X Fb σ H s->Mx x v->Mx y u->r x y H Q ->
   subscripted slice false v u=operate [v,u] (getItem v u)->wpAny (model X.prog X.w) X.A (subscriptTail value slice v u) (EP X Fb σ Q) X.xe s
def MtR(X:Cx)(id:String)(r:V->List V->Hp->VK->Prop):Prop :=
 ∀(Fb:List (γ×Obj))(s:Sh)(σ:St)(H:Hp)(x:V)(xs:List V)(v:V')(us:List V')(Q:VK),M4 X Fb σ H s->Mx x v->Mz xs us->r x xs H Q ->
   wpAny (model X.prog X.w) X.A (call (.builtin id) (v::us)) (EP X Fb σ Q) X.xe s
section
variable{X:Cx}{a b:Expr}{ta tb:TE}{pos:Pos}
theorem IxR.or{r a:R2}(h:IxR X r)(h':IxR X a):IxR X (λ x y H Q=>r x y H Q∨a x y H Q):=by
 intro value slice Fb s σ H x y v u Q I b c q d;rcases q with q | q
 . exact h value slice Fb s σ H x y v u Q I b c q d
 exact h' value slice Fb s σ H x y v u Q I b c q d
theorem pe_ix{r:R2}(c:IxR X r)(d:PE X a ta)(e:PE X b tb)(f:qae9 b):PE X (.Subscript a b pos) (tOp r ta tb):=by
 intro Fb s σ H Q I h;exact Subscript_ (binT d e I h λ v u g x y H2 I2 i j q=>c a b Fb g σ H2 x y v u Q I2 i j q (f _ _))
def rIxL(K:W.Frag):R2:=λ x y H Q=>∃ p xs i v,x=.ref p/\y=.int i/\SqL K H p xs/\atI xs i=some v/\Q v H
def rIxT(K:W.Frag):R2:=λ x y H Q=>∃ p xs i v,x=.ref p/\y=.int i/\SqT K H p xs/\atI xs i=some v/\Q v H
def rIxS:R2:=λ x y H Q=>∃ z i c,x=.str z/\y=.int i/\z.length<=Lr/\atI z.cps.toList i=some c/\Q (.str ⟨#[c]⟩) H
theorem qaJ4:IxR X (rIxL X.K):=by
 intro value slice Fb s σ H x y v u Q I l m h f;obtain⟨p,F,i,z,rfl,rfl,n,o,q⟩:=h;cases l;obtain⟨t,rfl⟩:=m;obtain⟨b,r,c,G⟩:=I.list n;obtain⟨j,a,A,J,B,C⟩:=qae4 o;obtain⟨w,g,d⟩:=r.get A;have D:=r.length;have L:=qK7;have fin:EP X Fb σ Q w s:=⟨z,H,I,d,q⟩
 by_cases k:0<=i
 . have e:i.toNat=j:=by
     rw[seqIndex_of k C] at a;exact Option.some.inj a
   exact item_listR c.isList k (by lia) (by rw[e];simpa using g) fin f
 have e:(i+(b.toArray.size:Int)).toNat=j:=by
   rw[seqIndex_neg (by lia) B] at a;rw[zA4,<- D];exact Option.some.inj a
 exact subscriptTail_builtinR (x:=w) c.isList.typeIs slot_list_getitem.lookup
   (wpAny_getItem_list_neg (Q:=λ r E=>r=w/\EP X Fb σ Q r E) c.isList (by lia) (by rw[zA4]<;>lia) (by lia) (by rw[e];simpa using g) ⟨rfl,fin⟩) f
theorem qaS2:IxR X (rIxT X.K):=by
 intro value slice Fb s σ H x y v u Q I c d h e;obtain⟨p,B,i,z,rfl,rfl,f,g,q⟩:=h;cases c;obtain⟨t,rfl⟩:=d;obtain⟨k,r,b,C⟩:=I.tuple f;obtain⟨j,l,m,D,E,F⟩:=qae4 g;obtain⟨w,n,a⟩:=r.get m;have o:=r.length;have G:=qK7;have fin:EP X Fb σ Q w s:=⟨z,H,I,a,q⟩
 exact subscriptTail_builtinR (x:=w) b.typeIs slot_tuple_getitem.lookup
   (getItem_tuple (j:=j) (Q:=λ r A=>r=w/\EP X Fb σ Q r A) b (by lia) (by lia) (by rw[zA4,<- o];exact l) (by simpa using n) ⟨rfl,fin⟩) e
theorem qaS3:IxR X rIxS:=by
 intro value slice Fb s σ H x y v u Q I b d h e;obtain⟨z,i,c,rfl,rfl,o,f,q⟩:=h;obtain⟨t,rfl⟩:=b;obtain⟨p,rfl⟩:=d;obtain⟨j,a,g,r,k,l⟩:=qae4 f;have m:z.cps.toList.length=z.length:=by simp[Str.length]
 rw[m] at a k l;have w:=qK7;exact tail_any (typeIs_str s z t) slot_str_getitem.lookup (getItem_str (c:=c) (by
   have n:decide (i < -(2 ^ 63:Int))=false:=zAy (by lia);have e2:decide (i ≥ 2 ^ 63)=false:=zAy (by lia);rw[n,e2,Bool.or_false]) (by rw[a];simpa using g) ⟨.str ⟨#[c]⟩,H,I.tok _,⟨_,rfl⟩,q⟩) e
def rIx(K:W.Frag):R2:=λ x y H Q=>rIxL K x y H Q∨rIxT K x y H Q∨rIxS x y H Q
theorem qb5:IxR X (rIx X.K):=qaJ4.or (qaS2.or qaS3)
theorem qZ0(its:List V')(n j:Nat)(u:V'):Obj.mapSeq (·.setIfInBounds j u) { cls:=.type "list",data:=.seq its.toArray n }={ cls:=.type "list",data:=.seq (its.set j u).toArray n }:=by
 simp[Obj.mapSeq]
theorem M4.l{Fb:List (γ×Obj)}{σ:St}{H:Hp}{s:Sh}{p:γ}{xs:List V}(I:M4 X Fb σ H s)(h:H p=some (.l xs)) :
   ∃(its:List V')(n:Nat),Mz xs its/\s.heap.get? p=some { cls:=.type "list",data:=.seq its.toArray n }/\xs.length<=Lr:=by
 obtain⟨z,its,n,r,e⟩:=I.hok p _ h;exact⟨its,n,r,e,z⟩
theorem M4.lstUpd{Fb:List (γ×Obj)}{σ:St}{H:Hp}{s:Sh}{p:γ}{xs ys:List V}{its':List V'}{a:Nat}{f:Obj->Obj}(I:M4 X Fb σ H s)(h:H p=some (.l xs))(d:s.heap.get? p=some { cls:=.type "list",data:=.seq its.toArray n })(c:f { cls:=.type "list",data:=.seq its.toArray n }={ cls:=.type "list",data:=.seq its'.toArray a })(r:Mz ys its')(g:ys.length<=Lr)(t:Nat) :
   M4 X Fb σ (upd H p (.l ys)) { s with heap:=s.heap.update p f,toks:=t }:=by
 have e:(s.heap.update p f).get? p=some { cls:=.type "list",data:=.seq its'.toArray a }:=by
   rw[zBo f d (by rw[c]<;>rfl),c]
 refine I.write (x:=p) (e:=p) (by rw[h];trivial) (.inl rfl) (λ b u i q=>(zBc _ _ (Ne.symm i)).trans q) ⟨_,e⟩ ?_;exact⟨g,its',a,r,e⟩
def rSetL:V->V->V->Hp->(Hp->Prop)->Prop:=λ o i v H Q=>∃ p xs k j,o=.ref p/\i=.int k/\H p=some (.l xs)/\ixN xs.length k=some j/\Q (upd H p (.l (xs.set j v)))
theorem qW1:PSet X rSetL:=by
 intro Fb s σ H o i v C D u Q I w x y h;obtain⟨p,z,k,j,rfl,rfl,f,A,q⟩:=h;cases w;obtain⟨t,rfl⟩:=x;obtain⟨a,n,r,c,B⟩:=I.l f;obtain⟨b,E,g,l⟩:=qaa7 A;have d:=r.length;have F:=qK7;have I':M4 X Fb σ (upd H p (.l (z.set j v))) { s with heap:=s.heap.update p (Obj.mapSeq (·.setIfInBounds j u)) } :=
   I.lstUpd f c (qZ0 a n j u) (r.set y j) (by rw[List.length_set];exact B) s.toks
 by_cases m:0<=k
 . have e:k.toNat=j:=by
     rw[seqIndex_of m l] at b;exact Option.some.inj b
   exact W.ki_setAt c m (by lia) (by rw[zA4,<- d];exact l) (by rw[e];exact⟨_,I',q⟩)
 have e:(k+(a.toArray.size:Int)).toNat=j:=by
   rw[seqIndex_neg (by lia) g] at b;rw[zA4,<- d];exact Option.some.inj b
 exact W.ki_setBack c (by lia) (by rw[zA4,<- d];exact g) (by lia) (by rw[e];exact⟨_,I',q⟩)
theorem qI2(lo hi:Option Int)(n:Nat):(sliceBounds lo hi none n).1=((HT.sIx n 0 lo:Nat):Int)/\(sliceBounds lo hi none n).2.1=((HT.sIx n n hi:Nat):Int)/\(sliceBounds lo hi none n).2.2=1:=by
 refine⟨?_,?_,rfl⟩
 . cases lo with
   | none=>simp[sliceBounds,HT.sIx]
   | some i =>
     simp only[sliceBounds,HT.sIx,Option.getD_none,show (1:Int) > 0 by decide,if_true];by_cases h:i < 0
     . simp only[h,if_true]<;>lia
     simp only[h,if_false]<;>lia
 cases hi with
 | none=>simp[sliceBounds,HT.sIx]
 | some i =>
   simp only[sliceBounds,HT.sIx,Option.getD_none,show (1:Int) > 0 by decide,if_true];by_cases h:i < 0
   . simp only[h,if_true]<;>lia
   simp only[h,if_false]<;>lia
theorem qD5(its:List V')(lo hi:Option Int):slicePick its.toArray lo hi none=((its.drop (HT.sIx its.length 0 lo)).take (HT.sIx its.length its.length hi - HT.sIx its.length 0 lo)).toArray:=by
 obtain⟨a,b,c⟩:=qI2 lo hi its.toArray.size;unfold slicePick;rw[a,b,c];simp only[sliceRange_one,pick_run,zA4]<;>rfl
def rSlL(K:W.Frag):V->Option Int->Option Int->Hp->VK->Prop:=λ x lo hi H Q=>∃ a xs,x=.ref a/\SqL K H a xs/\∀ p,H p=none->Q (.ref p) (upd H p (.l (Hs xs lo hi)))
theorem qan6:SlR X (rSlL X.K):=by
 intro Fb s σ H x v t u e f w Q I i j k l h;obtain⟨a,c,rfl,m,q⟩:=h;cases i;obtain⟨n,r,g,p⟩:=I.list m;have d:=r.length;refine⟨"list",_,slot_list_getitem.lookup,g.isList.typeIs,?_⟩;refine wpAny_getItem_list_slice g.isList j k l .none (by simp) ?_ (by rw[zA4]<;>lia);rw[qD5,<- d];refine⟨.ref s.heap.objs.size,_,I.laid (t':=s.toks) (o:=.l (Hs c e f)) (λ b y q=>zA2 _ q) (zA3 _) ?_,rfl,q _ (I.hok.fresh (zA3 _))⟩;exact⟨zAn (qT8 c e f) p,_,0,(r.drop (HT.sIx c.length 0 e)).take (HT.sIx c.length c.length f - HT.sIx c.length 0 e),zAz _ rfl⟩
noncomputable def flatV:V->Bool
 | .non=>true
 | .bl _=>true
 | .int _=>true
 | .str _=>true
 | _=>false
noncomputable def eqV:V->V->Bool
 | .non,.non=>true
 | .bl a,.bl b=>a == b
 | .bl a,.int b=>(if a then 1 else 0) == b
 | .int a,.bl b=>a == (if b then 1 else 0)
 | .int a,.int b=>a == b
 | .str a,.str b=>a == b
 | _,_=>false
theorem qaL2{A:Around}{s:Sh}{y:V}{u v:V'}(e:Mx y u)(c:Mx x v)(g:flatV y=true)(f:flatV x=true):SeqAt.EqAt A s u v (eqV y x):=by
 cases y with
 | non =>
   cases e;cases x with
   | non=>cases c;exact SeqAt.EqAt.same _
   | bl b=>cases c;exact SeqAt.EqAt.none_bool b
   | int b=>obtain⟨t,rfl⟩:=c;exact SeqAt.EqAt.none_int b t
   | str b=>obtain⟨t,rfl⟩:=c;exact SeqAt.EqAt.none_str b t
   | _=>exact absurd (show false=true from f) zAh
 | bl a =>
   cases e;cases x with
   | non=>cases c;exact SeqAt.EqAt.bool_none a
   | bl b=>cases c;exact SeqAt.EqAt.bool_bool a b
   | int b=>obtain⟨t,rfl⟩:=c;exact SeqAt.EqAt.bool_int a b t
   | str b=>obtain⟨t,rfl⟩:=c;exact SeqAt.EqAt.bool_str a b t
   | _=>exact absurd (show false=true from f) zAh
 | int a =>
   obtain⟨d,rfl⟩:=e;cases x with
   | non=>cases c;exact SeqAt.EqAt.int_none a d
   | bl b=>cases c;exact SeqAt.EqAt.int_bool a d b
   | int b=>obtain⟨t,rfl⟩:=c;exact SeqAt.EqAt.int_int a d b t
   | str b=>obtain⟨t,rfl⟩:=c;exact SeqAt.EqAt.int_str a d b t
   | _=>exact absurd (show false=true from f) zAh
 | str a =>
   obtain⟨d,rfl⟩:=e;cases x with
   | non=>cases c;exact SeqAt.EqAt.str_none a d
   | bl b=>cases c;exact SeqAt.EqAt.str_bool a d b
   | int b=>obtain⟨t,rfl⟩:=c;exact SeqAt.EqAt.str_int a d b t
   | str b=>obtain⟨t,rfl⟩:=c;exact SeqAt.EqAt.str_str a d b t
   | _=>exact absurd (show false=true from f) zAh
 | _=>exact absurd (show false=true from g) zAh
def eqU(x:V)(u:V'):Bool:=match u with
 | .none=>eqV .non x
 | .bool b=>eqV (.bl b) x
 | .int i _=>eqV (.int i) x
 | .str z _=>eqV (.str z) x
 | _=>false
theorem qal5{y:V}{u:V'}(r:Mx y u)(f:flatV y=true):eqU x u=eqV y x:=by
 cases y with
 | non=>cases r;rfl
 | bl b=>cases r;rfl
 | int i=>obtain⟨t,rfl⟩:=r;rfl
 | str z=>obtain⟨t,rfl⟩:=r;rfl
 | _=>exact absurd (show false=true from f) zAh
theorem qG6{x:V}:∀{xs:List V}{us:List V'},Mz xs us->xs.all flatV=true->us.any (eqU x)=xs.any λ y=>eqV y x
 | _,_,.nil,_=>rfl
 | y::xs,u::us,.cons r t,f=>by
   rw[List.all_cons,zB9] at f;rw[zCc,zCc,qal5 r f.1,qG6 t f.2]
theorem ql9{A:Around}{s:Sh}{x:V}{v:V'}(b:Mx x v)(c:flatV x=true):∀{xs:List V}{us:List V'},Mz xs us->xs.all flatV=true->∀ u∈us,SeqAt.EqAt A s u v (eqU x u)
 | _,_,.nil,_=>λ u a=>by cases a
 | y::xs,u::us,.cons r t,f=>λ d a=>by
   rw[List.all_cons,zB9] at f;rcases zAm.mp a with rfl | a
   . rw[qal5 r f.1];exact qaL2 r b f.1 c
   exact ql9 b c t f.2 d a
def inV(x:V)(xs:List V):Bool:=xs.any λ y=>eqV y x
def rIn(K:W.Frag)(neg:Bool):R2:=λ x y H Q=>∃ p xs,y=.ref p/\(SqL K H p xs∨SqT K H p xs)/\flatV x=true/\xs.all flatV=true/\Q (.bl (if neg then !inV x xs else inV x xs)) H
theorem qA8:OpR X (Ls .In) (rIn X.K false):=by
 intro Fb s σ H x y v u Q I f i h;obtain⟨p,k,rfl,b,g,c,q⟩:=h;cases i;rcases b with b | b
 . obtain⟨a,r,d,j⟩:=I.list b
   refine SeqAt.in_listAt (eqU x) d.isList (λ w e=>ql9 f g r c w (by simpa using e)) ⟨.bl _,H,I,rfl,?_⟩;rw[show a.toArray.any (eqU x)=a.any (eqU x) by simp,qG6 r c];exact q
 obtain⟨a,r,d,j⟩:=I.tuple b;refine SeqAt.in_tupleAt (eqU x) d (λ w e=>ql9 f g r c w (by simpa using e)) ⟨.bl _,H,I,rfl,?_⟩;rw[show a.toArray.any (eqU x)=a.any (eqU x) by simp,qG6 r c];exact q
theorem qJ7:OpR X (Ls .NotIn) (rIn X.K true):=by
 intro Fb s σ H x y v u Q I f i h;obtain⟨p,k,rfl,b,g,c,q⟩:=h;cases i;rcases b with b | b
 . obtain⟨a,r,d,j⟩:=I.list b
   refine SeqAt.notIn_listAt (eqU x) d.isList (λ w e=>ql9 f g r c w (by simpa using e)) ⟨.bl _,H,I,rfl,?_⟩;rw[show a.toArray.any (eqU x)=a.any (eqU x) by simp,qG6 r c];exact q
 obtain⟨a,r,d,j⟩:=I.tuple b;refine SeqAt.notIn_tupleAt (eqU x) d (λ w e=>ql9 f g r c w (by simpa using e)) ⟨.bl _,H,I,rfl,?_⟩;rw[show a.toArray.any (eqU x)=a.any (eqU x) by simp,qG6 r c];exact q
theorem qL9:CallR X (.builtin "len") (λ xs H Q=>∃ p ys,xs=[.ref p]/\(SqL X.K H p ys∨SqT X.K H p ys)/\Q (.int ys.length) H):=by
 intro Fb s σ H xs i Q I r h;obtain⟨p,ys,rfl,b,q⟩:=h;obtain⟨u,rfl,f⟩:=Bo r;cases f;have j:=qK7;rcases b with b | b
 . obtain⟨c,d,e,g⟩:=I.list b
   have a:=d.length;exact Calls.call_len_list e.isList (by simp only[zA4]<;>lia) ⟨.int ys.length,H,I.tok _,⟨s.toks+1,by rw[zA4,a]⟩,q⟩
 obtain⟨c,d,e,g⟩:=I.tuple b;have a:=d.length;exact len_tuple e (by simp only[zA4]<;>lia) ⟨.int ys.length,H,I.tok _,⟨s.toks+1,by rw[zA4,a]⟩,q⟩
theorem qL8:CallR X (.builtin "len") (λ xs H Q=>∃ z,xs=[.str z]/\z.length<=Lr/\Q (.int z.length) H):=by
 intro Fb s σ H xs a Q I r h;obtain⟨z,rfl,b,q⟩:=h;obtain⟨u,rfl,t,rfl⟩:=Bo r;have c:=qK7;exact len_str (by lia) ⟨.int z.length,H,I.tok _,⟨_,rfl⟩,q⟩
theorem CallR.or{f:V'}{r a:List V->Hp->VK->Prop}(h:CallR X f r)(h':CallR X f a):CallR X f (λ xs H Q=>r xs H Q∨a xs H Q):=by
 intro Fb s σ H xs b Q I c q;rcases q with q | q
 . exact h Fb s σ H xs b Q I c q
 exact h' Fb s σ H xs b Q I c q
theorem qi9:CallR X (.type "list") (λ xs H Q=>∃ p ys,xs=[.ref p]/\(SqL X.K H p ys∨SqT X.K H p ys)/\∀ l,H l=none->Q (.ref l) (upd H l (.l ys))):=by
 intro Fb s σ H xs A Q I r h;obtain⟨p,ys,rfl,g,q⟩:=h;obtain⟨u,rfl,z⟩:=Bo r;cases z;have fin:∀(a:List V'),Mz ys a->ys.length<=Lr->∀(c:Heap)(d:Nat),(∀ b y,s.heap.get? b=some y->c.get? b=some y) ->
     c.get? s.heap.objs.size=some { cls:=.type "list",dict:=none,data:=.seq a.toArray d,slots:=#[] }->EP X Fb σ Q (.ref s.heap.objs.size) { s with heap:=c }:=λ a f i c d j e =>
   ⟨.ref s.heap.objs.size,_,I.laid (t':=s.toks) j (zA3 _) (show ObjOk X.prog X.w _ c _ (.l ys) from⟨i,a,d,f,e⟩),rfl,q _ (I.hok.fresh (zA3 _))⟩
 rcases g with g | g
 . obtain⟨a,f,m,i⟩:=I.list g
   have k:=f.length;obtain⟨o,t,v,n,x⟩:=m.isList;exact call_list_seq p (.inl rfl) t v x (λ c d j e=>fin a f i c d j e) (by simp only[zA4]<;>lia)
 obtain⟨a,f,m,i⟩:=I.tuple g;have k:=f.length;obtain⟨o,t,v,n,x⟩:=m;exact call_list_seq p (.inr rfl) t v x (λ c d j e=>fin a f i c d j e) (by simp only[zA4]<;>lia)
def tyV(K:W.Frag)(T:String)(x:V)(H:Hp):Prop:=match x with
 | .str _=>T = "str"
 | .int _=>T = "int"
 | .ref p=>(T = "list" /\ ∃ xs,SqL K H p xs)∨(T = "tuple" /\ ∃ o,K.lookup p=some o/\o.cls=.type "tuple" /\ o.dict=none) ∨
     (T = "dict" /\ ((∃ kvs,H p=some (.dK kvs))∨∃ kvs,H p=some (.dT kvs)))∨(T = "set" /\ ∃ S n,H p=some (.set S n))
 | _=>False
theorem qaM9{Fb:List (γ×Obj)}{σ:St}{H:Hp}{s:Sh}{T:String}{v:V'}(I:M4 X Fb σ H s)(r:Mx x v)(ty:tyV X.K T x H) :
   s.TypeIs v T/\∀ a,v=.ref a->∃ ob,s.heap.get? a=some ob/\ob.dict=none:=by
 cases x with
 | str z =>
   obtain⟨t,rfl⟩:=r;cases (show T = "str" from ty);exact⟨typeIs_str s z t,λ _ e=>nomatch e⟩
 | int i =>
   obtain⟨t,rfl⟩:=r;cases (show T = "int" from ty);exact⟨typeIs_int s i t,λ _ e=>nomatch e⟩
 | ref p =>
   cases r;rcases ty with⟨rfl,xs,hq⟩ | ⟨rfl,o,hk,hc,d⟩ | ⟨rfl,hk⟩ | ⟨rfl,S,n,hk⟩
   . obtain⟨g,_,f,_⟩:=I.list hq
     refine⟨f.isList.typeIs,λ a e=>?_⟩;cases e;obtain⟨o,n,e,c,d,_⟩:=f;exact⟨o,e,d⟩
   . refine⟨⟨o,I.kIn p o hk,hc⟩,λ a e=>?_⟩
     cases e;exact⟨o,I.kIn _ o hk,d⟩
   . have z:∃ o,s.heap.get? p=some o/\o.ExactDict:=by
       rcases hk with⟨kvs,hk⟩ | ⟨kvs,hk⟩
       . obtain⟨_,_,_,_,o,_,_,e,b,_⟩:=I.hok p _ hk
         exact⟨o,e,b⟩
       obtain⟨_,_,_,_,o,_,_,e,b,_⟩:=I.hok p _ hk;exact⟨o,e,b⟩
     obtain⟨o,e,b⟩:=z;refine⟨⟨o,e,b.1⟩,λ a e2=>?_⟩;cases e2;exact⟨o,e,b.2.1⟩
   obtain⟨o,_,_,_,e,b,_⟩:=I.hok p _ hk;refine⟨⟨o,e,b.1⟩,λ a e2=>?_⟩;cases e2;exact⟨o,e,b.2.1⟩
 | _=>exact False.elim ty
def tBM(K:W.Frag)(T:String)(r:V->List V->Hp->VK->Prop)(to:TE)(t:TA):TE:=λ σ H Q=>to σ H λ x H1=>tyV K T x H1/\t σ H1 λ xs H2=>r x xs H2 Q
variable{o e:Expr}{es:List Expr}{to:TE}{t:TA}{name:Str}{apos cpos:Pos}{T id:String}{r:V->List V->Hp->VK->Prop}
theorem Kl(g:PlainAttrs T)(slot:Slot T name id)(b:typeOf (.builtin id)=pure (.type "method_descriptor"))(hm:MtR X id r)(i:PE X o to)(j:PA X (e::es) t)(hbase:Ly o name X.env (eval o X.env)=eval o X.env:=by rfl)(a:((backTo cpos (Lq (e::es) X.env)).all (λ x=>!x.1)&&(backToKw cpos (L8 [] X.env)).all (λ x=>x.1.isSome)
     && decide ((e::es).length+([]:List Keyword).length+(if ([]:List Keyword).isEmpty then 0 else 1) < 30))=true:=by rfl)(hline:(apos.endLine == cpos.line)=true:=by rfl)(k:Lq (e::es) X.env=(false,eval e X.env)::Lq es X.env:=by rfl)(hplain:(backTo cpos (Lq es X.env)).any (·.1)=false:=by rfl) :
   PE X (.Call (.Attribute o name apos) (e::es) [] cpos) (tBM X.K T r to t):=by
 intro Fb s σ H Q I h;refine wpAny_Call_method_late hbase a hline rfl (thn (i Fb s σ H _ I h) λ v l c=>?_);obtain⟨x,H1,I1,d,m,n⟩:=c;obtain⟨p,q⟩:=qaM9 I1 d m;refine⟨T,id,g,slot,b,p,q,?_⟩;have f:=j cpos Fb l σ H1 _ I1 n;rw[k] at f ⊢;refine Calls.callWith_builtin (by show (false||(backTo cpos (Lq es X.env)).any (·.1))=false;rw[hplain]<;>rfl) (Calls.evalArgs_plain ?_);exact thn f λ u w ⟨y,H2,I2,z,q2⟩=>hm Fb w σ H2 x y v u Q I2 d z q2
/- xs.append(e),list.index on a module's tuple .. are MtR facts of 06m -/
end
def MtM(X:Cx)(id:String)(r:V->List V->Hp->VK->Prop):Prop :=
 ∀(Fb:List (γ×Obj))(s:Sh)(σ:St)(H:Hp)(x:V)(xs:List V)(v:V')(us:List V')(Q:VK),M4 X Fb σ H s->Mx x v->Mz xs us->r x xs H Q ->
   wpAny (model X.prog X.w) X.A (call (.builtin id) (v::us)) (EP X Fb σ Q) X.xe s
theorem Mz.one{us:List V'}(h:Mz [x] us):∃ u,us=[u]/\Mx x u:=by
 cases h with
 | cons r t=>cases t;exact⟨_,rfl,r⟩
theorem Mz.two{y:V}{us:List V'}(h:Mz [x,y] us):∃ u v,us=[u,v]/\Mx x u/\Mx y v:=by
 cases h with
 | cons r t =>
   cases t with
   | cons q t=>cases t;exact⟨_,_,rfl,r,q⟩
theorem Mz.rep{xs:List V}{us:List V'}(h:Mz xs us):∀ k:Nat,Mz (List.replicate k xs).flatten (List.replicate k us).flatten
 | 0=>.nil
 | k+1=>by
   rw[zBm,zBm,zC3,zC3];exact Mz.append h (Mz.rep h k)
theorem qO6(its:List V'):∀(k:Nat)(acc:List V'),
   List.foldl (λ a b=>a++b) acc.toArray (List.replicate k its.toArray)=(acc++(List.replicate k its).flatten).toArray
 | 0,acc=>by simp
 | k+1,acc=>by
   have e:acc.toArray++its.toArray=(acc++its).toArray:=by simp
   have e2:(acc++its)++(List.replicate k its).flatten=acc++(List.replicate (k+1) its).flatten:=by
     rw[zBm,zC3,zAq]
   rw[<- e2,<- qO6 its k (acc++its),<- e,zBm,List.foldl_cons]
section
variable{X:Cx}{Fb:List (γ×Obj)}{σ:St}{H:Hp}{s:Sh}{l:γ}{xs ys:List V}
theorem M4.lset{its':List V'}{f:Array V'->Array V'}{t':Nat}(I:M4 X Fb σ H s)(a:H l=some (.l xs))(e:s.heap.get? l=some { cls:=.type "list",data:=.seq its.toArray n })(b:f its.toArray=its'.toArray)(c:Mz ys its')(d:ys.length<=Lr) :
   M4 X Fb σ (upd H l (.l ys)) { s with heap:=s.heap.update l (Obj.mapSeq f),toks:=t' }:=by
 have q:=PySem.IsL.update e f;rw[b] at q;refine I.write (x:=l) (e:=l) (by rw[a];exact trivial) (.inl rfl) (λ i u g h=>(zBc s.heap (Obj.mapSeq f) (Ne.symm g)).trans h) ⟨_,q⟩ ?_;exact⟨d,its',_,c,q⟩
theorem M4.lnew{t':Nat}(I:M4 X Fb σ H s)(a:Mz ys its)(b:ys.length<=Lr) :
   M4 X Fb σ (upd H s.heap.objs.size (.l ys)) { s with heap:=s.heap.push { cls:=.type "list",data:=.seq its.toArray },toks:=t' } :=
 I.laid (λ _ _ q=>zA2 _ q) (zA3 _) ⟨b,its,0,a,zAz _ rfl⟩
theorem M4.fresh(I:M4 X Fb σ H s):H s.heap.objs.size=none:=I.hok.fresh (zA3 _)
theorem M4.lstM(I:M4 X Fb σ H s)(a:H l=some (.l xs)):xs.length<=Lr/\∃(its:List V')(n:Nat),Mz xs its/\xs.length=its.length/\s.heap.get? l=some { cls:=.type "list",data:=.seq its.toArray n }:=by
 obtain⟨z,its,n,r,e⟩:=I.hok l _ a;exact⟨z,its,n,r,r.length,e⟩
theorem qaw6(h:n<=Lr):Builtin.List.listTooLong n=false:=by
 unfold Builtin.List.listTooLong;exact zAy (by lia)
end
section
variable{X:Cx}
def qao5:V->List V->Hp->VK->Prop:=λ x vs H Q=>∃ l xs y,x=.ref l/\vs=[y]/\H l=some (.l xs)/\xs.length < Lr/\Q .non (upd H l (.l (xs++[y])))
theorem qd9:MtM X "list.append" qao5:=by
 intro Fb s σ H x g v i Q I c d h;obtain⟨l,j,y,rfl,rfl,b,k,q⟩:=h;cases c;obtain⟨u,rfl,f⟩:=d.one;obtain⟨z,a,n,r,m,e⟩:=I.lstM b;refine Mc F.slot_list_append ⟨_,e,rfl⟩ F.entry_list_append (F.args_list_append_2 _ _) (PySem.list_append l a.toArray n u (by rw[zA4];lia)) ⟨e,?_⟩;refine⟨.non,_,I.lset (its':=a++[u]) b e (by simp) (r.append (.cons f .nil)) ?_,rfl,q⟩;rw[zAd,List.length_singleton];lia
def rCat:R2:=λ x y H Q=>∃ l b xs a,x=.ref l/\y=.ref b/\H l=some (.l xs)/\H b=some (.l a)/\xs.length+a.length<=Lr/\∀ p,H p=none->Q (.ref p) (upd H p (.l (xs++a)))
theorem qaQ6:OpR X (Mf .Add) rCat:=by
 intro Fb s σ H x y v u Q I c d h;obtain⟨l,b,m,o,rfl,rfl,f,g,p,q⟩:=h;cases c;cases d;obtain⟨z,a,n,r,t,e⟩:=I.lstM f;obtain⟨w,its2,A,i,j,e2⟩:=I.lstM g;refine PySem.P.add_list e e2 ?_ (by rw[zA4,zA4];lia);have k:a.toArray++its2.toArray=(a++its2).toArray:=by simp
 rw[k];exact⟨.ref _,_,I.lnew (t':=s.toks) (r.append i) (by rw[zAd];lia),rfl,q _ I.fresh⟩
def rRep:R2:=λ x y H Q=>∃ l k xs,x=.ref l/\y=.int k/\H l=some (.l xs)/\-(2 ^ 63)<=k/\k < 2 ^ 63/\xs.length * k.toNat<=Lr /\
 ∀ p,H p=none->Q (.ref p) (upd H p (.l (List.replicate k.toNat xs).flatten))
theorem qaI7(xs:List α)(k:Nat):(List.replicate k xs).flatten.length=k * xs.length:=by
 induction k with
 | zero=>simp
 | succ k a=>rw[zBm,zC3,zAd,a,Nat.succ_mul,Nat.add_comm]
theorem qaP8:OpR X (Mf .Mult) rRep:=by
 intro Fb s σ H x y v u Q I p w h;obtain⟨l,k,J,rfl,rfl,A,B,C,o,q⟩:=h;cases p;obtain⟨t,rfl⟩:=w;obtain⟨z,b,n,r,D,e⟩:=I.lstM A;have c:b.toArray.size * k.toNat<=Lr:=by rw[zA4,<- D];exact o
 have d:¬ b.toArray.size * k.toNat > (2 ^ 63 - 1) / 8:=by
   have:(Lr:Nat)<=(2 ^ 63 - 1) / 8:=by decide
   lia
 have f:¬ (!Builtin.List.listFitsIndex k)=true:=by
   rw[fitsIndex_both B C];exact zAh
 have hlong:¬ Builtin.List.listTooLong (b.toArray.size * k.toNat)=true:=by
   rw[qaw6 c];exact zAh
 have g:List.foldl (λ i j=>i++j) #[] (List.replicate (if b.toArray.isEmpty=true then 0 else k.toNat) b.toArray)=(List.replicate k.toNat b).flatten.toArray:=by
   have E:∀ m:Nat,List.foldl (λ i j=>i++j) #[] (List.replicate m b.toArray)=(List.replicate m b).flatten.toArray:=λ m=>by
     have:=qO6 b m []
     rw[zB6] at this;exact this
   rw[E];cases b with
   | nil=>simp
   | cons a K=>rw[if_neg (by simp)]
 refine wpAny_binaryOp_repeat_ref (T := "list") (U := "int") (by decide) ⟨_,e,rfl⟩ (λ G=>typeIs_int G k t) noFill_list_mul F.fills_int_mul F.slot_int_rmul repeat_list F.slot_int_index.lookup
   (Mc F.slot_int_rmul (typeIs_int s k t) F.entry_int_rmul (F.args_int_rmul_2 _ _) (int___rmul___int_list k t l b.toArray n)
     ⟨e,rfl,⟨_,e,rfl⟩,Mc F.slot_list_mul ⟨_,e,rfl⟩ F.entry_list_mul (F.args_list_mul_2 _ _) (AutoListH.list___mul___list_int_3 l b.toArray n k t f d hlong) ⟨e,?_⟩⟩)
 rw[g];exact⟨.ref _,_,I.lnew (t':=s.toks) (r.rep k.toNat) (by rw[qaI7,Nat.mul_comm];exact o),rfl,q _ I.fresh⟩
end
section
variable{κ:Type}[DecidableEq κ]
noncomputable def Gm(kvs:List (κ×V))(k:κ):Option V:=(kvs.find? λ a=>decide (a.1=k)).map (·.2)
noncomputable def putK(kvs:List (κ×V))(k:κ)(v:V):List (κ×V) :=
 if (kvs.any λ a=>decide (a.1=k))=true then kvs.map (λ a=>if a.1=k then (a.1,v) else a) else kvs++[(k,v)]
theorem qH2{p:κ×V}{r:List (κ×V)}{k:κ}(e:p.1=k):Gm (p::r) k=some p.2:=by simp[Gm,zBv,e]
theorem qH3{p:κ×V}{r:List (κ×V)}{k:κ}(e:¬ p.1=k):Gm (p::r) k=Gm r k:=by simp[Gm,zBv,e]
theorem qT4(kvs:List (κ×V))(k:κ)(v:V):(putK kvs k v).length<=kvs.length+1:=by
 unfold putK;split
 . rw[zA8];lia
 rw[zAd,zAg,zBn];lia
theorem RelO.getD{o:Option V}{u:Option V'}{d:V}{d':V'}(r:RelO o u)(a:Mx d d'):Mx (o.getD d) (u.getD d'):=by
 cases o with
 | none=>cases u with
   | none=>exact a
   | some _=>exact(show False from r).elim
 | some _=>cases u with
   | none=>exact(show False from r).elim
   | some _=>exact r
theorem KV.val{kvs:List (κ×V)}{vs:List (κ×V')}(r:KV kvs vs)(k:κ):RelO (Gm kvs k) (valueAt vs k):=by
 unfold KV at r
 induction r with
 | nil=>exact True.intro
 | @cons p q ps qs h t ih =>
   obtain⟨c,d⟩:=h;by_cases e:p.1=k
   . have a:q.1=k:=c.symm.trans e
     have b:valueAt (q::qs) k=some q.2:=by simp[valueAt,zBv,a]
     rw[qH2 e,b];exact d
   have a:¬ q.1=k:=λ z=>e (c.trans z)
   have b:valueAt (q::qs) k=valueAt qs k:=by simp[valueAt,zBv,a]
   rw[qH3 e,b];exact ih
theorem KV.any{kvs:List (κ×V)}{vs:List (κ×V')}(r:KV kvs vs)(k:κ):(kvs.any λ a=>decide (a.1=k))=vs.any λ a=>decide (a.1=k):=by
 unfold KV at r
 induction r with
 | nil=>rfl
 | cons h t b=>rw[zCc,zCc,b,h.1]
theorem KV.repl{kvs:List (κ×V)}{vs:List (κ×V')}(r:KV kvs vs)(k:κ){y:V}{u:V'}(c:Mx y u) :
   KV (kvs.map λ a=>if a.1=k then (a.1,y) else a) (vs.map λ a=>if a.1=k then (a.1,u) else a):=by
 unfold KV at r ⊢
 induction r with
 | nil=>exact .nil
 | @cons p q ps qs h t ih =>
   rw[zAx,zAx];refine .cons ?_ ih;obtain⟨b,d⟩:=h;by_cases e:p.1=k
   . rw[if_pos e,if_pos (b.symm.trans e)];exact⟨b,c⟩
   rw[if_neg e,if_neg (λ z=>e (b.trans z))];exact⟨b,d⟩
theorem KV.put{kvs:List (κ×V)}{vs:List (κ×V')}(r:KV kvs vs)(k:κ){y:V}{u:V'}(a:Mx y u):KV (putK kvs k y) (stored vs k u):=by
 unfold putK stored;rw[r.any k];by_cases e:(vs.any λ b=>decide (b.1=k))=true
 . rw[if_pos e,if_pos e];exact r.repl k a
 rw[if_neg e,if_neg e];exact Paired.snoc r ⟨rfl,a⟩
theorem KV.length{kvs:List (κ×V)}{vs:List (κ×V')}(r:KV kvs vs):kvs.length=vs.length:=Paired.length r
end
theorem Km{P:Program}{w:World}{k:Key}{u:V'}(r:Mx (kV k) u):(qf4 P w).is k u=true:=by
 cases k with
 | inl i=>obtain⟨t,e⟩:=(show ∃ t,u=Value.int i t from r);subst e;exact qT0 P w i t
 | inr x=>obtain⟨t,e⟩:=(show ∃ t,u=Value.str x t from r);subst e;exact qS9 P w x t
theorem qN7{P:Program}{w:World}:∀{ks:List Key}{us:List V'},Mz (ks.map kV) us->ItemsAre (qf4 P w) ks us
 | [],_,r=>by rw[List.map_nil] at r;cases r;exact .nil
 | k::ks,_,r=>by
   rw[zAx] at r;cases r with
   | cons h t=>exact .cons (Km h) (qN7 t)
abbrev KT(H:Hp):List (List Key×V)->List (List Key×γ×V')->Prop:=Paired λ p q=>p.1=q.1/\H q.2.1=some (.q (p.1.map kV))/\Mx p.2 q.2.2
theorem KT.val{H:Hp}{kvs:List (List Key×V)}{xs:List (List Key×γ×V')}(r:KT H kvs xs)(k:List Key):RelO (Gm kvs k) ((atKey xs k).map (·.2)):=by
 induction r with
 | nil=>exact True.intro
 | @cons p q ps qs h t ih =>
   obtain⟨c,_,d⟩:=h;by_cases e:p.1=k
   . have a:q.1=k:=c.symm.trans e
     have b:atKey (q::qs) k=some q.2:=by simp[atKey,zBv,a]
     rw[qH2 e,b];exact d
   have a:¬ q.1=k:=λ z=>e (c.trans z)
   have b:atKey (q::qs) k=atKey qs k:=by simp[atKey,zBv,a]
   rw[qH3 e,b];exact ih
section
variable{P:Program}{w:World}{H:Hp}{h:Heap}{a:γ}
theorem rd_of{u:HO}(b:HOk P w H h)(e:Rd H a u):ObjOk P w H h a u:=e.ok b
theorem Kn{kvs:List (Key×V)}(b:HOk P w H h)(e:Rd H a (.dK kvs)):kvs.length<=Lr/\(a == L7)=false/\∃ vs,KV kvs vs/\h.DictOf (qf4 P w) a vs :=
 show ObjOk P w H h a (.dK kvs) from rd_of b e
theorem qaJ3{ks:List Key}(c:HOk P w H h)(e:H a=some (.q (ks.map kV))):(tupleKind (qf4 P w)).is h ks a:=by
 obtain⟨_,b,r,o,d,f,n,g⟩:=(show ObjOk P w H h a (.q (ks.map kV)) from c a _ e)
 exact⟨o,b.toArray,n,d,f,g,by simpa using qN7 r⟩
theorem dt_rd{kvs:List (List Key×V)}(c:HOk P w H h)(e:Rd H a (.dT kvs)):kvs.length<=Lr/\(a == L7)=false /\
   ∃ xs,KT H kvs xs/\h.DictOfH (tupleKind (qf4 P w)) a xs:=by
 obtain⟨z,y,xs,r,o,d,f,g,i,j,k,n⟩:=(show ObjOk P w H h a (.dT kvs) from rd_of c e)
 refine⟨z,y,xs,r,o,d,f,g,i,j,k,λ x b=>?_,n⟩;have all:∀{l:List (List Key×V)}{m:List (List Key×γ×V')},KT H l m->∀ x∈m,(tupleKind (qf4 P w)).is h x.1 x.2.1:=by
   intro l m q
   induction q with
   | nil=>intro x b;exact nomatch b
   | @cons p q ps qs hq t ih =>
     intro x b;rcases zAm.mp b with e | b
     . subst e
       exact qaJ3 c (by rw[<- hq.1];exact hq.2.1)
     exact ih x b
 exact all r x b
end
def DGet(H:Hp)(a:γ)(y:V)(r:Option V):Prop :=
 (∃ kvs k,Rd H a (.dK kvs)/\y=kV k/\r=Gm kvs k)∨∃ kvs k b,Rd H a (.dT kvs)/\y=.ref b/\H b=some (.q (k.map kV))/\r=Gm kvs k
section
variable{X:Cx}{Fb:List (γ×Obj)}{σ:St}{H:Hp}{s:Sh}
theorem M4.big(I:M4 X Fb σ H s):L7 < s.heap.objs.size:=by
 have h:L5 < s.heap.objs.size:=(I.mod.glob.keeps I.bk).lt;exact Nat.lt_trans (by decide) h
end
section
variable{X:Cx}{Fb:List (γ×Obj)}{σ:St}{H:Hp}{s:Sh}{a:γ}{kvs:List (Key×V)}{A:Around}{E:V'->Sh->Prop}
theorem d_len{Q:V'->Sh->Prop}(I:M4 X Fb σ H s)(e:Rd H a (.dK kvs))(h:∀ t s',M4 X Fb σ H s'->Q (.int kvs.length t) s'):wpAny (model X.prog X.w) A (call (.builtin "len") [.ref a]) Q E s:=by
 obtain⟨z,b,d,rel,c⟩:=Kn I.hok e;refine call_len_dict b c (by rw[<- rel.length];rw[Lz] at z;lia) ?_;rw[<- rel.length];exact h _ _ (I.tok _)
end
def qx3(kvs more:List (Key×V)):List (Key×V):=more.foldl (λ acc a=>putK acc a.1 a.2) kvs
theorem qq5:∀(more kvs:List (Key×V)),(qx3 kvs more).length<=kvs.length+more.length
 | [],kvs=>by show kvs.length<=kvs.length+0;lia
 | p::r,kvs=>by
   have a:=qq5 r (putK kvs p.1 p.2);have b:=qT4 kvs p.1 p.2;show (qx3 (putK kvs p.1 p.2) r).length<=_;rw[zAg];lia
structure M2(X:Cx)(o:Expr)(m:Str)(apos:Pos)(e f:Expr)(cpos:Pos):Prop where
 base:Ly o m X.env (eval o X.env)=eval o X.env
 few:((backTo cpos (Lq [e,f] X.env)).all (λ x=>!x.1)&&(backToKw cpos (L8 [] X.env)).all (λ x=>x.1.isSome)
   && decide (([e,f]:List Expr).length+([]:List Keyword).length+(if ([]:List Keyword).isEmpty then 0 else 1) < 30))=true
 line:(apos.endLine == cpos.line)=true
 trees:backTo cpos (Lq [e,f] X.env)=[(false,eval e X.env),(false,eval f X.env)]
def IsD(H:Hp)(a:γ):Prop:=(∃ kvs,Rd H a (.dK kvs))∨∃ kvs,Rd H a (.dT kvs)
theorem qaS4{X:Cx}{Fb:List (γ×Obj)}{σ:St}{H:Hp}{s:Sh}{a:γ}(I:M4 X Fb σ H s)(d:IsD H a) :
   s.TypeIs (.ref a) "dict" /\ (∀ b,Value.ref a=.ref b->∃ ob,s.heap.get? b=some ob/\ob.dict=none)/\(a == L7)=false:=by
 rcases d with⟨kvs,e⟩ | ⟨kvs,e⟩
 . obtain⟨_,f,i,_,c⟩:=Kn I.hok e
   refine⟨c.typeIs,λ b q=>?_,f⟩;cases q;obtain⟨ob,_,_,g,h,_⟩:=c;exact⟨ob,g,h.2.1⟩
 obtain⟨_,f,j,_,c⟩:=dt_rd I.hok e;refine⟨c.typeIs,λ b q=>?_,f⟩;cases q;obtain⟨ob,_,_,g,h,_⟩:=c;exact⟨ob,g,h.2.1⟩
section
variable{X:Cx}{Fb:List (γ×Obj)}{σ:St}{H:Hp}{s:Sh}{a:γ}{y d:V}{u r:V'}{o:Option V}{A:Around}{E:V'->Sh->Prop}
theorem qaT8{Q:V'->Sh->Prop}(n:A.units+1 < cLine)(I:M4 X Fb σ H s)(g:DGet H a y o)(i:Mx y u)(j:Mx d r)(h:∀ m s',M4 X Fb σ H s'->Mx (o.getD d) m->Q m s') :
   wpAny (model X.prog X.w) A (call (.builtin "dict.get") [.ref a,u,r]) Q E s:=by
 rcases g with⟨kvs,k,e,ey,l⟩ | ⟨kvs,k,b,e,ey,eb,l⟩
 . subst ey
   obtain⟨z,f,q,rel,c⟩:=Kn I.hok e;refine call_meetsIn F.slot_dict_get c.typeIs F.entry_dict_get (F.args_dict_get_3 _ _ _) (meets_dict_get_default (qf4 X.prog X.w) a (Km i) f r) ⟨_,c.mapOf,h _ _ (I.tok _) ?_⟩;rw[l];exact(rel.val k).getD j
 subst ey;cases (show u=Value.ref b from i);obtain⟨z,f,p,rel,c⟩:=dt_rd I.hok e;refine call_meetsIn F.slot_dict_get c.typeIs F.entry_dict_get (F.args_dict_get_3 _ _ _) (meetsH_dict_get_default (tupleKind (qf4 X.prog X.w)) a b f r) ⟨tupleKind_room_in1 n,k,p,qaJ3 I.hok eb,c,h _ _ (I.tok _) ?_⟩;rw[l];exact(rel.val k).getD j
end
def qaN5(td ty tx:TE):TE:=λ σ H Q=>td σ H λ x H1=>∃ a,x=.ref a/\IsD H1 a/\ty σ H1 λ y H2=>tx σ H2 λ z H3=>∃ o,DGet H3 a y o/\Q (o.getD z) H3
section
variable{X:Cx}{o e f:Expr}{apos cpos:Pos}{td ty tx:TE}
theorem qav3(i:X.A.units+1 < cLine)(j:PE X o td)(k:PE X e ty)(l:PE X f tx)(m:M2 X o "get" apos e f cpos):PE X (.Call (.Attribute o "get" apos) [e,f] [] cpos) (qaN5 td ty tx):=by
 intro Fb s σ H Q I h;refine wpAny_Call_method m.base m.few m.line F.plainAttrs_dict F.slot_dict_get F.type_dict_get (thn (j Fb s σ H _ I h) λ u n b=>?_);obtain⟨x,H1,I1,p,a,q,d,r⟩:=b;subst q;obtain rfl:u=Value.ref a:=p;obtain⟨t1,t2,_⟩:=qaS4 I1 d;refine⟨t1,t2,?_⟩;rw[m.trees];refine Calls.callWith_builtin rfl (Calls.evalArgs_plain (Calls.spliced_cons (thn (k Fb n σ H1 _ I1 r) λ C t ⟨y,H2,I2,v,q2⟩ =>
   Calls.spliced_cons (thn (l Fb t σ H2 _ I2 q2) λ D E ⟨z,H3,I3,w,G,g,B⟩=>Calls.spliced_nil ?_))))
 exact qaT8 i I3 g v w λ J K I4 c=>⟨_,H3,I4,c,B⟩
end
end L2
namespace Att
open PySem PySem.W PySem.Calls PyProof.Rows
theorem qx8{P:Params}{h:Heap}:∀(ns:List Int)(vs:List V'),WellAll P h vs (ns.map WData.int)->IntsAre vs ns:=by
 intro ns
 induction ns with
 | nil =>
   intro vs w;rw[List.map_nil] at w;cases w;exact .nil
 | cons n ns c =>
   intro vs w;rw[zAx] at w;cases w with
   | cons a b =>
     cases a;exact .cons _ _ (c _ b)
theorem qah0{l:OpenLaw}{n:Nat}(m:l.most=some n){P:Params}{h:Heap}{args:List WData}{vals:List V'}(b:l.row.toRowW.claim.pre args=true)(i:WellAll P h vals args) :
   ∃ a vs ns,vals=[Value.ref a]/\args=[WData.list (ns.map WData.int)]/\h.get? a=some { cls:=.type "list",data:=.seq vs.toArray }/\IntsAre vs ns/\ns.length<=n:=by
 have j:WShape.hasAll [] args [.list .int]=true:=(pre_splitW b).1;have k:l.pre.holds [] { args:=args }=true:=(pre_splitW b).2;obtain⟨d,r,rfl,o,p⟩:=hasAllW_cons j;obtain rfl:=hasAllW_nil p;obtain⟨x,rfl,s⟩:=hasW_list o;obtain⟨ns,rfl⟩:=items_int s;have c:ns.length<=n:=by
   unfold OpenLaw.pre at k;have f:(WTm.not (.lt (.lit (.int (n:Int))) (.len (.arg 0)))).holds [] { args:=[.list (ns.map .int)] }=true:=by
     have f:=(holds_andW k).1;rw[m] at f;exact f
   have g:=condW_of f (w_not (w_lt w_lit (w_len_list (w_arg rfl))));rw[zA8] at g;refine zC6 λ q=>?_
   have t:(n:Int) < ((ns.length:Nat):Int):=by lia
   first
     | (rw[zA9 t] at g;exact absurd g (by decide))
     | (simp at g;lia)
 cases i with
 | cons u v =>
   cases v;cases u with
   | list w e=>exact⟨_,_,ns,rfl,rfl,w,qx8 ns _ e,c⟩
theorem qai0(l:OpenLaw)(args:List WData):l.row.toRowW.claim.post args (.bool true) args=true :=
 postW_of (r:=l.row.toRowW) (X:=(true == true))
   (show WShape.has [] (.bool true) .bool=true by first | rfl | decide | simp[WShape.has,WShape.arms,WShape.armsAll])
   (show (WTm.eq .res (.lit (.bool true))).value [] { args:=args,res:=some (.bool true),after:=args }=some (.bool (true == true)) from w_eq_bool (w_res rfl) w_lit) rfl
theorem qU1{l:OpenLaw}{n:Nat}{q:Program}{loose:List Str}{XP:(Str->Option V')->Heap->Prop}{YP:World->Heap->Prop}{d:DefRec}(u:l.most=some n)(h:d.params.defaults=[])(call:∀(w:World)(s₀ s₁:Sh)(mg i:Str->Option V')(fa:γ)(o:Obj)(j cd b:V')(a:γ)(vs:List V')(ns:List Int),
     Ground q loose [] XP w s₀ mg i s₁.heap->YP w s₁.heap ->
     s₁.heap.get? fa=some o->o.data=.func (docDef d.name d.params d.body d.scope j cd b)->s₁.heap.CodeRec cd d.name->mg d.name=some (.ref fa) ->
     s₁.heap.get? a=some { cls:=.type "list",data:=.seq vs.toArray }->IntsAre vs ns->ns.length<=n->s₁.gens = #[] ->
     codeAny (model l.prog w) callerA (.call (.ref fa) ⟨[.ref a],[]⟩) (λ r s'=>r=.ok (.ret (.bool true))/\OldK s₁.heap s'.heap/\s'.os=s₁.os/\AllBare s'.gens) s₁) :
   WalkO q loose XP YP l.row.toRowW d [] (λ f vs=>PySem.call f vs):=by
 intro w s₀ s₁ mg i G Y fa o j cd b v kV x y k s m z args vals I c t A p B;obtain rfl:v=.none:=Dflts.none s h;obtain rfl:kV=.none:=Dflts.noKw s;obtain⟨a,vs,ns,rfl,rfl,e,hints,g⟩:=qah0 u c p;refine enter_call (codeAny_mono (call w s₀ s₁ mg i fa o j cd b a vs ns G Y x (fd_plain y) k m e hints g z) λ r s' C=>?_);obtain⟨rfl,D,E,F⟩:=C;exact⟨.inl ⟨.bool true,.bool true,[],rfl,λ _=>rfl,.bool true,qai0 l _,λ _=>⟨List.Pairwise.nil,λ _ H=>(nomatch H)⟩⟩,D,E,F⟩
end Att
namespace L2
open PySem PySem.Spec PyProof.Rows
theorem qM1:∀{vs:List V'}{ns:List Int},IntsAre vs ns->Mz (ns.map V.int) vs
 | _,_,.nil=>.nil
 | _,_,.cons n t h=>.cons ⟨t,rfl⟩ (qM1 h)
def Only(H:Hp):Prop:=∀ b,H b=none∨∃ o xs,H b=some (.frz o (.l xs))
theorem qax4{P:Program}{w:World}{K:W.Frag}{mg C:Str->Option V'}{CX:CXT}{k:Nat}{fa a:γ}{fd:δ}{x:Str}{sp:Sp}{s₁:Sh}{vs:List V'}{ns:List Int}(KX:K.In s₁.heap)(g:s₁.heap.Ns L5 mg)(c:s₁.heap.Ns builtinsNs C)(D:∀ x:Str,x ≠ "__name__" -> C x=Lw x)(i:s₁.heap.NoLimit)(T:s₁.gens = #[])(B:s₁.heap.get? a=some { cls:=.type "list",data:=.seq vs.toArray })(hi:IntsAre vs ns)(M:ns.length<=Lr)(U:Room k callerA)(F:∀ base:Heap,K.In base->base.Ns L5 mg->Gc P w K mg base CX k fa fd [x] sp)(hbind:∀(s:Sh)(u:V'),BindsTo s fd ⟨[u],[]⟩ [(x,u)])(E:∀ H:Hp,Only H->SqL K H a (ns.map V.int)->sp [.ref a] H (λ v _=>v=.bl true) λ _ _ _=>False)(G:∀ H e s',CX [] H s₁ (λ _ _ _=>False) e s'->False) :
   codeAny (model P w) callerA (.call (.ref fa) ⟨[.ref a],[]⟩) (λ r s'=>r=.ok (.ret (.bool true))/\OldK s₁.heap s'.heap/\s'.os=s₁.os/\AllBare s'.gens) s₁:=by
 have N:=qM1 hi;have lenV:=hi.length;have core:∀ H:Hp,Only H->SqL K H a (ns.map V.int)->HOk P w H s₁.heap->(∀ b,H b≠none->b=a)->(H a≠none->K.lookup a=none) ->
     codeAny (model P w) callerA (.call (.ref fa) ⟨[.ref a],[]⟩) (λ r s'=>r=.ok (.ret (.bool true))/\OldK s₁.heap s'.heap/\s'.os=s₁.os/\AllBare s'.gens) s₁:=by
   intro H O X j Q Y;have base_of:∀{b:γ}{o:Obj},s₁.heap.get? b=some o->H b=none->(Hk s₁.heap H).get? b=some o:=λ e n=>qay0 e n
   have I:∀{b:γ}{o:Obj}{l:Array DictEntry}{p:Nat},s₁.heap.get? b=some o->o.data=.dict l p->H b=none:=λ{b o l p} e d=>by
     cases q:H b with
     | none=>rfl
     | some u =>
       have J:b=a:=Q b (by rw[q];simp);subst J;rw[B] at e;cases e;have Z:Data.seq vs.toArray _=Data.dict l p:=d;cases Z
   have f:∀{b:γ}{m:Str->Option V'},s₁.heap.Ns b m->(Hk s₁.heap H).Ns b m:=λ{b m} ⟨o,l,p,e,d,r⟩=>⟨o,l,p,base_of e (I e d),d,r⟩
   have t:K.In (Hk s₁.heap H):=λ b o e=>base_of (KX b o e) (by
     cases q:H b with
     | none=>rfl
     | some u =>
       have J:b=a:=Q b (by rw[q];simp);subst J;rw[Y (by rw[q];simp)] at e;cases e)
   have hM:Mod K mg (Hk s₁.heap H):=⟨t,f g,⟨C,f c,D⟩,let ⟨mc,h1,h2⟩:=i;⟨mc,f h1,h2⟩⟩
   have e0:Env0 P w K mg (Hk s₁.heap H) callerA [] s₁ H:=⟨rfl,hM,λ b o e=>qaH3 e,zC4 (qak1 _ _),trivial,λ b c=>absurd (show b∈([]:List γ) from c) (by simp),j,.of_eq T⟩
   refine codeAny_mono ((F _ t (f g)).run callerA [] s₁ H ⟨[.ref a],[]⟩ [.ref a] [.ref a] _ _ U e0 (hbind s₁ (.ref a)) (.cons rfl .nil) (E H O X)) λ r s' h=>?_
   cases r with
   | error e=>exact(G H e s' h).elim
   | ok fl =>
     cases fl with
     | next=>exact False.elim h
     | brk=>exact False.elim h
     | cont=>exact False.elim h
     | ret u =>
       obtain⟨v,H',os,bare,R,y,r',q⟩:=h;have q':v=.bl true:=q;subst q';obtain rfl:u=Value.bool true:=r';refine⟨rfl,OldK.of_keep λ b o e=>?_,os,bare⟩;cases q:H b with
       | none=>exact R.keep b o e q (by intro z;exact absurd (show b∈([]:List γ) from z) (by simp)) (by simp)
       | some u =>
         rcases O b with z | ⟨ob,xs,z⟩
         . rw[q] at z;cases z
         have z2:=R.frzs b ob _ z;obtain⟨S,_⟩:=j b _ z;obtain⟨e2,_⟩:=y b _ z2;rw[e] at S;cases S;exact e2
 cases L:K.lookup a with
 | some o =>
   have e:=KX a o L;rw[B] at e;cases e;refine core (λ _=>none) (λ _=>.inl rfl) (.inr ⟨_,vs.toArray,_,L,rfl,rfl,rfl,by rw[zA4,lenV];exact M,by simpa using N⟩) (λ b u z=>by have A:(none:Option HO)=some u:=z;cases A) (λ b z=>absurd rfl z) λ z=>absurd rfl z
 | none =>
   refine core (λ b=>if b=a then some (.frz { cls:=.type "list",data:=.seq vs.toArray } (.l (ns.map V.int))) else none) (λ b=>?_) (.inl (.inr ⟨{ cls:=.type "list",data:=.seq vs.toArray },if_pos rfl⟩)) (λ b u z=>?_) (λ b z=>?_) λ _=>L
   . by_cases c:b=a
     . exact .inr ⟨_,_,if_pos c⟩
     exact .inl (if_neg c)
   . by_cases c:b=a
     . have A:=(if_pos c).symm.trans z
       cases A;subst c;exact⟨B,by rw[zA8];exact M,vs,_,N,B⟩
     have A:=(if_neg c).symm.trans z;cases A
   by_cases c:b=a
   . exact c
   exact absurd (if_neg c) z
theorem qaA8{l:W.OpenLaw}{n k:Nat}{q:Program}{loose:List Str}{XP:(Str->Option V')->Heap->Prop}{YP:World->Heap->Prop}{d:DefRec}{K:Params->W.Frag}{CX:World->CXT}{sp:World->Sp}{x:Str}(y:l.most=some n)(j:n<=Lr)(m:d.params.defaults=[])(z:Room k callerA)(A:∀(w:World)(h:Heap),YP w h->(K w.params).In h)(F:∀(w:World)(mg:Str->Option V')(fa:γ)(h:Heap),(K w.params).In h->h.Ns L5 mg->mg d.name=some (.ref fa) ->
     ∃ fd:δ,(∀(s:Sh)(u:V'),BindsTo s fd ⟨[u],[]⟩ [(x,u)]) /\
       ∀ base:Heap,(K w.params).In base->base.Ns L5 mg->Gc l.prog w (K w.params) mg base (CX w) k fa fd [x] (sp w))(p:∀(w:World)(H:Hp)(a:γ)(ns:List Int),ns.length<=n->Only H->SqL (K w.params) H a (ns.map V.int)->sp w [.ref a] H (λ v _=>v=.bl true) λ _ _ _=>False)(r:∀(w:World)(H:Hp)(s:Sh)(e:V')(s':Sh),CX w [] H s (λ _ _ _=>False) e s'->False) :
   W.WalkO q loose XP YP l.row.toRowW d [] (λ f vs=>PySem.call f vs):=by
 refine Att.qU1 y m λ w s₀ s₁ mg M fa o N O B a vs ns G Y P Q C t i hints c D=>?_
 have KX:=A w _ Y;obtain⟨fd,E,I⟩:=F w mg fa _ KX G.T.g t;exact qax4 KX G.T.g G.T.b G.T.builtins G.T.nolimit D i hints (zAn c j) z I E (λ H J L=>p w H a ns c J L) λ H e s'=>r w H s₁ e s'
end L2
/- THE LAST THEOREM (shape;LID,My.* are yours):
  My.Adr: a structure of the addresses that your layer names (classes,functions);My.Txt K t: a structure (Prop) of the equations over K;
  My.txt_mk:{K} {implicit addresses ..} (e1:nsIn K L5 "law" = some (some (.ref f))) (e2:K.lookup f=some ⟨oc,od,.func (fnOf "law" "law" params body scope dV kV doc pm an cdv ct),sl⟩) (e3:codeIn K cdv "law" = true) .. : ∃ t,My.Txt K t
(the tactic k_is has no namespace: write k_is) -/
namespace L2
open PySem PySem.Spec PyProof.Rows
variable{f:γ}{qual x:Str}{st:Stmt}
noncomputable def qh5(s:Stmt)(j:Nat):Stmt:=match s with
 | .ClassDef _ _ _ body _ _ _ _ _ _ _=>body.getD j (.Pass ⟨0,0,0,0⟩)
 | _=>.Pass ⟨0,0,0,0⟩
noncomputable def qe1(s:Stmt):Arguments:=match s with
 | .FunctionDef _ a _ _ _ _ _ _ _ _=>a
 | _=>{ posonlyargs:=[],args:=[],vararg:=none,kwonlyargs:=[],kw_defaults:=[],kwarg:=none,defaults:=[] }
noncomputable def qc7(s:Stmt):List Stmt:=match s with
 | .FunctionDef _ _ b _ _ _ _ _ _ _=>b
 | _=>[]
noncomputable def qa3(s:Stmt):Scope:=match s with
 | .FunctionDef _ _ _ _ _ _ sc _ _ _=>sc
 | _=>{ kind:=.function,names:=[],isGenerator:=false,isCoroutine:=false }
abbrev CX0:CXT:=λ _ _ _ _ _ _=>False
abbrev E0:XK:=λ _ _ _=>False
theorem pass0{X:Cx}:qG8 CX0 X (λ _=>E0):=λ _ _ _ _ _ _ _ h=>h.elim
structure Fun(K:W.Frag)(x qual:Str)(st:Stmt)(f:γ)(fd:δ):Prop where
 ex:∃(oc:V')(od:Option γ)(kV doc pm:V')(an:Option γ)(cdv ct:V')(osl:Array (Option V')),
   fd=W.fnOf x qual (qe1 st) (qc7 st) (qa3 st) .none kV doc pm an cdv ct/\K.lookup f=some ⟨oc,od,.func fd,osl⟩/\W.codeIn K cdv qual=true
 kp:W.keepIn K (.ref f)=true
section
variable{P:Program}{w:World}{K:W.Frag}{mg:Str->Option V'}{base:Heap}
theorem Fun.ok{fd:δ}{N ps:List Str}{k:Nat}{sp:Sp}(F:Fun K x qual st f fd)(S:qa9 N ps (qa3 st))(len:∀ vs H Q E,sp vs H Q E->vs.length=ps.length)(hbody:∀(a:V')(A:Around)(outer:List Env)(s:Sh)(H:Hp)(vs:List V)(Q:VK)(E:XK),Room k (A.deeper (envOfC qual (qa3 st) s.heap.objs.size f a))->sp vs H Q E ->
     ∃ t,PSs (Fv true CX0 P w K mg base N qual (qa3 st) f a A outer s H E).nox (qc7 st) t/\t { nx:=λ _ H'=>Q .non H',rt:=Q } (start N vs) H):Gc P w K mg base CX0 (k+1) f fd ps sp:=by
 obtain⟨j,l,kV,d,m,n,a,o,e,rfl,g,b⟩:=F.ex;refine Kk g b S len λ A outer s H vs Q E i c=>?_
 obtain⟨t,h,q⟩:=hbody a A outer s H vs Q E i c;exact⟨t,h.nox,q⟩
theorem Fun.binds{fd:δ}{ps:List Str}(F:Fun K x qual st f fd)(h:∀(kV a c:V')(d:Option γ)(b e:V')(us:List V'),us.length=ps.length->bindArgs (W.fnOf x qual (qe1 st) (qc7 st) (qa3 st) .none kV a c d b e) ⟨us,[]⟩=pure (ps.zip us)):Binds K fd ps []:=by
 obtain⟨j,k,kV,a,c,d,b,e,g,rfl,l,i⟩:=F.ex;exact .all (h kV a c d b e)
theorem qak3{oc:V'}{od e:Option γ}{d:Array (Option V')}{kV b g a h:V'}(l:K.lookup f=some ⟨oc,od,.func (W.fnOf x qual (qe1 st) (qc7 st) (qa3 st) .none kV b g e a h),d⟩)(c:W.codeIn K a qual=true)(k:W.keepIn K (.ref f)=true):Fun K x qual st f (W.fnOf x qual (qe1 st) (qc7 st) (qa3 st) .none kV b g e a h):=⟨⟨oc,od,kV,b,g,e,a,h,d,rfl,l,c⟩,k⟩
end
theorem hu_of{A:Around}{k:Nat}(a:Room k A):A.units+1 < cLine:=Nat.lt_of_le_of_lt (Nat.add_le_add_left (by decide:1<=64) _) a.units
theorem qag9{n:Nat}(h:n<=1000):n < Lr:=Nat.lt_of_le_of_lt h (by decide)
section
variable{X:Cx}
theorem pv(i:Nat){pos:Pos}(b:X.N[i]? = some x:=by rfl)(c:Vis X.env.scope x:=by first | exact Or.inl rfl | exact Or.inr (Or.inl rfl) | exact Or.inr (Or.inr rfl))(d:N' x:=by decide)(a:(x == ("__classdict__" : Str))=false:=by decide):PE X (.Name x pos) (Hl i):=qp1 b c d a
theorem qam7:CallR X (.builtin "len") (λ xs H Q=>∃ a kvs,xs=[V.ref a]/\H a=some (.dK kvs)/\Q (.int kvs.length) H):=by
 intro Fb s σ H xs d Q I r h;obtain⟨a,kvs,rfl,b,q⟩:=h;obtain⟨u,rfl,c⟩:=Bo r;cases c;exact d_len I (.inl b) λ t e I'=>⟨.int kvs.length,H,I',⟨t,rfl⟩,q⟩
end
def Same(H H':Hp):Prop:=∀ b o,H b=some o->H' b=some o
theorem Same.trans{H H1 H2:Hp}(a:Same H H1)(b:Same H1 H2):Same H H2:=λ c o h=>b c o (a c o h)
end L2
set_option maxHeartbeats 4000000
namespace L2
open PySem PySem.Spec PyProof.Rows
variable{H:Hp}{a:γ}{e:Expr}{es:List Expr}{i:Int}{p:Pos}{t:TA}{x:Str}{xs:List V}{α:Type}
theorem Ju{t:Sem α}{Q Q':α->Sh->Prop}{M:Model}{A:Around}{E:V'->Sh->Prop}{s:Sh}(h:wpAny M A t Q (λ _ _=>False) s)(b:∀ a s,Q a s->Q' a s):wpAny M A t Q' E s :=
 L9 h b λ _ _ x=>x.elim
noncomputable def Gn(env:Env):List (Str×NameKind)->List (Str×γ)->List (Str×γ)
 | [],acc=>acc
 | (n,k)::r,acc=>Gn env r (if k == NameKind.free then (n,(env.cells.lookup n).getD 0)::acc else acc)
theorem qv6{env:Env}:∀(l:List (Str×NameKind))(acc:List (Str×γ)),(∀ x∈l,x.2=NameKind.free->∃ c,env.cells.lookup x.1=some c) ->
   (forIn l acc λ(x:Str×NameKind)(r:List (Str×γ)) =>
     (match x with
     | (name,kind)=>if (kind == NameKind.free)=true then (do let c <- cellOf env name;pure (ForInStep.yield ((name,c)::r)):Sem (ForInStep (List (Str×γ)))) else pure (ForInStep.yield r)))=(pure (Gn env l acc):Sem _)
 | [],acc,_=>rfl
 | (n,k)::r,acc,h=>by
   rw[List.forIn_cons];by_cases a:(k == NameKind.free)=true
   . obtain⟨c,b⟩:=h (n,k) zAc (by simpa using a)
     have b:env.cells.lookup n=some c:=b;dsimp only;rw[if_pos a];have e:cellOf env n=pure c:=by unfold cellOf;rw[b]
     rw[e];show (forIn r ((n,c)::acc) _:Sem _)=_;rw[qv6 r ((n,c)::acc) λ x d=>h x (zA5 _ d)];show _=(pure (Gn env r (if (k == NameKind.free)=true then (n,(env.cells.lookup n).getD 0)::acc else acc)):Sem _)
     rw[if_pos a,b];rfl
   dsimp only;rw[if_neg a];show (forIn r acc _:Sem _)=_;rw[qv6 r acc λ x d=>h x (zA5 _ d)];show _=(pure (Gn env r (if (k == NameKind.free)=true then (n,(env.cells.lookup n).getD 0)::acc else acc)):Sem _)
   rw[if_neg a]
theorem qG1{env:Env}{sc:Scope}(h:∀ x∈sc.names,x.2=NameKind.free->∃ c,env.cells.lookup x.1=some c):closureFor sc env=pure (Gn env sc.names []):=by
 unfold closureFor;show (forIn sc.names [] _ >>= _)=_
 have:=qv6 (env:=env) sc.names [] h
 rw[show (forIn sc.names ([]:List (Str×γ)) _:Sem _)=pure (Gn env sc.names []) from this];rfl
theorem qad6{env:Env}:∀(l:List (Str×NameKind))(acc:List (Str×γ))(x:Str)(c:γ),(x,c)∈Gn env l acc->(x,c)∈acc∨((x,NameKind.free)∈l/\c=(env.cells.lookup x).getD 0)
 | [],acc,x,c,h=>.inl h
 | (n,k)::r,acc,x,c,h=>by
   rcases qad6 r _ x c h with h | ⟨h,e⟩
   . by_cases a:(k == NameKind.free)=true
     . rw[if_pos a] at h
       rcases zAm.mp h with h | h
       . cases h
         exact .inr ⟨by rw[show k=NameKind.free by simpa using a];exact zAc,rfl⟩
       exact .inl h
     rw[if_neg a] at h;exact .inl h
   exact .inr ⟨zA5 _ h,e⟩
theorem qad7{env:Env}:∀(l:List (Str×NameKind))(acc:List (Str×γ))(x:Str),(∃ c,(x,c)∈acc)->∃ c,(x,c)∈Gn env l acc
 | [],acc,x,h=>h
 | (n,k)::r,acc,x,⟨c,h⟩=>qad7 r _ x ⟨c,by split;exact zA5 _ h;exact h⟩
theorem qL7{env:Env}:∀(l:List (Str×NameKind))(acc:List (Str×γ))(x:Str),(x,NameKind.free)∈l->∃ c,(x,c)∈Gn env l acc
 | [],acc,x,h=>by simp at h
 | (n,k)::r,acc,x,h=>by
   rcases zAm.mp h with h | h
   . cases h
     exact qad7 r _ _ ⟨_,by rw[if_pos (by rfl)];exact zAc⟩
   exact qL7 r _ x h
theorem qu4{α:Type}:∀{l:List (Str×α)}{x:Str},(∃ c,(x,c)∈l)->∃ c,l.lookup x=some c
 | [],x,⟨c,h⟩=>by simp at h
 | (n,a)::r,x,⟨c,h⟩=>by
   cases b:x == n with
   | true=>exact⟨a,by simp only[zAu,b]⟩
   | false =>
     rcases zAm.mp h with h | h
     . cases h;simp at b
     obtain⟨d,e⟩:=qu4 ⟨c,h⟩;exact⟨d,by simp only[zAu,b];exact e⟩
noncomputable def Fg(σ:St)(src:List (Option Nat)):St:=src.map λ o=>match o with | none=>none | some j=>(σ[j]?).getD none
noncomputable def qv5(X:Cx)(NY:List Str)(src:List (Option Nat))(sc:Scope):Bool :=
 (sc.kind == .function)&&(src.length == NY.length) &&
 (sc.names.all λ x=>x.2 != .cell&&(x.2 != .local||sc.names.lookup x.1 == some .local)&&(x.2 != .free||(X.env.scope.names.lookup x.1 == some .cell||X.env.scope.names.lookup x.1 == some .free))) &&
 ((NY.zip src).all λ p=>match p.2 with | none=>true | some j=>X.N[j]? == some p.1&&sc.names.lookup p.1 == some .free)
def qh7(X:Cx)(NY:List Str)(sc:Scope)(C:γ)(a:Sh)(H0:Hp)(ex:List γ):Cx where
 prog:=X.prog
 w:=X.w
 K:=X.K
 mg:=X.mg
 base:=X.base
 A:=X.A
 N:=NY
 s₀:=a
 H₀:=H0
 env:=compEnvC sc (Gn X.env sc.names []) C X.env
 outer:=X.stack
 stack:=X.stack
 ex:=ex
 fn:=λ _=>false
 calm:=X.calm
 pn:=[]
 xe:=λ _ _=>False
def PFs(X:Cx)(ifs:List Expr)(t:TT):Prop :=
 ∀(Fb:List (γ×Obj))(s:Sh)(σ:St)(H:Hp)(Q:Bool->Hp->Prop),M4 X Fb σ H s->t σ H Q ->
   wpAny (model X.prog X.w) X.A (forIn ifs true λ c r=>if r=true then do let a <- isTrue c X.env (eval c X.env);pure (ForInStep.yield a) else pure (ForInStep.yield r)) (TP X Fb σ Q) X.xe s
def tYes:TT:=λ _ H Q=>Q true H
theorem qaF0{X:Cx}:PFs X [] tYes:=λ _ _ _ H _ I h=>wpAny_tests_nil ⟨H,I,h⟩
theorem qaO9{X:Cx}{c:Expr}{t:TT}(h:PT X c t):PFs X [c] t:=λ Fb s σ H Q I q=>wpAny_tests_one (h Fb s σ H Q I q)
theorem qm2{prog:Program}{w:World}{A:Around}{R:Result->Sh->Prop}{s:Sh}{elt target iter:Expr}{ifs:List Expr}{scope:Scope}{pos:Pos}{it acc:V'}{env:Env}(I:Nat->Sh->Prop)(turn:∀ n s,I n s->wpAny (model prog w) A (pyNext it) (λ r s₁=>match r with
     | none=>R (.ok .next) s₁
     | some v=>wpAny (model prog w) A (letOwnedTupleGo target it v) (λ _ s₁'=>wpAny (model prog w) A (assign target env v) (λ _ s₂ =>
         wpAny (model prog w) A (forIn ifs true λ c r=>if r=true then do let a <- isTrue c env (eval c env);pure (ForInStep.yield a) else pure (ForInStep.yield r)) (λ a s₃ =>
           if a=true then wpAny (model prog w) A (eval elt env) (λ x s₄ =>
             wpAny (model prog w) A (call (.builtin "list.append") [acc,x]) (λ _ s₅=>∃ m,m < n/\I m s₅) (λ _ _=>False) s₄) (λ _ _=>False) s₃
           else ∃ m,m < n/\I m s₃) (λ _ _=>False) s₂) (λ _ _=>False) s₁') (λ _ _=>False) s₁) (λ _ _=>False) s)(n:Nat)(h:I n s) :
   codeAny (model prog w) A (.compLoop (.ListComp elt [⟨target,iter,ifs,0⟩] scope pos) 0 it acc env) R s:=by
 refine codeAny_loop rfl I (λ n s b=>?_) n h;show wpAny _ A ((compTurn (.ListComp elt [⟨target,iter,ifs,0⟩] scope pos) 0 it acc env).onRaise (λ x=>do noteFrame x env;theTreesLotGoes x)) _ _ s;refine wpAny_noted ?_;rw[compTurn_list];refine G' (wpAny_standAt (G' (Ju (turn n s b) λ r s₁ h₁=>?_)));cases r with
 | none=>exact J' h₁
 | some v =>
   refine G' (Ju h₁ λ _ s₁' h₁'=>?_);refine G' (Ju h₁' λ _ s₂ h₂=>G' (Ju h₂ λ a s₃ h₃=>?_));cases a with
   | false=>exact J' ⟨rfl,h₃⟩
   | true =>
     exact G' (G' (Ju h₃ λ x s₄ h₄=>G' (Ju h₄ λ _ s₅ h₅=>J' (J' ⟨rfl,h₅⟩))))
def qD0(J:It)(g:TG)(tf:TT)(te:TE)(D:γ)(R:Hp->Prop)(σ0:St)(H0:Hp):Prop :=
 ∃ W:Nat->Nat->St->Hp->Prop,(∃ m,W 0 m σ0 H0)/\∀ i m σ H,W i m σ H ->
   (J.stop i H/\R H)∨(J.go i H/\∃ N:St->Hp->Prop,(∀ σ' H',N σ' H'->∃ a,a < m/\W (i+1) a σ' H')/\∀ x H',J.yld i H x H'->g x σ H' λ σ2 H2=>tf σ2 H2 λ b H3 =>
     if b=true then te σ2 H3 λ v H4=>∃ xs,H4 D=some (.l xs)/\xs.length < Lr/\N σ2 (upd H4 D (.l (xs++[v]))) else N σ2 H3)
theorem qn0{env:Env}{x:Str}:∀{names:List (Str×NameKind)},(∀ y∈names,y.2≠.cell) ->
   ((names.map λ (n,k)=>if (k == NameKind.free&&env.scope.kind == .function&&env.kindOf n == some .cell) then (n,NameKind.cell) else (n,k)).lookup x=some .cell ∨
    (names.map λ (n,k)=>if (k == NameKind.free&&env.scope.kind == .function&&env.kindOf n == some .cell) then (n,NameKind.cell) else (n,k)).lookup x=some .free)->names.lookup x=some .free
 | [],_,h=>by simp at h
 | (n,k)::r,hc,h=>by
   have c:=@qn0 env x r λ y d=>hc y (zA5 _ d)
   have e:k≠.cell:=hc (n,k) zAc;simp only[zAx] at h;cases b:x == n with
   | true =>
     simp only[zAu,b];by_cases a:(k == NameKind.free&&env.scope.kind == .function&&env.kindOf n == some .cell)=true
     . have:k=NameKind.free:=by
         simp only[zB9,zBp] at a;exact a.1.1
       rw[this]
     rw[if_neg a] at h;simp only[zAu,b] at h;rcases h with h | h
     . exact absurd (Option.some.inj h) e
     exact h
   | false =>
     simp only[zAu,b];apply c;by_cases a:(k == NameKind.free&&env.scope.kind == .function&&env.kindOf n == some .cell)=true
     . rw[if_pos a] at h
       simpa only[zAu,b] using h
     rw[if_neg a] at h;simpa only[zAu,b] using h
theorem qg6{env:Env}{x:Str}:∀{names:List (Str×NameKind)},names.lookup x=some .free ->
   ((names.map λ (n,k)=>if (k == NameKind.free&&env.scope.kind == .function&&env.kindOf n == some .cell) then (n,NameKind.cell) else (n,k)).lookup x=some .cell ∨
    (names.map λ (n,k)=>if (k == NameKind.free&&env.scope.kind == .function&&env.kindOf n == some .cell) then (n,NameKind.cell) else (n,k)).lookup x=some .free)
 | [],h=>by simp at h
 | (n,k)::r,h=>by
   have c:=@qg6 env x r;simp only[zAx];cases a:x == n with
   | true =>
     simp only[zAu,a] at h;have h:k=.free:=Option.some.inj h;by_cases b:(k == NameKind.free&&env.scope.kind == .function&&env.kindOf n == some .cell)=true
     . rw[if_pos b];simp only[zAu,a];exact .inl trivial
     rw[if_neg b];simp only[zAu,a];rw[h];exact .inr rfl
   | false =>
     simp only[zAu,a] at h;by_cases b:(k == NameKind.free&&env.scope.kind == .function&&env.kindOf n == some .cell)=true
     . rw[if_pos b];simp only[zAu,a];exact c h
     rw[if_neg b];simp only[zAu,a];exact c h
section
variable{X:Cx}{Fb:List (γ×Obj)}{σ:St}{H2:Hp}{s2:Sh}{elt tg iter:Expr}{ifs:List Expr}{sc:Scope}{pos:Pos}{NY:List Str}{src:List (Option Nat)}{J:It}{fp:List γ}{it:γ}{tn:Nat->Heap->Prop}{g:TG}{tf:TT}{te:TE}
theorem qQ2{R:γ->Hp->Prop}{E:V'->Sh->Prop}{RR:V'->γ->Result->Sh->Prop}(ck:qv5 X NY src sc=true)(hc:X.calm=true)(I2:M4 X Fb σ H2 s2)(T:Kd X.prog X.w X.K tg J fp it tn)(I:tn 0 s2.heap)(f2:∀ b∈fp,Hm X Fb H2 b)(hg:∀ C P H0,PG (qh7 X NY sc C P H0 fp) tg g)(hf:∀ C P H0,PFs (qh7 X NY sc C P H0 fp) ifs tf)(he:∀ C P H0,PE (qh7 X NY sc C P H0 fp) elt te)(rd:∀ D,H2 D=none->qD0 J g tf te D (R D) (Fg σ src) (upd H2 D (.l [])))(fin:∀ D C H' s',M4 X Fb σ H' s'->R D H'->H' C=none->X.s₀.heap.objs.size<=C->C≠X.env.locals->(∀ x c,X.env.cells.lookup x=some c->c≠C)->(∀ p∈X.pn++Fb,p.1≠C)->C∉X.fs->(∃ m,s'.heap.Ns C m)->RR (.ref D) C (.ok .next) s') :
   wpAny (model X.prog X.w) X.A (newList []) (λ acc s₃=>wpAny (model X.prog X.w) X.A (newFunctionEnv sc X.env.globals (Gn X.env sc.names []) [] X.env.qual none .none (some X.env)) (λ cenv s₄ =>
     codeAny (model X.prog X.w) X.A (.compStart (.ListComp elt [⟨tg,iter,ifs,0⟩] sc pos) 0 (.ref it) acc { cenv with scope:=relabel sc X.env }) (RR acc cenv.locals) s₄) E s₃) E s2:=by
 unfold qv5 at ck;simp only[zB9,zBp,zBx] at ck;obtain⟨⟨⟨hkind,G⟩,Q⟩,S⟩:=ck;have hcell:∀ y∈sc.names,y.2≠.cell:=λ y U e=>by
   have:=(Q y U).1.1
   rw[e] at this;exact absurd this (by decide)
 have hfree:∀ y∈sc.names,y.2=.free->(X.env.kindOf y.1=some .cell∨X.env.kindOf y.1=some .free):=λ y U e=>by
   have:=(Q y U).2
   rw[e] at this;show X.env.scope.names.lookup y.1=some .cell∨X.env.scope.names.lookup y.1=some .free;simpa using this
 have clsub:∀ x c,(Gn X.env sc.names []).lookup x=some c->X.env.cells.lookup x=some c:=λ x c e=>by
   rcases qad6 _ _ x c (PySem.mem_of_lookup e) with h | ⟨h,q⟩
   . simp at h
   obtain⟨d,M⟩:=I2.ok.has x (hfree _ h rfl);rw[M] at q;rw[M,q];rfl
 refine wpAny_newObj_type (wpAny_newFunctionEnv hcell (by intro y U;simp at U) (λ h₁ hns₁ hsb₁=>?_) hkind);dsimp only at hns₁ hsb₁ ⊢;have I3:=I2.lnew (ys:=[]) (its:=[]) (t':=s2.toks) .nil (zBi _);have hD:H2 s2.heap.objs.size=none:=I2.fresh;generalize t:s2.heap.objs.size=D at hns₁ hsb₁ I3 hD ⊢;generalize V:s2.heap.push { cls:=.type "list",dict:=none,data:=.seq ([]:List V').toArray }=h3 at hns₁ hsb₁ I3 ⊢;have Z:h3.objs.size=D+1:=by rw[<- V,Heap.size_push,t]
 generalize s:h3.objs.size=C at hns₁ hsb₁ Z ⊢;have I3:M4 X Fb σ (upd H2 D (.l [])) { s2 with heap:=h3,toks:=s2.toks }:=I3;have B:∀ b o,h3.get? b=some o->h₁.get? b=some o:=λ b o e=>hsb₁.extBut b o (by rw[<- s];exact zAl (zA7 e)) (zA2 _ e)
 have a0:∀ b o,h3.get? b=some o->b≠C:=λ b o e=>by rw[<- s];exact zAl (zA7 e)
 have a1:X.env.locals≠C:=by rw[<- s];exact zAl I3.lt
 have b0:∀ x c,X.env.cells.lookup x=some c->c≠C:=λ x c e=>by
   obtain⟨v,o,F,_⟩:=I3.cell x c e;exact a0 c o F
 have a2:∀ b∈fp,b≠C:=λ b f=>by
   obtain⟨o,F,_⟩:=T.obj _ _ I b f
   have:=zA7 F
   rw[t] at this;exact zAl (Nat.lt_trans this (by rw[Z];exact zBy _))
 have b1:∀ b∈fp,b≠D:=λ b f=>by
   obtain⟨o,F,_⟩:=T.obj _ _ I b f
   have:=zA7 F
   rw[t] at this;exact zAl this
 have a3:∀ b o,s2.heap.get? b=some o->h3.get? b=some o:=λ b o e=>by rw[<- V];exact zA2 _ e
 have pinC:∀ p∈X.pn++Fb,p.1≠C:=λ p hp=>a0 _ _ (I3.pin p hp).1
 have a4:C∉X.fs:=by rw[<- s];exact I3.nofs (zA3 _)
 have b2:X.s₀.heap.objs.size<=C:=by rw[<- s];exact I3.sz
 have stkC:∀ b∈frs X.stack,b≠C:=λ b f e=>by
   rcases zAm.mp (I3.stkSub b f) with z | z
   . exact a1 (z.symm.trans e)
   exact a4 (e ▸ z)
 have HC:upd H2 D (.l []) C=none:=I3.hok.fresh (by show h3.objs.size<=C;exact zC4 s);have a5:∀ b∈fp,b∉frs X.stack:=λ b f z=>by
   obtain⟨_,h1,h2,_⟩:=f2 b f;rcases zAm.mp (I2.stkSub b z) with q | q
   . exact h1 q
   exact h2 q
 let Y:Cx:=qh7 X NY sc C { s2 with heap:=h3 } (upd H2 D (.l [])) fp
 have a6:(Fg σ src).length=NY.length:=by unfold Fg;rw[zA8];exact G
 have IY:M4 Y [] (Fg σ src) (upd H2 D (.l [])) { s2 with heap:=h₁,toks:=s2.toks+0 }:=by
   refine⟨⟨I2.ok.mod,hkind,I2.ok.glob,I2.ok.blt,(by show h3.objs.size<=C;exact zC4 s),λ x y c h1 h2=>I2.ok.inj x y c (clsub x c h1) (clsub y c h2),λ x hx=>?_,λ _ _ z _=>(zAh z).elim,I2.ok.hd,I2.ok.frames,.inl rfl,λ b f=>⟨a2 b f,λ x c e=>(f2 b f).2.2.2.2.1 x c (clsub x c e)⟩,
     λ b o e=>?_,?_,λ b o e f=>?_,λ b f=>a5 b f,?_,λ b f=>?_⟩,rfl,I2.bare,Un.kept B,⟨_,hns₁,λ i x v e1 e2 e3=>?_⟩,λ x c e=>?_,HC,λ x c e=>I3.freeC x c (clsub x c e),λ p hp=>absurd (show p∈([]:List (γ×Obj)) from hp) (by simp),I3.hok.kept B,a6⟩
   . have hx:=qn0 hcell hx
     exact qu4 (qL7 _ _ _ (PySem.mem_of_lookup hx))
   . exact I3.bs b o e
   . exact zAn I2.ok.bsz (zAn (zAn I2.sz (by rw[t];exact zA3 _)) (by show D<=h3.objs.size;lia))
   . rcases (f2 b f).2.2.2.1 with z | z
     . exact I2.ok.noex b o e z
     exact absurd (zAb (zA7 (I2.ok.bs b o e).1) z) (zC0 _)
   . exact I3.stack
   . exact I3.stkFree b f
   . -- a captured name
     have hi:i < src.length:=by
       have:=(zA6.mp e2).1
       rw[a6,<- G] at this;exact this
     have e1:NY[i]? = some x:=e1;have es:src[i]? = some src[i]:=by simp[hi]
     have ep:(Fg σ src)[i]? = some (match src[i] with | none=>none | some j=>(σ[j]?).getD none):=by
       unfold Fg;rw[zBb,es];rfl
     rw[ep] at e2;cases hj:src[i] with
     | none=>rw[hj] at e2;cases e2
     | some j =>
       rw[hj] at e2;have e2:(σ[j]?).getD none=some v:=Option.some.inj e2;have ej:σ[j]? = some (some v):=by
         cases q:σ[j]? with
         | none=>rw[q] at e2;cases e2
         | some o=>rw[q] at e2;rw[show o=some v from e2]
       have hm:(x,some j)∈NY.zip src:=by
         have:(NY.zip src)[i]? = some (x,some j):=by
           rw[List.getElem?_zip_eq_some];exact⟨e1,by rw[es,hj]⟩
         exact zB4 this
       have q:=S _ hm;simp only[zB9,zBp] at q;obtain⟨qN,qf⟩:=q;have H:=hfree _ (PySem.mem_of_lookup qf) rfl;obtain⟨m,hn,hl⟩:=I3.loc;obtain⟨u,r,l⟩:=hl j x v qN ej (H.elim (λ z=>.inr (.inl z)) λ z=>.inr (.inr z));refine⟨u,r,.inr ⟨qg6 qf,?_⟩⟩;rcases l with⟨z,_⟩ | ⟨_,c,ec,o,F,M⟩
       . have H:X.env.kindOf x=some .cell∨X.env.kindOf x=some .free:=H
         rw[z] at H;rcases H with H | H<;>cases H
       obtain⟨c',a7⟩:=qu4 (qL7 (env:=X.env) sc.names [] x (PySem.mem_of_lookup qf))
       have:=clsub x c' a7
       rw[ec] at this;cases this;exact⟨c,a7,o,B c o F,M⟩
   obtain⟨v,o,F,M⟩:=I3.cell x c (clsub x c e);exact⟨v,o,B c o F,M⟩
 have st₁:tn 0 h₁:=T.keep _ _ _ I λ b f o e=>B b o (a3 b o e)
 have stat:∀{H':Hp},(∀ b∈fp,H' b=none)->∀ b∈fp,Hm Y [] H' b:=λ hn b f=>by
   refine⟨hn b f,a2 b f,a5 b f,.inl f,λ x c e=>(f2 b f).2.2.2.2.1 x c (clsub x c e),λ p hp=>absurd (show p∈([]:List (γ×Obj)) from hp) (by simp)⟩
 have loop:codeAny (model X.prog X.w) X.A (.compLoop (.ListComp elt [⟨tg,iter,ifs,0⟩] sc pos) 0 (.ref it) (.ref D) Y.env) (RR (.ref D) C) { s2 with heap:=h₁,toks:=s2.toks+0 }:=by
   obtain⟨W,⟨m0,w0⟩,turn⟩:=rd D hD;refine qm2 (λ n s'=>∃ i σ' H',M4 Y [] σ' H' s'/\tn i s'.heap/\(∀ b∈fp,H' b=none)/\W i n σ' H') ?_ m0 ⟨0,_,_,IY,st₁,λ b f=>by rw[qb4 (b1 b f)];exact(f2 b f).1,w0⟩;rintro n s3 ⟨i,σ3,H3,J3,a8,a9,w3⟩;rcases turn i n σ3 H3 w3 with⟨stop,qn⟩ | ⟨go,N,hN,step⟩
   . refine thn (T.done Y rfl rfl rfl hc i [] s3 σ3 H3 _ J3 (stat a9) a8 stop) λ r s4 k=>?_
     obtain⟨hr,J4⟩:=k;subst hr;have b3:H3 C=none:=J4.free;refine fin D C H3 s4 ?_ qn b3 b2 (Ne.symm a1) b0 pinC a4 (let ⟨m,hn,_⟩:=J4.loc;⟨m,hn⟩);refine I2.call' (ch:=fp) J4.os ?_ J4.hok J4.bare λ b f=>?_
     . have u1:Un (frs X.stack) fp H2 (upd H2 D (.l [])) s2.heap h3:=Un.laid a3 (zC4 t) hD
       exact u1.trans J4.base
     obtain⟨_,h1,_,b4,h4,h5⟩:=f2 b f;exact⟨b4,h1,h4,h5⟩
   refine thn (T.item Y rfl rfl rfl hc i [] s3 σ3 H3 _ J3 (stat a9) a8 go) λ r s4 k=>?_
   obtain⟨u,hr,h4⟩:=k;subst hr;refine thn h4 λ _ s5 k=>?_
   obtain⟨x,H5,J5,r5,y5,L,b5⟩:=k;have J5':=J5.pinned (stat b5) (T.obj _ _ L);have again:∀{σ7:St}{H7:Hp}{O:Sh},M4 Y ([]++qX3 fp s5.heap) σ7 H7 O->N σ7 H7->∃ m,m < n/\∃ i σ' H',M4 Y [] σ' H' O/\tn i O.heap/\(∀ b∈fp,H' b=none)/\W i m σ' H':=λ{σ7 H7 O} I7 n7=>by
     obtain⟨m',hm,w7⟩:=hN σ7 H7 n7;refine⟨m',hm,i+1,σ7,H7,I7.unpinned,T.keep _ _ _ L λ b f o e=>(I7.pin (b,o) (zAw _ (zAw _ (qm8 f e)))).1,λ b f=>?_,w7⟩;obtain⟨o,e,d⟩:=T.obj _ _ L b f;exact(I7.pin (b,o) (zAw _ (zAw _ (qm8 f e)))).2.1
   refine thn (hg C _ _ _ s5 σ3 H5 x u _ J5' r5 (step x H5 y5)) λ _ s6 k=>?_
   obtain⟨σ6,H6,J6,q6⟩:=k;refine thn (hf C _ _ _ s6 σ6 H6 _ J6 q6) λ ok O k=>?_
   obtain⟨H7,J7,q7⟩:=k;cases ok with
   | false=>exact again J7 (by simpa using q7)
   | true =>
     rw[if_pos rfl] at q7 ⊢;refine thn (he C _ _ _ O σ6 H7 _ J7 q7) λ y s8 k=>?_
     obtain⟨v,H8,J8,r8,xs,b6,b7,q8⟩:=k;refine thn (qd9 (X:=Y) _ s8 σ6 H8 (.ref D) [v] (.ref D) [y] (λ _ H'=>N σ6 H') J8 rfl (.cons r8 .nil) ⟨D,xs,v,rfl,rfl,b6,b7,q8⟩) λ _ s9 k=>?_
     obtain⟨_,H9,J9,_,q9⟩:=k;exact again J9 q9
 exact codeAny_compStart_list loop (T.self _ 0 _ _ _ st₁ loop)
end
def Gf(wi:TI)(src:List (Option Nat))(g:TG)(tf:TT)(te:TE):TE:=λ σ H Q=>wi σ H λ J H1=>∀ D,H1 D=none->qD0 J g tf te D (λ H'=>Q (.ref D) H') (Fg σ src) (upd H1 D (.l []))
section
variable{X:Cx}{elt tg iter:Expr}{ifs:List Expr}{sc:Scope}{pos:Pos}{NY:List Str}{src:List (Option Nat)}{wi:TI}{g:TG}{tf:TT}{te:TE}
theorem qG0(b:qv5 X NY src sc=true):sc.kind=.function/\(∀ y∈sc.names,y.2=.local->sc.names.lookup y.1=some .local)/\(∀ y∈sc.names,y.2=.free->(X.env.kindOf y.1=some .cell∨X.env.kindOf y.1=some .free)):=by
 unfold qv5 at b;simp only[zB9,zBp,zBx] at b;obtain⟨⟨⟨hkind,d⟩,a⟩,f⟩:=b;refine⟨hkind,λ y c e=>?_,λ y c e=>?_⟩
 . have:=(a y c).1.2
   rw[e] at this;simpa using this
 have:=(a y c).2
 rw[e] at this;show X.env.scope.names.lookup y.1=some .cell∨X.env.scope.names.lookup y.1=some .free;simpa using this
theorem qE1(NY:List Str)(src:List (Option Nat))(hi:PI X tg iter wi)(n:∀ C a H0 ex,PG (qh7 X NY sc C a H0 ex) tg g)(p:∀ C a H0 ex,PFs (qh7 X NY sc C a H0 ex) ifs tf)(r:∀ C a H0 ex,PE (qh7 X NY sc C a H0 ex) elt te)(t:X.calm=true:=by rfl)(l:qv5 X NY src sc=true:=by rfl)(u:∀ x,Lu iter X.env x=pure x:=by intro _;rfl):PE X (.ListComp elt [⟨tg,iter,ifs,0⟩] sc pos) (Gf wi src g tf te):=by
 intro Fb s σ H Q I h;obtain⟨hkind,hnames,hfree⟩:=qG0 l;rw[eval_ListComp];refine wpAny_comprehension_free (use:=none) rfl u (qG1 λ x y e=>I.ok.has x.1 (hfree x y e)) hkind hnames ?_;refine thn (hi Fb s σ H _ I h) λ v O c=>thn c λ z P d=>?_
 obtain⟨B,f,S,J,H2,rfl,I2,T,i,f2,E⟩:=d;refine qQ2 (R:=λ D H'=>Q (.ref D) H') (RR:=λ j C=>compPost (model X.prog X.w) X.A X.xe none (EP X Fb σ Q) j C) l t I2 T i f2 (λ C a H0=>n C a H0 f) (λ C a H0=>p C a H0 f) (λ C a H0=>r C a H0 f) E ?_;intro D C H' F I' q G c d K L U ⟨m,M⟩;refine⟨m,M,λ V k=>⟨.ref D,H',?_,rfl,q⟩⟩;exact I'.turned (t':=F.toks) (it:=C) (λ b o N e=>k.extBut b o N e) G d (.inr c) K L
theorem qaE3(i:Nat){px spos:Pos}(NY:List Str)(src:List (Option Nat))(L:X.N.Nodup)(hi:PI X tg iter wi)(M:∀ C a H0 ex,PG (qh7 X NY sc C a H0 ex) tg g)(O:∀ C a H0 ex,PFs (qh7 X NY sc C a H0 ex) ifs tf)(P:∀ C a H0 ex,PE (qh7 X NY sc C a H0 ex) elt te)(k:X.N[i]? = some x:=by rfl)(l:Loc X.env.scope x:=by first | exact Or.inl rfl | exact Or.inr rfl)(S:X.calm=true:=by rfl)(F:qv5 X NY src sc=true:=by rfl)(n:swapsWith (.ListComp elt [⟨tg,iter,ifs,0⟩] sc pos) (some (.Name x px)) spos.line X.env=pure true:=by rfl)(U:∀ x,Lu iter X.env x=pure x:=by intro _;rfl)(r:X.fn x=true∨X.env.scope.names.lookup x=some .local:=by first | exact .inl rfl | exact .inr rfl | assumption):PS X (.Assign [.Name x px] (.ListComp elt [⟨tg,iter,ifs,0⟩] sc pos) spos) (Js (Gf wi src g tf te) (Gr i)):=by
 intro Fb s σ H D I h;obtain⟨hkind,hnames,hfree⟩:=qG0 F;rw[exec_Assign_Name_used _ _ _ _ n];refine G' (wpAny_standAt (G' ?_));show wpAny _ _ (do let _ <- comprehension (.ListComp elt [⟨tg,iter,ifs,0⟩] sc pos) sc X.env _ (newList []) false (eval iter X.env) (some (assign (.Name x px) X.env))) _ _ s;refine G' (L9 (wpAny_comprehension_free (use:=some (assign (.Name x px) X.env)) (Q:=λ _ c=>SP X Fb D .next c) rfl U (qG1 λ x l e=>I.ok.has x.1 (hfree x l e)) hkind hnames ?_) (λ _ c V=>J' (J' V)) λ _ _ e=>e);refine thn (hi Fb s σ H _ I h) λ v s1 t=>thn t λ W s2 j=>?_
 obtain⟨Y,u,tn,J,H2,rfl,I2,T,y,f2,Z⟩:=j;refine qQ2 (R:=λ D' H'=>Gr i (.ref D') σ H' D.nx) (RR:=λ B C=>compPost (model X.prog X.w) X.A X.xe (some (assign (.Name x px) X.env)) (λ _ c=>SP X Fb D .next c) B C) F S I2 T y f2 (λ C a H0=>M C a H0 u) (λ C a H0=>O C a H0 u) (λ C a H0=>P C a H0 u) Z ?_;intro D' C H' c I' q G t j h3 h4 h5 ⟨m,hn⟩;obtain⟨o,es,ep,ho,K,hr⟩:=hn;have Ip:M4 X (Fb++[(C,o)]) σ H' c:=I'.pins_of λ p hp=>(zAe.mp hp).elim (λ z=>I'.pin p (zAw _ z)) λ z=>by
   have e:p=(C,o):=by simpa using z
   subst e;exact⟨ho,G,j,h5,λ v e=>by rw[K] at e;cases e⟩
 show wpAny _ _ (assign (.Name x px) X.env (.ref D')) _ _ _;refine wpAny_assign_Name (qz4 (v:=.ref D') Ip L k l rfl (λ d I''=>?_) r);have f:d.heap.get? C=some o:=(I''.pin (C,o) (by simp)).1;refine⟨m,⟨o,es,ep,f,K,hr⟩,λ h' E=>⟨_,H',?_,q⟩⟩;exact I''.unpinned.turned (t':=d.toks) (it:=C) (λ b o hb e=>E.extBut b o hb e) G j (.inr t) h3 h4
end
theorem qQ1{K:W.Frag}{D:γ}{g:TG}{tf:TT}{te:TE}{R:Hp->Prop}{σ:St}(Pv:Nat->St->Hp->Prop)(c:Pv 0 σ H)(d:∀ i σ H,i<=xs.length->Pv i σ H->SqL K H a xs)(f:∀ i x σ H,xs[i]? = some x->Pv i σ H->g x σ H λ σ2 H2=>tf σ2 H2 λ h H3=>if h=true then te σ2 H3 λ v H4=>∃ ys,H4 D=some (.l ys)/\ys.length < Lr/\Pv (i+1) σ2 (upd H4 D (.l (ys++[v]))) else Pv (i+1) σ2 H3)(j:∀ σ H,Pv xs.length σ H->R H) :
   qD0 (Itl K a) g tf te D R σ H:=by
 refine⟨λ i m σ H=>m=xs.length - i/\i<=xs.length/\Pv i σ H,⟨xs.length,by simp,zBi _,c⟩,?_⟩;rintro i m σ H ⟨rfl,k,p⟩;have q:=d i σ H k p;by_cases b:i < xs.length
 . refine .inr ⟨⟨xs,xs[i],q,by simp[b]⟩,Pv (i+1),λ σ' H' l=>⟨xs.length - (i+1),by lia,rfl,b,l⟩,λ x H' y=>?_⟩
   obtain⟨e,y⟩:=y;subst e;exact f i x σ _ (y xs q) p
 have e:i=xs.length:=by lia
 subst e;exact .inl ⟨⟨xs,q,zA3 _⟩,j σ H p⟩
section
variable{X:Cx}
theorem sset(i:Nat){te:TE}{pos pos':Pos}(a:X.N.Nodup)(b:PE X e te)(hi:X.N[i]? = some x:=by rfl)(c:Loc X.env.scope x:=by first | exact Or.inl rfl | exact Or.inr rfl)(d:swapsWith e (some (.Name x pos')) pos.line X.env=pure false:=by rfl)(f:X.fn x=true∨X.env.scope.names.lookup x=some .local:=by first | exact .inl rfl | exact .inr rfl | assumption):PS X (.Assign [.Name x pos'] e pos) (Js te (Gr i)):=qaE0 a hi c b d f
theorem gnm(i:Nat){pos:Pos}(a:X.N.Nodup)(hi:X.N[i]? = some x:=by rfl)(b:Loc X.env.scope x:=by first | exact Or.inl rfl | exact Or.inr rfl)(c:X.fn x=true∨X.env.scope.names.lookup x=some .local:=by first | exact .inl rfl | exact .inr rfl | assumption):PG X (.Name x pos) (Gr i):=qap0 a hi b c
def CDivB(_ j:Int):Prop:=0 < j/\j < 2 ^ 200
theorem qJ8:OpR X (Mf .FloorDiv) (rI CDivB λ i j=>.int (i / j)):=opI λ i j _ _ _ _ _ a q=>by
 have c:(0:Int) < j:=a.1;have d:j < 2 ^ 200:=a.2;refine floordiv_int (by lia) (by rw[Int.fdiv_eq_ediv_of_nonneg i (by lia)];exact q) (.inl (PyProof.noPylong_of_log2 ?_));have b:j.natAbs < 2 ^ 200:=by lia
 have e:j.natAbs.log2 < 200:=(Nat.log2_lt (by lia)).mpr b;lia
theorem qaF2{j:Int}(k:Int){a b:Nat}{q pos:Pos}(c:i ^ j.toNat=k:=by decide)(d:0<=j:=by decide)(h1:j<=1000000:=by decide)(h2:i.natAbs < 2 ^ 64:=by decide):PE X (.BinOp (.Constant (.int i) a p) .Pow (.Constant (.int j) b q) pos) (tC (.int k)):=by
 intro Fb s σ H Q I h;refine(pe_op qaP9 qJ5 qJ5) Fb s σ H Q I ⟨_,_,rfl,rfl,⟨d,h1,h2⟩,?_⟩;show Q (.int (i ^ j.toNat)) H;rw[c];exact h
theorem qaQ2:OpR X (Ls .Is) (λ x y H Q=>∃ b c,x=.bl b/\y=.bl c/\Q (.bl (b == c)) H):=by
 intro Fb s σ H x y v u Q I a d h;obtain⟨b,c,rfl,rfl,q⟩:=h;cases a;cases d;exact is_bool ⟨.bl _,H,I,rfl,q⟩
def B9(H:Hp):V->Option String
 | .non=>some "NoneType" | .bl _=>some "bool" | .int _=>some "int" | .str _=>some "str"
 | .ref a=>match H a with
   | some (.l _)=>some "list" | some (.q _)=>some "tuple" | some (.dK _)=>some "dict" | some (.frz _ (.l _))=>some "list"
   | _=>none
 | _=>none
noncomputable def Ht(t n:String):Bool:=t == n||(t == "bool" && n == "int")
theorem qaJ2(K:W.Frag){t n:String}(a:t∈["NoneType", "bool", "int", "str", "list", "tuple", "dict"])(b:n∈["bool", "int", "str", "list", "tuple", "dict"]):W.kitOne K (.type t) (.type n)=some (Ht t n):=by
 simp only[zAm,zBs,or_false] at a b;rcases a with rfl | rfl | rfl | rfl | rfl | rfl | rfl<;>rcases b with rfl | rfl | rfl | rfl | rfl | rfl<;>rfl
theorem qaa2{K:W.Frag}{x:V}{t:String}(h:B9 H x=some t):Gb K H x (.type t)/\t∈["NoneType", "bool", "int", "str", "list", "tuple", "dict"]:=by
 cases x with
 | non=>cases h;exact⟨.non,by decide⟩
 | bl b=>cases h;exact⟨.bl b,by decide⟩
 | int b=>cases h;exact⟨.int b,by decide⟩
 | str b=>cases h;exact⟨.str b,by decide⟩
 | byt b=>cases h
 | flt b=>cases h
 | ty b=>cases h
 | ref a =>
   unfold B9 at h;dsimp only at h;split at h
   . cases h;exact⟨.l (by assumption),by decide⟩
   . cases h;exact⟨.q (by assumption),by decide⟩
   . cases h;exact⟨.dK (by assumption),by decide⟩
   . cases h;exact⟨.frz (by assumption),by decide⟩
   cases h
def rIsi:List V->Hp->VK->Prop:=λ xs H Q=>∃ x n t,xs=[x,.ty n]/\B9 H x=some t/\n∈["bool", "int", "str", "list", "tuple", "dict"]/\Q (.bl (Ht t n)) H
theorem qg2:CallR X (.builtin "isinstance") rIsi:=by
 intro Fb s σ H i j Q I r h;obtain⟨x,n,t,rfl,b,c,q⟩:=h;obtain⟨u,k,rfl,d,a⟩:=Hr r;cases a;obtain⟨e,f⟩:=qaa2 (K:=X.K) b;exact qB9 I d e (qaJ2 X.K f c) λ g=>⟨.bl _,H,I.tok g,rfl,q⟩
theorem qaG0(n:String){pos:Pos}(hm:X.mg x=none)(a:Gl X x:=by rfl)(b:Lw x=some (.type n):=by rfl)(c:x ≠ "__name__" := by decide)(d:N' x:=by decide):PE X (.Name x pos) (tC (.ty n)):=qaG1 a hm b rfl c d
theorem qaF6{n:Int}{t:Tok}{pos:Pos}(hm:X.mg x=some (.int n t))(a:Gl X x:=by rfl)(b:N' x:=by decide):PE X (.Name x pos) (tC (.int n)):=qX5 a hm ⟨t,rfl⟩ b
theorem cbi{id:String}{r:List V->Hp->VK->Prop}{pos:Pos}(c:CallR X (.builtin id) r)(hm:X.mg x=none)(d:PA X (e::es) t)(f:Gl X x:=by rfl)(g:Lw x=some (.builtin id):=by rfl)(h:x ≠ "__name__" := by decide)(a:N' x:=by decide)(i:Lq (e::es) X.env=(false,eval e X.env)::Lq es X.env:=by rfl)(b:(backTo pos (Lq es X.env)).any (·.1)=false:=by rfl):PE X (.Call (.Name x p) (e::es) [] pos) (tCB r t):=qav5 c f hm g d h a i b
theorem cty{id:String}{r:List V->Hp->VK->Prop}{pos:Pos}(c:CallR X (.type id) r)(hm:X.mg x=none)(d:PA X (e::es) t)(f:Gl X x:=by rfl)(g:Lw x=some (.type id):=by rfl)(h:x ≠ "__name__" := by decide)(a:N' x:=by decide)(i:Lq (e::es) X.env=(false,eval e X.env)::Lq es X.env:=by rfl)(b:(backTo pos (Lq es X.env)).any (·.1)=false:=by rfl):PE X (.Call (.Name x p) (e::es) [] pos) (tCB r t):=qai2 c f hm g d h a i b
end
theorem ix{X:Cx}{a b:Expr}{ta tb:TE}{pos:Pos}{r:R2}(c:IxR X r)(d:PE X a ta)(e:PE X b tb)(f:qae9 b:=by exact λ _ _=>rfl):PE X (.Subscript a b pos) (tOp r ta tb):=pe_ix c d e f
def rGetL:V->V->Hp->VK->Prop:=λ o i H Q=>∃ p xs k v,o=.ref p/\i=.int k/\H p=some (.l xs)/\0<=k/\xs[k.toNat]? = some v/\Q v H
theorem qay2{X:Cx}:PGet X rGetL:=by
 intro Fb s σ H o i w y Q I c d h;obtain⟨p,z,k,v,rfl,rfl,e,f,b,q⟩:=h;cases c;obtain⟨t,rfl⟩:=d;obtain⟨a,n,r,g,A⟩:=I.l e;obtain⟨u,j,l⟩:=r.get b;have m:=(zA6.mp b).1;have B:=qK7;refine wpAny_getItem_list (items:=a.toArray) (x:=u) ⟨_,g,rfl,n,rfl⟩ f (by lia) (by simpa using j) ⟨v,H,I,l,q⟩
theorem qaU6{xs:List α}(b:0<=i)(h1:i < xs.length):∃ v,xs[i.toNat]? = some v/\atI xs i=some v:=by
 have a:i.toNat < xs.length:=by lia
 have e:(i.toNat:Int)=i:=by lia
 refine⟨xs[i.toNat],by simp[a],?_⟩
 have:=qae3 (xs:=xs) (j:=i.toNat) (v:=xs[i.toNat]) (by simp[a])
 rw[e] at this;exact this
theorem qG4{xs:List α}(a:0<=i)(h1:i < xs.length):∃ v,v∈xs/\atI xs i=some v:=by
 obtain⟨v,h,e⟩:=qaU6 a h1;exact⟨v,zB4 h,e⟩
theorem qaa0(h:H a=some (.l xs)):B9 H (.ref a)=some "list" := by
 unfold B9;dsimp only;rw[h]
theorem qax7(h:H a=some (.q xs)):B9 H (.ref a)=some "tuple" := by
 unfold B9;dsimp only;rw[h]
theorem qap8{xs:List (Key×V)}(h:H a=some (.dK xs)):B9 H (.ref a)=some "dict" := by
 unfold B9;dsimp only;rw[h]
theorem Same.new{q:γ}{u:HO}(h:H q=none):Same H (upd H q u):=λ b o e=>by rw[qb4 (qc0 e h)];exact e
structure Df(K:W.Frag)(mg:Str->Option V')(x qual:Str)(st:Stmt)(f:γ)(fd:δ)(ps:List Str):Prop where
 F:Fun K x qual st f fd
 b:Binds K fd ps []
 m:mg x=some (.ref f)
theorem dfmk{K:W.Frag}{mg:Str->Option V'}{qual:Str}{st:Stmt}{f:γ}{ps:List Str}{oc:V'}{od d:Option γ}{i:Array (Option V')}{kV b e a g:V'}(l:K.lookup f=some ⟨oc,od,.func (W.fnOf x qual (qe1 st) (qc7 st) (qa3 st) .none kV b e d a g),i⟩)(c:W.codeIn K a qual=true)(k:W.keepIn K (.ref f)=true)(m:mg x=some (.ref f))(h:∀(kV b e:V')(d:Option γ)(a g:V')(us:List V'),us.length=ps.length->bindArgs (W.fnOf x qual (qe1 st) (qc7 st) (qa3 st) .none kV b e d a g) ⟨us,[]⟩=pure (ps.zip us)) :
   Df K mg x qual st f (W.fnOf x qual (qe1 st) (qc7 st) (qa3 st) .none kV b e d a g) ps:=⟨qak3 l c k,(qak3 l c k).binds h,m⟩
theorem callD{X:Cx}{qual:Str}{st:Stmt}{f:γ}{fd:δ}{ps:List Str}{k:Nat}{sp:Sp}{pos:Pos}(D:Df X.K X.mg x qual st f fd ps)(G:Gc X.prog X.w X.K X.mg X.base CX0 k f fd ps sp)(d:Room k X.A)(g:PA X (e::es) t)(h:Gl X x:=by rfl)(a:N' x:=by decide)(i:Lq (e::es) X.env=(false,eval e X.env)::Lq es X.env:=by rfl)(c:(backTo pos (Lq es X.env)).any (·.1)=false:=by rfl):PE X (.Call (.Name x p) (e::es) [] pos) (Ki sp [] (λ _=>E0) t) :=
 qap2 G d h D.m D.F.kp D.b .nil pass0 g a i c
end L2
namespace LB
open PySem PySem.Spec PyProof.Rows
theorem qK6:typeLookup (.type "list") "keys" = pure none:=by rw[typeLookup_type,builtinLookup_eq_fast];kernel_rfl
theorem qx6:typeLookup (.type "list") "__getattr__" = pure none:=by rw[typeLookup_type,builtinLookup_eq_fast];kernel_rfl
section
variable{prog:Program}{w:World}{A:Around}{E:V'->Sh->Prop}{h:Heap}{g:Array GenState}{d:Drawn}{t:Nat}{os:OsState}{a:γ}{its:Array V'}{n:Nat}
theorem qx7{b:Tok}{Q:PySem.Fin->Sh->Prop}(c:h.get? a=some { cls:=.type "list",data:=.seq its n })(f:A.handled=none)(i:∀ h' b e,Heap.NewAttrErr h h' e (.ref a) "keys" -> E (.ref e) ⟨h',g,d,b,os⟩) :
   wpAny (model prog w) A (Builtin.«object.__getattribute__» ⟨[.ref a,.str "keys" b],[]⟩) Q E ⟨h,g,d,t,os⟩:=by
 have j:(⟨h,g,d,t,os⟩:Sh).TypeIs (.ref a) "list" := ⟨_,c,rfl⟩
 have k:=qK6
 repeat (any_goals (first | assumption | wp_step))
 refine wpAny_raiseAttrError f ?_ (attrMsg_fits (by decide +kernel) (by decide +kernel));exact i
theorem qB7{Q:Option V'->Sh->Prop}(i:h.get? a=some { cls:=.type "list",data:=.seq its n })(k:A.handled=none)(l:∀ h' f,(∀ b o,h.get? b=some o->h'.get? b=some o)->Q none ⟨h',g,d,f,os⟩) :
   wpAny (model prog w) A (getAttr? (.ref a) "keys") Q E ⟨h,g,d,t,os⟩:=by
 have j:∀ f,(⟨h,g,d,f,os⟩:Sh).TypeIs (.ref a) "list" := λ _=>⟨_,i,rfl⟩
 have m:=j t;have f1:=sub_AttributeError;have f2:=F.slot_list_getattribute.lookup;have f3:=F.slot_list_getattribute.bind (.ref a);have p:=qx6;unfold getAttr? getAttrBy? getAttrBy
 repeat (any_goals (first | assumption | wp_step))
 refine codeAny_call_builtin F.slot_list_getattribute.plain F.entry_list_ga (F.slot_list_getattribute.check _ _ _ _ _ _ _ _ (j _) (F.args_list_getattribute_2 _ _) (qx7 i k λ h' f e c=>?_));obtain⟨q,r,s⟩:=c.there;show wpAny _ _ (getattributeRaised _ _ _ _ _ _ _) _ _ _;unfold getattributeRaised
 repeat (any_goals (first | assumption | wp_step))
 exact l _ _ c.keeps
end
theorem ql2:entryFor table "dict.update.loop" = some Builtin.«dict.update.loop»:=entryFor_of_tree (by kernel_rfl)
theorem qe4:plainId "dict.update.loop" = true:=by decide +kernel
section
variable{prog:Program}{w:World}{K:Type}[DecidableEq K]{knd:KeyKind prog w K}{A:Around}{R:Result->Sh->Prop}
theorem qal9(W:A.handled=none){I ax d:γ}{items:Array V'}(y:ax≠I)(g:d≠I)(z:ax≠d):∀(rest:List (K×V'))(i:Nat)(ix:Int)(kvs:List (K×V'))(s:Sh),
   (∀(j:Nat) a,rest[j]? = some a->∃ t key,items[i+j]? = some (.ref t)/\IsTup s.heap t #[key,a.2]/\knd.is a.1 key=true/\t≠I/\t≠d)->items.size=i+rest.length ->
   s.heap.IsListIter I ax i->s.heap.IsList ax items->s.heap.DictOf knd d kvs->kvs.length+rest.length<=Lr ->
   (∀ h' B,h'.DictOf knd d (rest.foldl (λ acc a=>stored acc a.1 a.2) kvs)->(∀ b o,b≠I->b≠d->s.heap.get? b=some o->h'.get? b=some o)->R (.ok (.ret .none)) { s with heap:=h',toks:=B }) ->
   codeAny (model prog w) A (.builtin "dict.update.loop" ⟨[.ref d,.ref I,rawInt ix,.none],[]⟩) R s:=by
 intro rest
 induction rest with
 | nil =>
   intro i ix kvs s C f h v D P E;refine codeAny_builtin ql2 ?_;rw[Around.under_plainId qe4 _];show wpAny _ A.in1 (pyNext (.ref I) >>= _) _ _ s;refine G' (wpAny_pyNext_list_end W h v (by simp at f;simp[f]) λ h' Q=>?_);show wpAny _ _ (Builtin.Dict.addKeywords d [] >>= _) _ _ _;refine G' (J' (J' ?_));have k:h'.DictOf knd d kvs:=by
     obtain⟨o,F,G,l,r⟩:=D;exact⟨o,F,G,Q d o g l,r⟩
   exact E h' s.toks k λ b o x _ e=>Q b o x e
 | cons a rest X =>
   intro i ix kvs s C f h v D P E;obtain⟨t,key,Y,Z,h3,h4,h5⟩:=C 0 a rfl;refine codeAny_builtin ql2 ?_;rw[Around.under_plainId qe4 _];show wpAny _ A.in1 (pyNext (.ref I) >>= _) _ _ s;refine G' (wpAny_pyNext_list_item h v Y λ h' m p=>?_);have H:IsTup h' t #[key,a.2]:=Z.extBut p.extBut h4;obtain⟨o,l,J,n,L⟩:=H;refine G' (Lv ?_);refine G' (wpAny_tryCatch ?_);unfold Builtin.Dict.pairItems;refine G' (wpAny_typeOf (T := "tuple") ⟨o,l,J⟩ ?_);rw[if_pos (by decide)];refine G' (wpAny_seqItems l L (J' ?_));dsimp only[Option.getD];have k:h'.DictOf knd d kvs:=by
     obtain⟨o,F,G,l,r⟩:=D;exact⟨o,F,G,p.extBut d o g l,r⟩
   simp only[zAg] at P f;show wpAny _ _ (holding [key,a.2] (dictSet d key a.2)) _ _ _;refine Lv (wpAny_dictSet_pairs (hsz:=by lia) h3 k λ a0 q c=>?_);refine J' ⟨plainId_quiet qe4 _,?_⟩;have S:(stored kvs a.1 a.2).length<=kvs.length+1:=by
     unfold stored;split
     . rw[zA8];lia
     rw[zAd];simp
   refine X (i+1) (ix+1) (stored kvs a.1 a.2) _ (λ j M hj=>?_) (by lia) ?_ ?_ q (by lia) λ N B O k3=>?_
   . obtain⟨t',key',g1,g2,g3,U,V⟩:=C (j+1) M hj
     exact⟨t',key',by rw[show i+1+j=i+(j+1) by lia];exact g1,(g2.extBut p.extBut U).extBut c.extBut V,g3,U,V⟩
   . exact m.at λ o e=>c.extBut I o (Ne.symm g) e
   . exact(v.at λ o e=>p.extBut ax o y e).at λ o e=>c.extBut ax o z e
   exact E N B O λ b o x u e=>k3 b o x u (c.extBut b o u (p.extBut b o x e))
end
end LB
namespace L2
open PySem PySem.Spec PyProof.Rows
section
variable{X:Cx}
theorem KV.fold:∀{more:List (Key×V)}{a:List (Key×V')}{kvs:List (Key×V)}{vs:List (Key×V')},KV more a->KV kvs vs->KV (qx3 kvs more) (a.foldl (λ acc b=>stored acc b.1 b.2) vs):=by
 intro more a kvs vs r;unfold KV at r
 induction r generalizing kvs vs with
 | nil=>intro q;exact q
 | @cons p q _ _ h _ ih =>
   intro c;show KV (qx3 (putK kvs p.1 p.2) _) (List.foldl _ (stored vs q.1 q.2) _);refine ih ?_;rw[<- h.1];exact c.put p.1 h.2
def qar7(H:Hp)(ys:List V)(kvs:List (Key×V)):Prop:=Paired (λ y (a:Key×V)=>∃ t,y=.ref t/\H t=some (.q [kV a.1,a.2])) ys kvs
def qaD3:List V->Hp->VK->Prop:=λ xs H Q=>∃ a ys kvs,xs=[.ref a]/\H a=some (.l ys)/\qar7 H ys kvs/\∀ p,H p=none->Q (.ref p) (upd H p (.dK (qx3 [] kvs)))
theorem qG3(hc:X.calm=true):CallR X (.type "dict") qaD3:=by
 intro Fb s σ H xs us Q I r h;obtain⟨a,ys,g,rfl,ha,N,q⟩:=h;obtain⟨u,rfl,ru⟩:=Bo r;cases ru;have hh:=I.ok.hd hc;obtain⟨z,f,n,rv,O,e⟩:=I.lstM ha;obtain⟨x,J,P⟩:∃ x:List (Key×V'),KV g x/\∀(j:Nat) k,x[j]? = some k->∃ t i,f[j]? = some (.ref t)/\IsTup s.heap t #[i,k.2]/\(qf4 X.prog X.w).is k.1 i=true:=by
   clear q e O n ha z
   induction N generalizing f with
   | nil=>exact⟨[],.nil,λ j k C=>by simp at C⟩
   | @cons y k ys g hy _ ih =>
     cases rv with
     | @cons _ u _ us' hu hr =>
       obtain⟨t,rfl,ht⟩:=hy;cases hu;obtain⟨_,its',rt,o,p,R,n,S⟩:=I.hok t _ ht;obtain⟨i,U,rfl,r1,r2⟩:=rt.two;obtain⟨x,J,P⟩:=ih _ hr;refine⟨(k.1,U)::x,.cons ⟨rfl,r2⟩ J,λ j V C=>?_⟩;cases j with
       | zero=>cases C;exact⟨t,i,rfl,⟨o,p,R,n,S⟩,Km r1⟩
       | succ j=>exact P j V C
 have D:x.length=f.length:=by rw[<- O,<- Paired.length J,<- Paired.length N]
 have big:=I.big;obtain⟨c,gn,dr,W,Y⟩:=s;refine callType_codes (Q₁:=λ E s₁=>E=.ref c.objs.size/\s₁={ heap:=c.push { cls:=.type "dict",data:=.dict #[] },gens:=gn,drawn:=dr,toks:=W,os:=Y }) F.kt_called_dict (F.kt_typeCall_dict_1 _) F.entry_dict_init (kt_code_dict_new _ ⟨rfl,rfl⟩) ?_;rintro E s₁ ⟨rfl,rfl⟩;have l:(c.push { cls:=.type "dict",data:=.dict #[] }).DictOf (qf4 X.prog X.w) c.objs.size []:=Heap.DictOf.new c;have Z:(c.push { cls:=.type "dict",data:=.dict #[] }).get? a=some { cls:=.type "list",data:=.seq f.toArray n }:=zA2 _ e;have G:a < c.objs.size:=zA7 e;refine⟨l.typeIs,F.args_dict_init_2 _ _,?_⟩;unfold Builtin.«dict.__init__»;refine G' ?_;unfold Builtin.Dict.selfAndRest;refine G' (wpAny_notOrdered_dict l.typeIs ?_);show wpAny _ _ (pure (c.objs.size,[Value.ref a])) _ _ _;refine J' ?_;show wpAny _ _ (Builtin.Dict.updateFrom "dict.__init__" c.objs.size (.ref a) [] .none) _ _ _;unfold Builtin.Dict.updateFrom;refine G' (wpAny_typeOf (T := "list") ⟨_,Z,rfl⟩ ?_);rw[if_pos (by decide)];refine G' (LB.qB7 Z hh λ B a2 K=>?_);rw[if_pos (by rfl)];have e1:B.get? a=some { cls:=.type "list",data:=.seq f.toArray n }:=K _ _ Z;have d1:B.DictOf (qf4 X.prog X.w) c.objs.size []:=by
   obtain⟨o,L,M,p,r⟩:=l;exact⟨o,L,M,K _ _ p,r⟩
 refine G' (Ma ?_);have hlist:B.IsList a f.toArray:=⟨_,e1,rfl,n,rfl⟩
 refine G' (wpAny_pyIter_list hlist ?_);have v:c.objs.size < B.objs.size:=by
   obtain⟨o,L,M,p,r⟩:=d1;exact zA7 p
 refine J' ⟨plainId_quiet LB.qe4 _,?_⟩;refine LB.qal9 (knd:=qf4 X.prog X.w) (A:=X.A.in1) hh (I:=B.objs.size) (ax:=a) (d:=c.objs.size) (items:=f.toArray) (zAl (Nat.lt_trans G v)) (zAl v) (zAl G) x 0 0 [] _ (λ j k C=>?_) (by simp[D]) ?_ ?_ ?_ ?_ λ h2 a0 d2 k2=>?_
 . obtain⟨t,i,g1,g2,g3⟩:=P j k C
   obtain⟨o,p,r⟩:=g2;have m:=zA7 p;exact⟨t,i,by simpa using g1,⟨o,zA2 _ (K _ _ (zA2 _ p)),r⟩,g3,zAl (Nat.lt_trans m v),zAl m⟩
 . exact⟨_,zAz _ rfl,rfl,rfl⟩
 . exact⟨_,zA2 _ e1,rfl,n,rfl⟩
 . obtain⟨o,L,M,p,r⟩:=d1
   exact⟨o,L,M,zA2 _ p,r⟩
 . simp only[zBn,zAr];rw[D,<- O];exact z
 refine⟨rfl,?_⟩;have hf:H c.objs.size=none:=I.hok.fresh (zA3 _);have keep:∀ b o,c.get? b=some o->h2.get? b=some o:=λ b o eb=>by
   have m:=zA7 eb;exact k2 b o (zAl (Nat.lt_trans m v)) (zAl m) (zA2 _ (K _ _ (zA2 _ eb)))
 have rm:KV (qx3 [] g) (x.foldl (λ a1 k=>stored a1 k.1 k.2) []):=KV.fold J .nil;have hz:(qx3 [] g).length<=Lr:=by
   have B:=qq5 g [];have h2:=Paired.length N;simp only[zBn] at B;lia
 refine⟨.ref c.objs.size,_,I.laid (t':=a0) (o:=.dK (qx3 [] g)) keep (zA3 _) ?_,rfl,q _ hf⟩;exact⟨hz,zBu.mpr (Ne.symm (zAl big)),_,rm,d2⟩
end
section
variable{X:Cx}
theorem qQ5(w:X.calm=true):CallR X (.builtin "all") (λ xs H Q=>∃(a:γ)(c:List Bool),xs=[.ref a]/\SqL X.K H a (c.map V.bl)/\Q (.bl (c.all id)) H):=by
 intro Fb s σ H xs F Q I r h;obtain⟨a,c,rfl,y,q⟩:=h;obtain⟨u,rfl,l⟩:=Bo r;cases l;have z:=I.ok.hd w;obtain⟨f,m,n,G⟩:=I.list y;refine call_all_walk (wpAny_pyIter_list n.isList ?_);have p:a < s.heap.objs.size:=let ⟨o,ho,_⟩:=n.isList;zA7 ho
 refine⟨s.heap.objs.size,_,_,_,_,_,λ i=>c.getD i false,rfl,Walks.list (A:=X.A.in1) z _ a (zAl p) f.toArray,⟨⟨_,zAz _ rfl,rfl,rfl⟩,?_⟩,?_,?_⟩
 . exact n.isList.at λ o e=>zA2 _ e
 . intro i v B Q1 E1 g j
   have g:f[i]? = some v:=by simpa using g
   have d:i < c.length:=by
     have J:=(zA6.mp g).1;have k:=m.length;rw[zA8] at k;lia
   obtain⟨u,t,l⟩:=m.get (i:=i) (x:=.bl c[i]) (by simp[d]);rw[g] at t;cases t;cases l;refine Lx ?_;have e:c.getD i false=c[i]:=by simp[List.getD,d]
   have j:Q1 (c.getD i false) B:=j;rw[e] at j;exact j
 intro L C D;have e:(List.range f.toArray.size).all (λ i=>c.getD i false)=c.all id:=by
   have k:=m.length;rw[zA8] at k;rw[zA4,<- k];rw[Bool.eq_iff_iff];simp only[zBx,zAp,id_eq];constructor
   . intro h b E
     obtain⟨i,d,rfl⟩:=List.mem_iff_getElem.mp E
     have:=h i d
     simpa[List.getD,d] using this
   intro h i d
   have:=h c[i] (List.getElem_mem d)
   simpa[List.getD,d] using this
 rw[e];refine⟨.bl _,H,?_,rfl,q⟩;exact I.kept (t':=C) λ b o e=>D b o (by simp;exact zAl (zA7 e)) (zA2 _ e)
noncomputable def qk0(ns:List Int):Nat:=(firstMet (λ i=>ns.getD i 0) ns.length).length
def rSetI(K:W.Frag):List V->Hp->VK->Prop:=λ xs H Q=>∃(a:γ)(ns:List Int),xs=[.ref a]/\SqL K H a (ns.map V.int)/\ns.length<=1000/\∀ p S,H p=none->Q (.ref p) (upd H p (.set S (qk0 ns)))
theorem qam4(k:X.calm=true):CallR X (.type "set") (rSetI X.K):=by
 intro Fb s σ H x y Q I r h;obtain⟨a,f,rfl,l,z,q⟩:=h;obtain⟨u,rfl,m⟩:=Bo r;cases m;have n:=I.ok.hd k;obtain⟨c,i,p,A⟩:=I.list l;have d:c.length=f.length:=by
   have:=i.length
   rw[zA8] at this;exact this.symm
 have t:IntsAre c f:=qu8 i;refine call_set_list (items:=c.toArray) n p.isList (by simpa using t) (by rw[zA4,d];show f.length+1 < 4096;lia) λ B v j w=>?_
 have g:c.toArray.size=f.length:=by rw[zA4,d]
 rw[g] at j;refine⟨.ref s.heap.objs.size,_,I.laid (t':=v) (o:=.set _ (qk0 f)) (λ b o e=>w b o (zA7 e) e) (zA3 _) j,rfl,q _ _ (I.hok.fresh (zA3 _))⟩
theorem qam6:CallR X (.builtin "len") (λ xs H Q=>∃(a:γ)(S:Int->Bool)(n:Nat),xs=[.ref a]/\H a=some (.set S n)/\Q (.int n) H):=by
 intro Fb s σ H xs l Q I r h;obtain⟨a,S,n,rfl,d,q⟩:=h;obtain⟨u,rfl,e⟩:=Bo r;cases e;obtain⟨o,f,m,t,g,b,i,_,_,c,j,k⟩:=I.hok a _ d;subst k;have c:f.size < 4096:=c;exact call_len_set g b i j (by lia) ⟨.int _,H,I.tok _,⟨_,rfl⟩,q⟩
end
theorem qL3(ns:List Int):qk0 ns=ns.length↔ns.Nodup:=by
 have f:∀ i,i<=ns.length->(∀ k,k∈firstMet (λ i=>ns.getD i 0) i↔k∈ns.take i)/\((firstMet (λ i=>ns.getD i 0) i).length=i↔(ns.take i).Nodup):=by
   intro i
   induction i with
   | zero=>intro _;rw[firstMet_zero];simp
   | succ i m =>
     intro r;obtain⟨c,l⟩:=m (by lia);have n:=firstMet_length_le (λ i=>ns.getD i 0) i;have b:i < ns.length:=by lia
     have o:ns.take (i+1)=ns.take i++[ns[i]]:=by rw[List.take_add_one];simp[b]
     have p:ns.getD i 0=ns[i]:=by simp[List.getD,b]
     rw[firstMet_succ,o,p];unfold step_dedup;by_cases d:ns[i]∈firstMet (λ i=>ns.getD i 0) i
     . have a:ns[i]∈ns.take i:=(c _).mp d
       have g:(firstMet (λ i=>ns.getD i 0) i).any (· == ns[i])=true:=List.any_eq_true.mpr ⟨_,d,by simp⟩;rw[if_pos g];refine⟨λ k=>?_,?_⟩
       . rw[c];simp only[zAe,zAj]
         exact⟨.inl,λ h=>h.elim id λ e=>by rw[e];exact a⟩
       constructor
       . intro h;lia
       intro h;rw[zBt] at h;exact absurd rfl (h.2.2 _ a _ (zAj.mpr rfl))
     have a:¬ ns[i]∈ns.take i:=λ h=>d ((c _).mpr h)
     have g:¬ (firstMet (λ i=>ns.getD i 0) i).any (· == ns[i])=true:=λ h=>by
       obtain⟨x,j,e⟩:=List.any_eq_true.mp h;exact d (by rw[<- (zBp.mp e)];exact j)
     rw[if_neg g];refine⟨λ k=>?_,?_⟩
     . simp only[zAe,zAj]
       rw[c]
     rw[zAd,zBt];simp only[List.length_singleton];constructor
     . intro h
       refine⟨l.mp (by lia),by simp,λ x j y q=>?_⟩;rw[zAj.mp q];exact λ e=>a (e ▸ j)
     intro h
     have:=l.mpr h.1
     lia
 have:=(f ns.length (zA3 _)).2
 rw[zAs (zA3 _)] at this;exact this
end L2
namespace LD
open PySem PySem.SeqAt MeetsSeq
open AutoSeq1 (wpAny_loadPart')
variable{b l:γ}{dd:Option γ}{n:Nat}{sl:Array (Option V')}
theorem qaz2(l b:γ)(es:Array DictEntry)(items2:Array V')(n e:Nat)(dd a:Option γ)(sl c:Array (Option V')) :
   Meets (Builtin.«dict.__eq__» ⟨[.ref l,.ref b],[]⟩) (λ _ R s=>s.heap.get? l=some { cls:=.type "dict",dict:=dd,data:=.dict es n,slots:=sl }/\s.heap.get? b=some { cls:=.type "tuple",dict:=a,data:=.seq items2 e,slots:=c }/\R (.ok (.ret .notImplemented)) s) :=
 .of_wp λ prog w A R s h=>by obtain⟨j,g,d,k,m⟩:=s;obtain⟨f,i,h⟩:=h;have f1:=F.sub_tuple_dict;wp_walk using wpAny_loadPart' f,wpAny_loadPart' i;exact⟨_,rfl,h⟩
theorem qas0(l b:γ)(es:Array DictEntry)(items2:Array V')(n e:Nat)(dd a:Option γ)(sl c:Array (Option V')) :
   Meets (Builtin.«tuple.__eq__» ⟨[.ref b,.ref l],[]⟩) (λ _ R s=>s.heap.get? l=some { cls:=.type "dict",dict:=dd,data:=.dict es n,slots:=sl }/\s.heap.get? b=some { cls:=.type "tuple",dict:=a,data:=.seq items2 e,slots:=c }/\R (.ok (.ret .notImplemented)) s) :=
 .of_wp λ prog w A R s h=>by obtain⟨j,g,d,k,m⟩:=s;obtain⟨f,i,h⟩:=h;have f1:=F.sub_dict_tuple;wp_walk using wpAny_loadPart' f,wpAny_loadPart' i;exact⟨_,rfl,h⟩
theorem qaw8(l b:γ)(es:Array DictEntry)(items2:Array V')(n e:Nat)(dd a:Option γ)(sl c:Array (Option V')) :
   Meets (Builtin.«dict.__ne__» ⟨[.ref l,.ref b],[]⟩) (λ _ R s=>s.heap.get? l=some { cls:=.type "dict",dict:=dd,data:=.dict es n,slots:=sl }/\s.heap.get? b=some { cls:=.type "tuple",dict:=a,data:=.seq items2 e,slots:=c }/\R (.ok (.ret .notImplemented)) s) :=
 .of_wp λ prog w A R s h=>by obtain⟨j,g,d,k,m⟩:=s;obtain⟨f,i,h⟩:=h;have f1:=F.sub_tuple_dict;wp_walk using wpAny_loadPart' f,wpAny_loadPart' i;exact⟨_,rfl,h⟩
theorem qar9(l b:γ)(es:Array DictEntry)(items2:Array V')(n e:Nat)(dd a:Option γ)(sl c:Array (Option V')) :
   Meets (Builtin.«tuple.__ne__» ⟨[.ref b,.ref l],[]⟩) (λ _ R s=>s.heap.get? l=some { cls:=.type "dict",dict:=dd,data:=.dict es n,slots:=sl }/\s.heap.get? b=some { cls:=.type "tuple",dict:=a,data:=.seq items2 e,slots:=c }/\R (.ok (.ret .notImplemented)) s) :=
 .of_wp λ prog w A R s h=>by obtain⟨j,g,d,k,m⟩:=s;obtain⟨f,i,h⟩:=h;have f1:=F.sub_dict_tuple;wp_walk using wpAny_loadPart' f,wpAny_loadPart' i;exact⟨_,rfl,h⟩
theorem for0{β:Type}{m:Type->Type}[Monad m](b:β)(f:Nat->β->m (ForInStep β)):forIn [:0] b f=(pure b:m β):=by
 simp
theorem same0{M:Model}{A:Around}{E:V'->Sh->Prop}{s:Sh}{Q:Bool->Sh->Prop}{id:String}{e:Nat}{a:Option γ}{c:Array (Option V')}(h1:(l == L7)=false)(h2:(b == L7)=false)(d:s.heap.get? l=some { cls:=.type "dict",dict:=dd,data:=.dict #[] n,slots:=sl })(f:s.heap.get? b=some { cls:=.type "dict",dict:=a,data:=.dict #[] e,slots:=c })(h:Q true s):wpAny M A (Builtin.Dict.samePairs id l b) Q E s:=by
 unfold Builtin.Dict.samePairs Builtin.Dict.showsAll;rw[if_neg (by rw[h1];decide),if_neg (by rw[h2];decide)];refine G' (J' (G' (J' ?_)));refine G' (wpAny_dictEntries d rfl ?_);refine G' (wpAny_dictEntries f rfl ?_);rw[if_neg (by decide)];refine G' (wpAny_dictEpoch d rfl ?_);have g:(#[]:Array DictEntry).size=0:=rfl;simp only[g];rw[for0];exact G' (J' (J' h))
theorem qaL1(l b:γ)(n i:Nat)(dd a:Option γ)(sl c:Array (Option V'))(h1:(l == L7)=false)(h2:(b == L7)=false) :
   Meets (Builtin.«dict.__eq__» ⟨[.ref l,.ref b],[]⟩) (λ _ R s=>s.heap.get? l=some { cls:=.type "dict",dict:=dd,data:=.dict #[] n,slots:=sl }/\s.heap.get? b=some { cls:=.type "dict",dict:=a,data:=.dict #[] i,slots:=c }/\R (.ok (.ret (.bool true))) s) :=
 .of_wp λ prog w A R s h=>by
   obtain⟨j,g,d,k,m⟩:=s;obtain⟨e,f,h⟩:=h;have f1:isSubtype (.type "dict") (.type "dict")=pure true:=F.sub_dict_dict
   wp_walk using wpAny_loadPart' e,wpAny_loadPart' f,same0 h1 h2 e f
   exact⟨_,rfl,h⟩
theorem qaH7(l b:γ)(n i:Nat)(dd a:Option γ)(sl c:Array (Option V'))(h1:(l == L7)=false)(h2:(b == L7)=false) :
   Meets (Builtin.«dict.__ne__» ⟨[.ref l,.ref b],[]⟩) (λ _ R s=>s.heap.get? l=some { cls:=.type "dict",dict:=dd,data:=.dict #[] n,slots:=sl }/\s.heap.get? b=some { cls:=.type "dict",dict:=a,data:=.dict #[] i,slots:=c }/\R (.ok (.ret (.bool false))) s) :=
 .of_wp λ prog w A R s h=>by
   obtain⟨j,g,d,k,m⟩:=s;obtain⟨e,f,h⟩:=h;have f1:isSubtype (.type "dict") (.type "dict")=pure true:=F.sub_dict_dict
   wp_walk using wpAny_loadPart' e,wpAny_loadPart' f,same0 h1 h2 e f
   exact⟨_,rfl,h⟩
section
variable{A:Around}{s:Sh}
theorem qao3{f:Nat}{c:Option γ}{d:Array (Option V')}(h1:(l == L7)=false)(h2:(b == L7)=false)(e:s.heap.get? l=some { cls:=.type "dict",dict:=dd,data:=.dict #[] n,slots:=sl })(a:s.heap.get? b=some { cls:=.type "dict",dict:=c,data:=.dict #[] f,slots:=d })(g:A.units < cLine):RcAt A s (.ref l) (.ref b) true/\RcNeAt A s (.ref l) (.ref b) false :=
 ⟨λ prog w E Q h=>richCompare_meets_room (op:=.Eq) ⟨_,e,rfl⟩ ⟨_,a,rfl⟩ F.slot_dict_eq F.entry_dict_eq (F.args_dict_eq_2 _ _) (qaL1 l b n f dd c sl d h1 h2) ⟨e,a,show Value.bool true≠Value.notImplemented/\Q (.bool true) s from⟨(λ x=>nomatch x),h⟩⟩ g,
  λ prog w E Q h=>richCompare_meets_room (op:=.NotEq) ⟨_,e,rfl⟩ ⟨_,a,rfl⟩ F.slot_dict_ne F.entry_dict_ne (F.args_dict_ne_2 _ _) (qaH7 l b n f dd c sl d h1 h2) ⟨e,a,show Value.bool false≠Value.notImplemented/\Q (.bool false) s from⟨(λ x=>nomatch x),h⟩⟩ g⟩
theorem rc_dt{es:Array DictEntry}{items2:Array V'}(c:s.heap.get? l=some { cls:=.type "dict",dict:=dd,data:=.dict es n,slots:=sl })(r:s.heap.IsTuple b items2)(q:A.units < cLine):RcAt A s (.ref l) (.ref b) false/\RcNeAt A s (.ref l) (.ref b) true:=by
 obtain⟨⟨cls2,f,data2,g⟩,a,i,p,j⟩:=id r;simp only at i j;subst i j;have m:l≠b:=λ e=>by
   subst e;rw[c] at a
   have:=congrArg (λ o:Option Obj=>o.map (·.cls)) a
   simp at this
 exact⟨λ prog w E Q h=>rc_eq_decline_or (k:=false) ⟨_,c,rfl⟩ ⟨_,a,rfl⟩ (by decide) F.sub_tuple_dict F.slot_dict_eq F.slot_tuple_eq_refl
     (λ _ d=>Mc F.slot_dict_eq ⟨_,c,rfl⟩ F.entry_dict_eq (F.args_dict_eq_2 _ _) (qaz2 l b es items2 n p dd f sl g) ⟨c,a,d⟩)
     (λ _ d=>Mc F.slot_tuple_eq_refl ⟨_,a,rfl⟩ F.entry_tuple_eq (F.args_tuple_eq_2 _ _) (qas0 l b es items2 n p dd f sl g) ⟨c,a,d⟩)
     (λ _ d=>wpAny_isSame_ref_other m c a (by simp) d) (.inr q) h,
   λ prog w E Q h=>rc_ne_decline_or (k:=false) ⟨_,c,rfl⟩ ⟨_,a,rfl⟩ (by decide) F.sub_tuple_dict F.slot_dict_ne F.slot_tuple_ne_refl
     (λ _ d=>Mc F.slot_dict_ne ⟨_,c,rfl⟩ F.entry_dict_ne (F.args_dict_ne_2 _ _) (qaw8 l b es items2 n p dd f sl g) ⟨c,a,d⟩)
     (λ _ d=>Mc F.slot_tuple_ne_refl ⟨_,a,rfl⟩ F.entry_tuple_ne (F.args_tuple_ne_2 _ _) (qar9 l b es items2 n p dd f sl g) ⟨c,a,d⟩)
     (λ _ d=>wpAny_isSame_ref_other m c a (by simp) d) (.inr q) h⟩
end
end LD
namespace L2
open PySem PySem.Spec PyProof.Rows PySem.SeqAt
variable{A:Around}{a:γ}{xs:List V}
inductive EqD(H:Hp):Nat->V->V->Bool->Prop
 | flat {n:Nat} {x y:V} (hx:flatV x=true) (hy:flatV y=true):EqD H n x y (eqV x y)
 | same {n:Nat} (a:γ):EqD H n (.ref a) (.ref a) true
 | lsts {n:Nat} {a b:γ} {xs ys:List V} {e:Nat->Bool} (ne:a≠b) (ha:H a=some (.l xs)) (hb:H b=some (.l ys)) (hl:xs.length=ys.length) (he:∀ i x y,xs[i]? = some x->ys[i]? = some y->EqD H n x y (e i)):EqD H (n+1) (.ref a) (.ref b) ((List.range xs.length).all e)
 | lens {n:Nat} {a b:γ} {xs ys:List V} (ne:a≠b) (ha:H a=some (.l xs)) (hb:H b=some (.l ys)) (hl:xs.length≠ys.length):EqD H (n+1) (.ref a) (.ref b) false
 | tups {n:Nat} {a b:γ} {xs ys:List V} {e:Nat->Bool} (ne:a≠b) (ha:H a=some (.q xs)) (hb:H b=some (.q ys)) (he:∀ i x y,xs[i]? = some x->ys[i]? = some y->EqD H n x y (e i)):EqD H (n+1) (.ref a) (.ref b) ((List.range (min xs.length ys.length)).all e&&xs.length == ys.length)
 | dcts {n:Nat} {a b:γ} (ne:a≠b) (ha:H a=some (.dK [])) (hb:H b=some (.dK [])):EqD H n (.ref a) (.ref b) true
inductive RcD(H:Hp):V->V->Bool->Prop
 | flat {x y:V} (hx:flatV x=true) (hy:flatV y=true):RcD H x y (eqV x y)
 | lsts {a b:γ} {xs ys:List V} {e:Nat->Bool} (ha:H a=some (.l xs)) (hb:H b=some (.l ys)) (hl:xs.length=ys.length) (he:∀ i x y,xs[i]? = some x->ys[i]? = some y->EqD H 20 x y (e i)):RcD H (.ref a) (.ref b) ((List.range xs.length).all e)
 | lens {a b:γ} {xs ys:List V} (ha:H a=some (.l xs)) (hb:H b=some (.l ys)) (hl:xs.length≠ys.length):RcD H (.ref a) (.ref b) false
 | tups {a b:γ} {xs ys:List V} {e:Nat->Bool} (ha:H a=some (.q xs)) (hb:H b=some (.q ys)) (he:∀ i x y,xs[i]? = some x->ys[i]? = some y->EqD H 20 x y (e i)):RcD H (.ref a) (.ref b) ((List.range (min xs.length ys.length)).all e&&xs.length == ys.length)
 | lt {a b:γ} {xs ys:List V} (ha:H a=some (.l xs)) (hb:H b=some (.q ys)):RcD H (.ref a) (.ref b) false
 | tl {a b:γ} {xs ys:List V} (ha:H a=some (.q xs)) (hb:H b=some (.l ys)):RcD H (.ref a) (.ref b) false
 | lf {a:γ} {xs:List V} {y:V} (ha:H a=some (.l xs)) (hy:flatV y=true):RcD H (.ref a) y false
 | fl {a:γ} {xs:List V} {y:V} (ha:H a=some (.l xs)) (hy:flatV y=true):RcD H y (.ref a) false
 | tf {a:γ} {xs:List V} {y:V} (ha:H a=some (.q xs)) (hy:flatV y=true):RcD H (.ref a) y false
 | ft {a:γ} {xs:List V} {y:V} (ha:H a=some (.q xs)) (hy:flatV y=true):RcD H y (.ref a) false
 | dcts {a b:γ} (ha:H a=some (.dK [])) (hb:H b=some (.dK [])):RcD H (.ref a) (.ref b) true
 | dt {a b:γ} {kvs:List (Key×V)} {ys:List V} (ha:H a=some (.dK kvs)) (hb:H b=some (.q ys)):RcD H (.ref a) (.ref b) false
section
variable{X:Cx}{Fb:List (γ×Obj)}{σ:St}{H:Hp}{s:Sh}
theorem M4.lstI(I:M4 X Fb σ H s)(h:H a=some (.l xs)):∃ its:List V',Mz xs its/\s.heap.IsList a its.toArray:=by
 obtain⟨z,its,n,r,_,e⟩:=I.lstM h;exact⟨its,r,_,e,rfl,n,rfl⟩
theorem M4.tupI(I:M4 X Fb σ H s)(h:H a=some (.q xs)):∃ its:List V',Mz xs its/\s.heap.IsTuple a its.toArray:=by
 obtain⟨z,its,r,o,b,c,n,d⟩:=I.hok a _ h;exact⟨its,r,o,b,c,n,d⟩
theorem M4.dK0(I:M4 X Fb σ H s){kvs:List (Key×V)}(h:H a=some (.dK kvs)):(a == L7)=false/\∃ es n,s.heap.get? a=some { cls:=.type "dict",dict:=none,data:=.dict es n,slots:=#[] }/\(kvs=[]->es = #[]):=by
 obtain⟨_,i,p,j,o,es,k,m,⟨b,c,d⟩,f,_,g,_⟩:=I.hok a _ h;obtain⟨q,r,t,u⟩:=o;simp only at b c d f;subst b c d f;refine⟨i,es,k,m,λ e=>?_⟩;subst e;cases j;have e:es.toList=[]:=by
   generalize es.toList=l at g;cases g;rfl
 exact Array.toList_eq_nil_iff.mp e
theorem qs0(A:Around):A.in1.units<=A.units+1:=zA3 _
theorem qM2{P:V->V->Nat->Prop}{e:Nat->Bool}{ys:List V}{its its2:List V'}(r:Mz xs its)(a:Mz ys its2)(k:∀ i x y u v,xs[i]? = some x->ys[i]? = some y->Mx x u->Mx y v->EqAt A s u v (e i)) :
   ∀ j (h1:j < its.toArray.size) (h2:j < its2.toArray.size),EqAt A s its.toArray[j] its2.toArray[j] (e j):=by
 intro j h1 h2;rw[zA4] at h1 h2;have h:=r.length;have l:=a.length;obtain⟨u,b,d⟩:=r.get (i:=j) (x:=xs[j]'(by lia)) (by simp);obtain⟨v,c,f⟩:=a.get (i:=j) (x:=ys[j]'(by lia)) (by simp);have g:its.toArray[j]=u:=by
   have:its[j]? = some its[j]:=by simp[h1]
   rw[this] at b;simpa using Option.some.inj b
 have e2:its2.toArray[j]=v:=by
   have:its2[j]? = some its2[j]:=by simp[h2]
   rw[this] at c;simpa using Option.some.inj c
 rw[g,e2];exact k j _ _ u v (by simp) (by simp) d f
theorem EqD.at(I:M4 X Fb σ H s){n:Nat}{x y:V}{b:Bool}(h:EqD H n x y b):∀{A:Around}{u v:V'},Mx x u->Mx y v->A.units+n+1 < cLine->EqAt A s u v b:=by
 induction h with
 | flat w z=>intro A u v c d _;exact qaL2 c d w z
 | same a=>intro A u v c d _;cases c;cases d;exact EqAt.same _
 | @lsts n a b xs ys e ne ha hb hl he ih =>
   intro A u v c d k;cases c;cases d;obtain⟨f,r,p⟩:=I.lstI ha;obtain⟨its2,g,j⟩:=I.lstI hb;have B:f.toArray.size=its2.toArray.size:=by rw[zA4,zA4,<- r.length,<- g.length,hl]
   have q:=EqAt.of_refs ne (RcAt.lists (A:=A) p j B (by lia) (e:=e) (qM2 (P:=λ _ _ _=>True) r g λ i x y u v l e2 o t=>ih i x y l e2 o t (by have:=qs0 A;lia)));rw[zA4,<- r.length] at q;exact q
 | @lens n a b xs ys ne ha hb hl =>
   intro A u v c d k;cases c;cases d;obtain⟨f,r,p⟩:=I.lstI ha;obtain⟨its2,g,j⟩:=I.lstI hb;exact EqAt.of_refs ne (RcAt.lists_lengths p j (by rw[zA4,zA4,<- r.length,<- g.length];simpa using hl) (by lia))
 | @tups n a b xs ys e ne ha hb he ih =>
   intro A u v c d k;cases c;cases d;obtain⟨f,r,p⟩:=I.tupI ha;obtain⟨its2,g,j⟩:=I.tupI hb;have q:=EqAt.of_refs ne (RcAt.tuples (A:=A) p j (by lia) (e:=e) (qM2 (P:=λ _ _ _=>True) r g λ i x y u v l e2 o t=>ih i x y l e2 o t (by have:=qs0 A;lia)));rw[zA4,zA4,<- r.length,<- g.length] at q;exact q
 | @dcts n a b ne ha hb =>
   intro A u v c d k;cases c;cases d;obtain⟨C,L,m,D,E⟩:=I.dK0 ha;obtain⟨F,G,M,J,K⟩:=I.dK0 hb;cases E rfl;cases K rfl;exact EqAt.of_refs ne (LD.qao3 C F D J (by lia)).1
theorem RcD.at(I:M4 X Fb σ H s){x y:V}{b:Bool}(h:RcD H x y b){u v:V'}(d:Mx x u)(c:Mx y v)(Q:A.units+60 < cLine):RcAt A s u v b/\RcNeAt A s u v (!b):=by
 cases h with
 | flat J o =>
   cases x with
   | non =>
     cases d;cases y with
     | non=>cases c;exact⟨RcAt.none_none,RcNeAt.none_none⟩
     | bl b=>cases c;exact⟨RcAt.none_bool b,RcNeAt.none_bool b⟩
     | int b=>obtain⟨t,rfl⟩:=c;exact⟨RcAt.none_int b t,RcNeAt.none_int b t⟩
     | str b=>obtain⟨t,rfl⟩:=c;exact⟨RcAt.none_str b t,RcNeAt.none_str b t⟩
     | _=>exact absurd (show false=true from o) zAh
   | bl a =>
     cases d;cases y with
     | non=>cases c;exact⟨RcAt.bool_none a,RcNeAt.bool_none a⟩
     | bl b=>cases c;exact⟨RcAt.bool_bool a b,RcNeAt.bool_bool a b⟩
     | int b=>obtain⟨t,rfl⟩:=c;exact⟨RcAt.bool_int a b t,RcNeAt.bool_int a b t⟩
     | str b=>obtain⟨t,rfl⟩:=c;exact⟨RcAt.bool_str a b t,RcNeAt.bool_str a b t⟩
     | _=>exact absurd (show false=true from o) zAh
   | int a =>
     obtain⟨j,rfl⟩:=d;cases y with
     | non=>cases c;exact⟨RcAt.int_none a j,RcNeAt.int_none a j⟩
     | bl b=>cases c;exact⟨RcAt.int_bool a j b,RcNeAt.int_bool a j b⟩
     | int b=>obtain⟨t,rfl⟩:=c;exact⟨RcAt.int_int a j b t,RcNeAt.int_int a j b t⟩
     | str b=>obtain⟨t,rfl⟩:=c;exact⟨RcAt.int_str a j b t,RcNeAt.int_str a j b t⟩
     | _=>exact absurd (show false=true from o) zAh
   | str a =>
     obtain⟨j,rfl⟩:=d;cases y with
     | non=>cases c;exact⟨RcAt.str_none a j,RcNeAt.str_none a j⟩
     | bl b=>cases c;exact⟨RcAt.str_bool a j b,RcNeAt.str_bool a j b⟩
     | int b=>obtain⟨t,rfl⟩:=c;exact⟨RcAt.str_int a j b t,RcNeAt.str_int a j b t⟩
     | str b=>obtain⟨t,rfl⟩:=c;exact⟨RcAt.str_str a j b t,RcNeAt.str_str a j b t⟩
     | _=>exact absurd (show false=true from o) zAh
   | _=>exact absurd (show false=true from J) zAh
 | @lsts a b xs ys e f n hl he =>
   cases d;cases c;obtain⟨g,r,p⟩:=I.lstI f;obtain⟨its2,q,l⟩:=I.lstI n;have w:g.toArray.size=its2.toArray.size:=by rw[zA4,zA4,<- r.length,<- q.length,hl]
   have k:=qM2 (P:=λ _ _ _=>True) (e:=e) (A:=A.in1) (s:=s) r q λ i x y u v B e2 C D=>(he i x y B e2).at I C D (by have:=qs0 A;lia)
   have z:=RcAt.lists p l w (by lia) k;have q2:=RcNeAt.lists p l w (by lia) k;rw[zA4,<- r.length] at z q2;exact⟨z,q2⟩
 | @lens a b xs ys f n hl =>
   cases d;cases c;obtain⟨g,r,p⟩:=I.lstI f;obtain⟨its2,q,l⟩:=I.lstI n;have w:(g.toArray.size != its2.toArray.size)=true:=by rw[zA4,zA4,<- r.length,<- q.length];simpa using hl
   exact⟨RcAt.lists_lengths p l w (by lia),RcNeAt.lists_lengths p l w (by lia)⟩
 | @tups a b xs ys e f n he =>
   cases d;cases c;obtain⟨g,r,p⟩:=I.tupI f;obtain⟨its2,q,l⟩:=I.tupI n;have k:=qM2 (P:=λ _ _ _=>True) (e:=e) (A:=A.in1) (s:=s) r q λ i x y u v B e2 C D=>(he i x y B e2).at I C D (by have:=qs0 A;lia)
   have z:=RcAt.tuples p l (by lia) k;have q2:=RcNeAt.tuples p l (by lia) k;rw[zA4,zA4,<- r.length,<- q.length] at z q2;exact⟨z,q2⟩
 | lt f n =>
   cases d;cases c;obtain⟨g,r,p⟩:=I.lstI f;obtain⟨its2,q,l⟩:=I.tupI n;exact⟨RcAt.list_tuple p l (by lia),RcNeAt.list_tuple p l (by lia)⟩
 | tl f n =>
   cases d;cases c;obtain⟨g,r,p⟩:=I.tupI f;obtain⟨its2,q,l⟩:=I.lstI n;exact⟨RcAt.tuple_list p l (by lia),RcNeAt.tuple_list p l (by lia)⟩
 | lf f o =>
   cases d;obtain⟨g,r,p⟩:=I.lstI f;cases y with
   | non=>cases c;exact⟨RcAt.list_none p (by lia),RcNeAt.list_none p (by lia)⟩
   | bl b=>cases c;exact⟨RcAt.list_bool b p (by lia),RcNeAt.list_bool b p (by lia)⟩
   | int b=>obtain⟨t,rfl⟩:=c;exact⟨RcAt.list_int b t p (by lia),RcNeAt.list_int b t p (by lia)⟩
   | str b=>obtain⟨t,rfl⟩:=c;exact⟨RcAt.list_str b t p (by lia),RcNeAt.list_str b t p (by lia)⟩
   | _=>exact absurd (show false=true from o) zAh
 | fl f o =>
   cases c;obtain⟨g,r,p⟩:=I.lstI f;cases x with
   | non=>cases d;exact⟨RcAt.none_list p (by lia),RcNeAt.none_list p (by lia)⟩
   | bl b=>cases d;exact⟨RcAt.bool_list b p (by lia),RcNeAt.bool_list b p (by lia)⟩
   | int b=>obtain⟨t,rfl⟩:=d;exact⟨RcAt.int_list b t p (by lia),RcNeAt.int_list b t p (by lia)⟩
   | str b=>obtain⟨t,rfl⟩:=d;exact⟨RcAt.str_list b t p (by lia),RcNeAt.str_list b t p (by lia)⟩
   | _=>exact absurd (show false=true from o) zAh
 | tf f o =>
   cases d;obtain⟨g,r,p⟩:=I.tupI f;cases y with
   | non=>cases c;exact⟨RcAt.tuple_none p (by lia),RcNeAt.tuple_none p (by lia)⟩
   | bl b=>cases c;exact⟨RcAt.tuple_bool b p (by lia),RcNeAt.tuple_bool b p (by lia)⟩
   | int b=>obtain⟨t,rfl⟩:=c;exact⟨RcAt.tuple_int b t p (by lia),RcNeAt.tuple_int b t p (by lia)⟩
   | str b=>obtain⟨t,rfl⟩:=c;exact⟨RcAt.tuple_str b t p (by lia),RcNeAt.tuple_str b t p (by lia)⟩
   | _=>exact absurd (show false=true from o) zAh
 | ft f o =>
   cases c;obtain⟨g,r,p⟩:=I.tupI f;cases x with
   | non=>cases d;exact⟨RcAt.none_tuple p (by lia),RcNeAt.none_tuple p (by lia)⟩
   | bl b=>cases d;exact⟨RcAt.bool_tuple b p (by lia),RcNeAt.bool_tuple b p (by lia)⟩
   | int b=>obtain⟨t,rfl⟩:=d;exact⟨RcAt.int_tuple b t p (by lia),RcNeAt.int_tuple b t p (by lia)⟩
   | str b=>obtain⟨t,rfl⟩:=d;exact⟨RcAt.str_tuple b t p (by lia),RcNeAt.str_tuple b t p (by lia)⟩
   | _=>exact absurd (show false=true from o) zAh
 | dcts f n =>
   cases d;cases c;obtain⟨F,K,m,E,G⟩:=I.dK0 f;obtain⟨L,M,R,N,O⟩:=I.dK0 n;cases G rfl;cases O rfl;exact LD.qao3 F L E N (by lia)
 | dt f n =>
   cases d;cases c;obtain⟨F,K,m,E,G⟩:=I.dK0 f;obtain⟨its2,q,l⟩:=I.tupI n;exact LD.rc_dt E l (by lia)
end
def rEqD:R2:=λ x y H Q=>∃ b,RcD H x y b/\Q (.bl b) H
def rNeD:R2:=λ x y H Q=>∃ b,RcD H x y b/\Q (.bl (!b)) H
theorem qj6{X:Cx}(e:X.A.units+64 < cLine):OpR X (Ls .Eq) rEqD:=by
 intro Fb s σ H x y v u Q I a c ⟨b,d,q⟩;exact(d.at I a c (A:=X.A) (by lia)).1 X.prog X.w X.xe _ ⟨.bl b,H,I,rfl,q⟩
theorem qY1{X:Cx}(e:X.A.units+64 < cLine):OpR X (Ls .NotEq) rNeD:=by
 intro Fb s σ H x y v u Q I a c ⟨b,d,q⟩;exact(d.at I a c (A:=X.A) (by lia)).2 X.prog X.w X.xe _ ⟨.bl (!b),H,I,rfl,q⟩
theorem qad0:∀{x:V},flatV x=true->eqV x x=true:=by
 intro x h;cases x with
 | non=>rfl
 | bl b=>exact zAv b
 | int b=>exact zAv b
 | str b=>exact zAv b
 | _=>exact absurd (show false=true from h) zAh
theorem Room.u64{k:Nat}(a:Room k A):A.units+64 < cLine:=a.units
end L2
namespace L2
open PySem PySem.Spec PyProof.Rows
variable{vs:Array V'}
section
variable{X:Cx}
def qao4:V->List V->Hp->VK->Prop:=λ x vs H Q=>∃ l xs y i,x=.ref l/\vs=[.int i,y]/\H l=some (.l xs)/\0<=i/\i < 2 ^ 63/\xs.length < Lr/\Q .non (upd H l (.l (xs.take i.toNat++y::xs.drop i.toNat)))
theorem qaj3:MtM X "list.insert" qao4:=by
 intro Fb s σ H x o v p Q I f g h;obtain⟨l,w,y,i,rfl,rfl,d,A,B,C,q⟩:=h;cases f;obtain⟨D,u,rfl,j,k⟩:=g.two;obtain⟨t,rfl⟩:=j;obtain⟨z,a,n,r,E,e⟩:=I.lstM d;have b:¬ (!Builtin.List.listFitsIndex i)=true:=by
   unfold Builtin.List.listFitsIndex;rw[zA9 (show -(2 ^ 63:Int)<=i by lia),zA9 (show i < 2 ^ 63 by lia)];decide
 refine Mc F.slot_list_insert ⟨_,e,rfl⟩ F.entry_list_insert (F.args_list_insert_3 _ _ _) (PySem.AutoListH.list_insert_list_int_val_1 l a.toArray n i t u b (by rw[zA4];lia)) ⟨e,?_⟩;refine⟨.non,_,I.lset (its':=a.take i.toNat++u::a.drop i.toNat) d e ?_ ((r.take _).append (.cons k (r.drop _))) ?_,rfl,q⟩
 . dsimp only
   rw[if_neg (by lia),zA4];apply Array.toList_inj.mp;simp;by_cases m:i.toNat<=a.length
   . rw[Nat.min_eq_left m,List.append_cancel_left_eq]
     rw[zAs (by simp)]
   have c:a.length<=i.toNat:=by lia
   rw[Nat.min_eq_right c];simp[zAs c,List.drop_of_length_le c]
 rw[zAd,zAg,zBq,zC8];lia
end
structure Cl(K:W.Frag)(mg:Str->Option V')(x:Str)(C:γ):Prop where
 cl:Cls K C
 m:mg x=some (.ref C)
structure Md(K:W.Frag)(C:γ)(m qual:Str)(st:Stmt)(f:γ)(fd:δ)(ps:List Str):Prop where
 F:Fun K m qual st f fd
 b:Binds K fd ps []
 me:Jt K C m f
 isf:W.isFn K (.ref f)=true
theorem mdmk{K:W.Frag}{C:γ}{m qual:Str}{st:Stmt}{f:γ}{ps:List Str}{oc:V'}{od e:Option γ}{n:Array (Option V')}{kV d g b j:V'}(l:K.lookup f=some ⟨oc,od,.func (W.fnOf m qual (qe1 st) (qc7 st) (qa3 st) .none kV d g e b j),n⟩)(c:W.codeIn K b qual=true)(k:W.keepIn K (.ref f)=true)(a:W.findIn K (.ref C) m=some (some (.ref f)))(i:W.isFn K (.ref f)=true)(h:∀(kV d g:V')(e:Option γ)(b j:V')(us:List V'),us.length=ps.length->bindArgs (W.fnOf m qual (qe1 st) (qc7 st) (qa3 st) .none kV d g e b j) ⟨us,[]⟩=pure (ps.zip us)) :
   Md K C m qual st f (W.fnOf m qual (qe1 st) (qc7 st) (qa3 st) .none kV d g e b j) ps:=⟨qak3 l c k,(qak3 l c k).binds h,⟨a,i,k⟩,i⟩
section
variable{M:Model}{A:Around}{E:V'->Sh->Prop}{s:Sh}
structure Left(h h':Heap)(f:List γ)(e T:γ)(oe:Obj)(old:Option V'):Prop where
 new:h.objs.size<=T
 keep:∀ b o,h.get? b=some o->b≠e->old≠some (.ref b)->b∉f->h'.get? b=some o
 slot:∀ b o,h.get? b=some o->b∈f->∃ sl,h'.get? b=some { o with slots:=sl }
 there:∀ b o,h.get? b=some o->∃ o',h'.get? b=some o'
 exc:∃ vs oT ts,h'.get? e=some { oe with data:=.fields vs }/\1 < vs.size/\vs[1]? = some (.ref T)/\T≠e/\h'.get? T=some oT/\oT.data=.fields ts/\ts[3]? = some .none
theorem qap5{o:Obj}(e:o.data=.fields vs)(g:Array V'->Array V'):Obj.mapFields g o={ o with data:=.fields (g vs) }:=by
 obtain⟨a,b,c,d⟩:=o;cases e;rfl
theorem qF9{base:Heap}{env:Env}{outer:List Env}{L e:γ}{oe:Obj}{d:V'}{R:Bool}{old:Option V'}{Q:Unit->Sh->Prop}(n:A.frames=some (env::outer))(C:s.heap.FunFrames base (env::outer))(S:env.frame=some L)(m:s.heap.get? e=some oe)(i:oe.data=.fields vs)(hsz:1 < vs.size)(h:∀ h' T,Left s.heap h' ((env::outer).filterMap (·.frame)) e T oe old->Q () { s with heap:=h' }) :
   wpAny M A (do let a <- frameOf env;let pl <- entryPlaceOf L R;let b <- EntryCells.newEntry d a .none (rawInt L) .none pl;setField (.ref e) 1 b)
     (λ _ s'=>wpAny M A (setFlight (.ref e) none) Q E s') E s:=by
 have j:∀ b o p,s.heap.get? b=some o->o.data=.fields p->b∉(env::outer).filterMap (·.frame):=λ b o p q q2 r=>by
   obtain⟨_,Y,D,U⟩:=C.mem r;rw[q] at D;cases D;exact U p q2
 refine G' (wpAny_frameOf_fun n C S λ c q=>?_);refine G' (wpAny_entryPlaceOf λ pl t=>?_);unfold EntryCells.newEntry newFields;refine G' (wpAny_newObj_type ?_ (t.sizeOk5 _ _ _ _ _));obtain⟨V,F,G⟩:=q;have H:c.get? e=some oe:=(F e (j e oe vs m i)).trans m;generalize k:({ cls:=.type "traceback",dict:=none,data:=.fields ([d,.ref L,.none,rawInt L,.none]++(if pl.isEmpty then List.replicate 6 Value.none else pl)).toArray }:Obj)=oT;have l:∃ u,oT.data=.fields u/\3 < u.size:=by
   refine⟨([d,.ref L,.none,rawInt L,.none]++(if pl.isEmpty then List.replicate 6 Value.none else pl)).toArray,by rw[<- k],?_⟩;simp only[zA4,zAd,zAg,zBn];lia
 have W:oT.isFreed=false:=by rw[<- k];rfl
 obtain⟨u,l,I⟩:=l;have e2:=zA2 (h:=c) oT H;refine wpAny_setField e2 i hsz ?_;have v:c.objs.size≠e:=Nat.ne_of_gt (zA7 H);have J:=Obj.data_mapFields i (·.setIfInBounds 1 (Value.ref c.objs.size));have K:=zBo (Obj.mapFields (·.setIfInBounds 1 (Value.ref c.objs.size))) e2 (Obj.isFreed_of_fields J);have N:((c.push oT).update e (Obj.mapFields (·.setIfInBounds 1 (Value.ref c.objs.size)))).get? c.objs.size=some oT:=(zBc _ _ (Ne.symm v)).trans (zAz c W);unfold setFlight;refine G' (wpAny_field K J (x:=.ref c.objs.size) (by simp[hsz]) ?_);rw[if_pos (show (Value.ref c.objs.size != Value.none)=true from by simp)];refine wpAny_setField N l I (h _ c.objs.size ?_);have keep:∀ b o,b≠e->c.get? b=some o->(((c.push oT).update e (Obj.mapFields (·.setIfInBounds 1 (Value.ref c.objs.size)))).update c.objs.size (Obj.mapFields (·.setIfInBounds 3 ((none:Option γ).elim Value.none λ f=>rawInt f)))).get? b=some o:=λ b o w y=>by
   rw[zBc _ _ (Nat.ne_of_gt (zA7 y)),zBc _ _ (Ne.symm w)];exact zA2 _ y
 have O:(((c.push oT).update e (Obj.mapFields (·.setIfInBounds 1 (Value.ref c.objs.size)))).update c.objs.size (Obj.mapFields (·.setIfInBounds 3 ((none:Option γ).elim Value.none λ f=>rawInt f)))).get? e=some { oe with data:=.fields (vs.setIfInBounds 1 (Value.ref c.objs.size)) }:=by
   rw[zBc _ _ v,K,qap5 i]
 refine⟨zC4 V.symm,λ b o g w y X=>keep b o w ((F b X).trans g),λ b o g r=>?_,λ b o g=>?_,_,_,_,O,by simpa using hsz,by simp[hsz],v,zBo _ N (Obj.isFreed_of_fields (Obj.data_mapFields l _)),Obj.data_mapFields l _,by simp[I]⟩
 . obtain⟨P,B⟩:=G b o g
   refine⟨P,keep b _ (λ z=>?_) B⟩;subst z;rw[m] at g;cases g;exact j b _ vs m i r
 obtain⟨P,B⟩:=G b o g;by_cases z:b=e
 . subst z;exact⟨_,O⟩
 exact⟨_,keep b _ z B⟩
theorem qE9{base:Heap}{env:Env}{outer:List Env}{L e:γ}{oe:Obj}{Q:Unit->Sh->Prop}(d:A.frames=some (env::outer))(p:s.heap.FunFrames base (env::outer))(r:env.frame=some L)(g:s.heap.get? e=some oe)(i:oe.data=.fields vs)(hsz:1 < vs.size)(B:vs[1]? = some .none∨∃ T j ts,vs[1]? = some (.ref T)/\T≠e/\s.heap.get? T=some j/\j.data=.fields ts/\ts[3]? = some .none)(h:∀ h' T,Left s.heap h' ((env::outer).filterMap (·.frame)) e T oe vs[1]? -> Q () { s with heap:=h' }) :
   wpAny M A (noteFrame (.ref e) env) (λ _ s'=>wpAny M A (setFlight (.ref e) none) Q E s') E s:=by
 unfold noteFrame;simp only[r];rcases B with k | ⟨T,j,ts,k,t,f,c,x⟩
 . refine G' (wpAny_field g i k ?_)
   rw[if_neg (by decide)];exact qF9 (old:=vs[1]?) d p r g i hsz h
 refine G' (wpAny_field g i k ?_);rw[if_pos (show (Value.ref T != Value.none)=true from by simp)];refine G' (wpAny_field f c x ?_);rw[if_neg (show ¬ ((Value.none == rawInt L)=true) from by simp[rawInt])];have C:=(Array.getElem?_eq_some_iff.mp x).1;refine G' (wpAny_setField f c C ?_);have other:∀ b,b≠T->(s.heap.update T (Obj.mapFields (·.setIfInBounds 3 Value.none))).get? b=s.heap.get? b:=λ b a=>zBc _ _ (Ne.symm a)
 have D:∀ b∈(env::outer).filterMap (·.frame),b≠T:=λ b l z=>by
   obtain⟨_,K,m,n⟩:=p.mem l;subst z;rw[f] at m;cases m;exact n ts c
 have F:(s.heap.update T (Obj.mapFields (·.setIfInBounds 3 Value.none))).get? T=some { j with data:=.fields (ts.setIfInBounds 3 .none) }:=by
   rw[zBo _ f (Obj.isFreed_of_fields (Obj.data_mapFields c _)),qap5 c]
 have v:(s.heap.update T (Obj.mapFields (·.setIfInBounds 3 Value.none))).FunFrames base (env::outer):=p.of_keeps λ b o a w=>⟨o,(other b λ z=>by subst z;rw[f] at a;cases a;exact w ts c).trans a,rfl⟩
 refine qF9 (s:={ s with heap:=s.heap.update T (Obj.mapFields (·.setIfInBounds 3 Value.none)) }) (old:=vs[1]?) d v r ((other e (Ne.symm t)).trans g) i hsz λ h' T' q=>h h' T' ?_
 obtain⟨G,q2,m,n,H⟩:=q;refine⟨by rwa[show (s.heap.update T (Obj.mapFields (·.setIfInBounds 3 Value.none))).objs.size=s.heap.objs.size from Heap.size_update _ _ _] at G,λ b o a I y J=>?_,λ b o a l=>m b o ((other b (D b l)).trans a) l,λ b o a=>?_,H⟩
 . exact q2 b o ((other b λ z=>y (by rw[k,z])).trans a) I y J
 by_cases z:b=T
 . subst z;exact n _ _ F
 exact n b o ((other b z).trans a)
end
end L2
namespace L2
open PySem PySem.Spec PyProof.Rows Builtin Builtin.ObjectAttr
variable{ox:Obj}
noncomputable def Ko:List V'->Bool
 | .ref _::r=>Ko r
 | .type n::r=>Value.type n::r == [.type "ValueError",.type "Exception",.type "BaseException",.type "object"]
 | _=>false
theorem qJ6(self:V'):∀{l:List V'},Ko l=true->refuseLoop self "__setattr__" l=pure ():=by
 intro l
 induction l with
 | nil=>intro e;cases e
 | cons c r b =>
   intro e;cases c with
   | ref a=>rw[refuseLoop_ref];exact b e
   | type n=>rw[show (Value.type n::r)=[.type "ValueError",.type "Exception",.type "BaseException",.type "object"] from zBp.mp e];exact F.store_ValueError.passes self
   | _=>cases e
structure Exc(K:W.Frag)(C:γ):Prop where
 mro:(W.clsIn K C).any (λ cd=>Ko cd.mro)=true
 hd:W.hasDictIn K C=true
 kts:W.ktsIn K C "ValueError" = true
 sa:W.findIn K (.ref C) "__setattr__" = some (some (.builtin "object.__setattr__"))
 ga:W.findIn K (.ref C) "__getattribute__" = some (some (.builtin "BaseException.__getattribute__"))
 gt:W.findIn K (.ref C) "__getattr__" = some none
 be:W.mroIn K C (.type "BaseException")=some true
 ob:W.mroIn K C (.type "object")=some true
 ty:W.typeIn K (.ref C)=some (.type "type")
section
variable{prog:Program}{w:World}{A:Around}{E:V'->Sh->Prop}{s:Sh}{K:W.Frag}{x C:γ}{name:Str}{v:V'}
theorem qaq6{R:Result->Sh->Prop}{od:Option Obj}{a:Tok}(X:K.In s.heap)(I:W.InstAt s.heap x ox C od)(c:Exc K C)(b:W.findIn K (.ref C) name=some none)(h:wpAny (model prog w) A.in1 (storeInOwnDict (.ref x) (.ref C) (.str name a) name v false)
     (λ fin s'=>match fin with | .done f=>R (.ok f) s' | .again c'=>c'.quiet=true/\codeAny (model prog w) A c' R s') (λ e s'=>R (.error e) s') s) :
   codeAny (model prog w) A (.call (.builtin "object.__setattr__") ⟨[.ref x,.str name a,v],[]⟩) R s:=by
 have SF:=F.store_object;obtain⟨d,g,i⟩:=W.any_some c.mro;have sub:W.Looks (model prog w) s.heap (isInstance (.ref x) (.type "object")) true:=I.type.andThen (W.looks_mroIn X c.ob);refine codeAny_call_builtin SF.slot.plain SF.entry (@W.check_slot (model prog w) _ _ s "object.__setattr__" "object" "__setattr__" (.ref x) [.str name a,v] [] _ SF.kind SF.split sub (SF.args (.ref x) (.str name a) v) ?_);have j:W.Looks (model prog w) s.heap (mroOf (.ref C)) d.mro:=(W.looks_clsIn X g).andThen .now;rw[W.osa_eq,refuse_eq];refine G' (G' (I.type.here (G' (j.here ?_))));rw[qJ6 _ i];exact J' (G' (I.type.here (G' ((W.looks_findIn X b).here (G' (J' h))))))
theorem qay8{Q:Unit->Sh->Prop}{vs:Array V'}(X:K.In s.heap)(c:Exc K C)(i:s.heap.get? x=some ox)(a:ox.cls=.ref C)(d:ox.data=.fields vs)(f:ox.dict=none)(u:W.findIn K (.ref C) name=some none)(h:∀ h' j,h'.get? x=some { ox with dict:=some s.heap.objs.size }->h'.Ns1 s.heap.objs.size (λ y=>if y=name then some v else none)->(∀ b o,b≠x->s.heap.get? b=some o->h'.get? b=some o)->Q () { s with heap:=h',toks:=j }) :
   wpAny (model prog w) A (setAttr (.ref x) name v) Q E s:=by
 obtain⟨M,z,B,g⟩:=ox;dsimp only at a d f;subst a d f;have I:W.InstAt s.heap x ⟨.ref C,none,.fields vs,g⟩ C none:=⟨i,rfl,rfl,True.intro⟩
 refine W.set_plain X I c.sa (qaq6 (s:={ s with toks:=s.toks+1 }) X I c u ?_);obtain⟨N,D,k⟩:=W.any_some c.hd;refine G' (J' (G' (G' (wpAny_loadPart i (G' (W.Looks.here (s:={ s with toks:=s.toks+1 }) (W.looks_clsIn X D) ?_))))));rw[k];have p:(s.heap.push { cls:=.type "dict",data:=.dict #[] }).get? x=some ⟨.ref C,none,.fields vs,g⟩:=zA2 _ i;have q:x≠s.heap.objs.size:=zAl (zA7 i);simp only[Bool.not_true,Bool.false_eq_true,if_false];rw[if_neg (by simp[typeHasDict])];refine G' (wpAny_alloc ?_);refine G' (wpAny_update p (J' ?_));have gd:((s.heap.push { cls:=.type "dict",data:=.dict #[] }).update x λ o=>{ o with dict:=some s.heap.objs.size }).get? s.heap.objs.size=some { cls:=.type "dict",data:=.dict #[] } :=
   (Heap.get?_update_ne _ _ _ _ (Ne.symm q)).trans (Heap.get?_push_at rfl rfl)
 have F:((s.heap.push { cls:=.type "dict",data:=.dict #[] }).update x λ o=>{ o with dict:=some s.heap.objs.size }).Ns s.heap.objs.size (λ _=>none) :=
   ⟨_,#[],_,gd,rfl,λ e G=>absurd G (by simp),λ _=>rfl⟩
 show wpAny _ _ (storeInDict s.heap.objs.size (.str name s.toks) name v) _ _ _;unfold storeInDict newKeyGuard;refine G' (J' (G' (wpAny_nsSet1 (Heap.Ns1.of_empty F) λ h' r t=>?_)));obtain⟨O,H,J,l,m,n⟩:=r.count (Within.cons name v Within.nil);refine G' (wpAny_lookBehind l (by rw[m];exact pastItsLine_dict (zAn n (by rw[zAg,zBn,Lz];lia))) ?_);refine J' (h h' _ ?_ r λ b o L e=>?_)
 . exact(t.2 x q).trans (zBo _ p rfl)
 exact(t.2 b (zAl (zA7 e))).trans ((Heap.get?_update_ne _ _ _ _ L).trans (zA2 _ e))
theorem qay7{Q:Unit->Sh->Prop}{vs:Array V'}{dx:γ}{mA:Str->Option V'}{ns:List Str}(X:K.In s.heap)(c:Exc K C)(q:s.heap.get? x=some ox)(d:ox.cls=.ref C)(f:ox.data=.fields vs)(g:ox.dict=some dx)(r:s.heap.Ns1 dx mA)(u:Within mA ns)(N:ns.length<=1000)(z:W.findIn K (.ref C) name=some none)(h:∀ h' i,h'.Ns1 dx (λ y=>if y=name then some v else mA y)->(∀ b o,b≠dx->s.heap.get? b=some o->h'.get? b=some o)->Q () { s with heap:=h',toks:=i }) :
   wpAny (model prog w) A (setAttr (.ref x) name v) Q E s:=by
 obtain⟨O,B,D,j⟩:=ox;dsimp only at d f g;subst d f g;obtain⟨F,k,_⟩:=qs4 r;have I:W.InstAt s.heap x ⟨.ref C,some dx,.fields vs,j⟩ C (some F):=⟨q,rfl,rfl,k⟩
 refine W.set_plain X I c.sa (qaq6 (s:={ s with toks:=s.toks+1 }) X I c z ?_);obtain⟨P,G,l⟩:=W.any_some c.hd;refine G' (J' (G' (G' (wpAny_loadPart q (G' (W.Looks.here (s:={ s with toks:=s.toks+1 }) (W.looks_clsIn X G) ?_))))));rw[l];refine J' (a:=some dx) (G' (J' (G' ?_)));refine wpAny_nsSet1 (s:={ s with toks:=s.toks+1 }) r λ h' t H=>?_
 obtain⟨R,J,L,m,n,p⟩:=t.count (Within.cons name v u);refine G' (wpAny_lookBehind m (by rw[n];exact pastItsLine_dict (zAn p (by rw[zAg,Lz];lia))) ?_);exact J' (h h' _ t λ b o M e=>(H.2 b M).trans e)
theorem qaL0{Q:V'->Sh->Prop}{od:Obj}{expr:Bool}(X:K.In s.heap)(c:Exc K C)(I:W.InstAt s.heap x ox C (some od))(b:W.findObj K C (some od) name=some (.value v))(e:W.handedIn v=true)(h:∀ a,Q v { s with toks:=a }):wpAny (model prog w) A (getAttr (.ref x) name expr) Q E s:=by
 have FB:=F.excAttr_ValueError;obtain⟨f,g,d,t,l⟩:=s;have L0:=I.type (M:=model prog w);have L1:=W.looks_findIn (M:=model prog w) X c.ga;have L2:=W.looks_findIn (M:=model prog w) X c.gt;have L3:=W.looks_find (M:=model prog w) X I b;have sub:W.Looks (model prog w) f (isInstance (.ref x) (.type "BaseException")) true:=L0.andThen (W.looks_mroIn X c.be);have i:builtinKind "BaseException.__getattribute__" = some .slot:=by decide +kernel
 have j:splitId "BaseException.__getattribute__" = some ("BaseException", "__getattribute__"):=by decide +kernel
 unfold getAttr getAttrBy;refine G' (wpAny_mkText (Lv (G' (L0.at (G' (L1.at ?_))))));dsimp only;have k:(Value.builtin "BaseException.__getattribute__" == Value.builtin "object.__getattribute__")=false:=by decide +kernel
 rw[k,Bool.and_false,if_neg zAh];unfold getAttrByItsOwn hookBefore;refine G' ?_;rw[if_pos (by rfl)];refine L2.at ?_;unfold callGetattribute boundAndCalled;rw[if_neg (by cases expr<;>decide)];refine G' (wpAny_attempt (Lv ?_));rw[FB.ga.bind (.ref x)];refine G' (J' (wpAny_call ?_));refine codeAny_call_builtin FB.ga.plain F.entry_bexc_ga (@W.check_slot (model prog w) _ _ _ "BaseException.__getattribute__" "BaseException" "__getattribute__" (.ref x) [.str name t] [] _ i j sub (F.args_bexc_ga (.ref x) (.str name t)) ?_);unfold Builtin.«object.__getattribute__»;refine G' (J' (G' (J' (G' (L0.at (G' (L3.at ?_)))))));refine J' ?_;show wpAny _ _ (handedOut v) _ _ _;rw[W.handedOut_of e];exact J' (h _)
end
end L2
namespace L2
open PySem PySem.Spec PyProof.Rows
variable{Q:Unit->Sh->Prop}{fr:Bool}{xe:V'->Sh->Prop}
noncomputable abbrev mroVE:List V':=[.type "ValueError",.type "Exception",.type "BaseException",.type "object"]
def Hu(K:W.Frag)(C:γ):Bool:=W.ktsIn K C "ValueError" && (K.lookup C).any λ o=>o.slots.toList[4]? == some (some (.builtin "ValueError.__new__"))&&(match o.data with
   | .cls cd=>W.tailIn K mroVE cd.mro.tail
   | _=>false)
theorem qac9{K:W.Frag}{h:Heap}{C:γ}(X:K.In h)(q:Hu K C=true):∃ f g N i d a j sub k b dd l m p r s,
   h.get? C=some (excClassObj f g C N i d a j sub k b dd l m p r s "ValueError.__new__")/\OwnTail h mroVE d:=by
 unfold Hu at q;rw[zB9] at q;obtain⟨f,g,N,i,d,a,j,sub,k,b,dd,l,m,p,r,s,n,t,_⟩:=W.kts_cls X q.1;have q2:=q.2;rw[Option.any_eq_true] at q2;obtain⟨o,u,q2⟩:=q2;have e:=(X _ _ u).symm.trans t;injection e with e
 subst e;rw[zB9] at q2;have c:some (some (Value.builtin n))=some (some (.builtin "ValueError.__new__")):=eq_of_beq q2.1;injection c with c
 injection c with c
 injection c with c
 subst c;exact⟨f,g,N,i,d,a,j,sub,k,b,dd,l,m,p,r,s,t,W.tail_of_in X q2.2⟩
section
variable{prog:Program}{w:World}{A:Around}{K:W.Frag}{C fI:γ}{h:Heap}{g:Array GenState}{d:Drawn}{t:Nat}{os:OsState}
theorem qal1{rest:List V'}{Q:Fin->Sh->Prop}{E:V'->Sh->Prop}(X:K.In h)(m:Hu K C=true)(hi:W.findIn K (.ref C) "__init__" = some (some (.ref fI)))(i:W.typeIn K (.ref fI)=some (.type "function"))(hrest:rest.length<=Lr)(j:wpAny (model prog w) A (call (.ref fI) (.ref (h.objs.size+1)::rest)) (λ r s'=>r=.none/\Q (.done (.ret (.ref (h.objs.size+1)))) s') E
     ⟨(h.push { cls:=.type "tuple",data:=.seq rest.toArray }).push { cls:=.ref C,data:=.fields #[.ref h.objs.size,.none,.none,.none,.bool false,.none] },g,d,t,os⟩) :
   wpAny (model prog w) A (Builtin.«type.__call__» ⟨.ref C::rest,[]⟩) Q E ⟨h,g,d,t,os⟩:=by
 have F:=PySem.F.excBase_ValueError;obtain⟨v,x,N,y,k,f,B,sub,D,l,G,H,I,J,L,O,a,T⟩:=qac9 X m
 repeat (first | with_reducible refine L6 a ?_ | with_reducible refine wpAny_madeBy_exc a ?_ | wp_step)
 refine codeAny_call_builtin_code (Code.quiet_builtin _ F.quiet) (wpAny_check_new_subT F T a ?_);refine codeAny_exc_new_subT F T a ?_ hrest;show wpAny _ _ _ _ _ _;have c:∀ b o,h.get? b=some o->((h.push { cls:=.type "tuple",data:=.seq rest.toArray }).push { cls:=.ref C,data:=.fields #[.ref h.objs.size,.none,.none,.none,.bool false,.none] }).get? b=some o:=λ b o e=>zA2 _ (zA2 _ e)
 have n:=c _ _ a;have p:((h.push { cls:=.type "tuple",data:=.seq rest.toArray }).push { cls:=.ref C,data:=.fields #[.ref h.objs.size,.none,.none,.none,.bool false,.none] }).get? (h.objs.size+1)=some { cls:=.ref C,data:=.fields #[.ref h.objs.size,.none,.none,.none,.bool false,.none] }:=by heap_get
 have q:(Value.ref C::k).contains (.ref C)=true:=by simp
 unfold isInstance
 repeat (first | with_reducible refine L6 p ?_ | (with_reducible refine wpAny_isSubtype_exc n ?_;rw[q]) | wp_step)
 show wpAny _ _ (typeLookup (.ref C) _) _ _ _;have s:=(W.looks_findIn (M:=model prog w) X hi).keeps c;have u:=(W.bind_fn (M:=model prog w) X (.ref (h.objs.size+1)) i).keeps c;refine s.at (Lv (G' (u.at (G' (L9 j (λ r s' z=>?_) λ _ _ z=>z)))));obtain⟨rfl,z⟩:=z;exact J' (J' z)
theorem qay9{rest:List V'}{Q E:V'->Sh->Prop}(X:K.In h)(m:Hu K C=true)(hi:W.findIn K (.ref C) "__init__" = some (some (.ref fI)))(c:W.typeIn K (.ref fI)=some (.type "function"))(hrest:rest.length<=Lr)(e:wpAny (model prog w) (A.under (.builtin "type.__call__" ⟨.ref C::rest,[]⟩)) (call (.ref fI) (.ref (h.objs.size+1)::rest)) (λ r s'=>r=.none/\Q (.ref (h.objs.size+1)) s') E
     ⟨(h.push { cls:=.type "tuple",data:=.seq rest.toArray }).push { cls:=.ref C,data:=.fields #[.ref h.objs.size,.none,.none,.none,.bool false,.none] },g,d,t,os⟩) :
   wpAny (model prog w) A (call (.ref C) rest) Q E ⟨h,g,d,t,os⟩:=by
 obtain⟨i,j,N,k,l,b,n,sub,o,f,p,q,s,u,v,x,a,T⟩:=qac9 X m;have f1:=tc_lookup;have f2:=tc_bind (.ref C);have y:(⟨h,g,d,t,os⟩:Sh).TypeIs (.ref C) "type" := ⟨_,a,rfl⟩
 refine wpAny_call (codeAny_of_tree ?_);show wpAny _ _ (callAny (.ref C) _) _ _ _
 repeat (any_goals (first | assumption | with_reducible refine L6 a ?_ | wp_step))
 refine⟨rfl,?_⟩;exact codeAny_call_builtin_at (Code.quiet_builtin _ (by decide +kernel)) entry_typeCall (wpAny_check_type_call_sub a (qal1 X m hi c hrest e))
end
section
variable{M:Model}{A:Around}{E:V'->Sh->Prop}{s:Sh}{env:Env}
theorem qX0{K:W.Frag}{x:Sem V'}{Q:Flow->Sh->Prop}(l:A.handled=none)(h:wpAny M A x (λ v s₁=>∃ e oe vs C,v=.ref e/\K.In s₁.heap/\Exc K C/\s₁.heap.get? e=some oe/\oe.cls=.ref C/\oe.data=.fields vs/\vs[1]? = some .none/\E (.ref e) s₁) E s) :
   wpAny M A (raiseStmt env (some x) none) Q E s:=by
 unfold raiseStmt;refine G' (L9 h (λ v s₁ q=>?_) λ _ _ x=>x);obtain⟨e,oe,vs,C,rfl,X,c,i,a,b,m,n⟩:=q;obtain⟨y,o,p,r⟩:=oe;dsimp only at a b;subst a b;obtain⟨z,B,N,D,t,j,F,sub,G,u,H,I,J,L,O,P,newId,k,w,_⟩:=W.kts_cls X c.kts;obtain⟨R,g,d,S,T⟩:=s₁;have f:(Value.ref C::t).contains (.type "BaseException")=true:=by rw[List.contains_cons,w,Bool.or_true]
 repeat (first | with_reducible refine L6 i ?_ | with_reducible refine L6 k ?_ | (with_reducible refine wpAny_isSubtype_exc k ?_;rw[f]) | with_reducible refine wpAny_field i rfl m ?_ | wp_step)
 exact wpAny_raiseNew_none l n
theorem qal3{K:W.Frag}{e C D:γ}{oe:Obj}{b:Bool}{Q:Bool->Sh->Prop}(X:K.In s.heap)(d:Exc K D)(k:s.heap.get? e=some oe)(a:oe.cls=.ref C)(hm:W.mroIn K C (.ref D)=some b)(h:Q b s) :
   wpAny M A (excMatches (.ref e) (.ref D)) Q E s:=by
 obtain⟨o,p,N,q,l,i,r,sub,t,m,u,v,w,x,y,z,newId,j,n,_⟩:=W.kts_cls X d.kts;have L:=W.looks_mroIn (M:=M) X hm;obtain⟨B,g,F,G,H⟩:=s;have c:(Value.ref D::l).contains (.type "BaseException")=true:=by rw[List.contains_cons,n,Bool.or_true]
 have f:=tc_notTuple;unfold excMatches
 repeat (first | (with_reducible refine L6 k ?_;rw[a]) | with_reducible refine L6 j ?_ | (with_reducible refine wpAny_isSubtype_exc j ?_;rw[c]) | with_reducible refine L.at ?_ | wp_step)
 cases b<;>(wp_walk;exact h)
end
def Kq(e C:γ)(od:Option γ)(fr:Bool)(h:Heap):Prop:=∃ oe vs,h.get? e=some oe/\oe.cls=.ref C/\oe.dict=od/\oe.data=.fields vs/\1 < vs.size/\(fr=true->vs[1]? = some .none)
noncomputable abbrev Be(e C:γ)(od:Option γ)(fr:Bool):HO:=.ext (Kq e C od fr)
def xdIs(d:γ)(fs:List (Str×V))(h:Heap):Prop:=∃ mA,h.Ns1 d mA/\(∀ f,RelO (fs.lookup f) (mA f))/\PySem.Within mA (fs.map (·.1))/\fs.length<=1000
abbrev XD(d:γ)(fs:List (Str×V)):HO:=.ext (xdIs d fs)
section
variable{P:Program}{w:World}{H:Hp}{h:Heap}
theorem qal2{e C:γ}{od:Option γ}(q:Kq e C od fr h):ObjOk P w H h e (Be e C od fr) :=
 ⟨q,let ⟨c,_,a,_⟩:=q;⟨c,a⟩,λ f g ⟨c,d,a,b⟩ k=>⟨c,d,k _ a,b⟩⟩
theorem xd_ok{d:γ}{fs:List (Str×V)}(q:xdIs d fs h):ObjOk P w H h d (XD d fs) :=
 ⟨q,let ⟨_,⟨o,_,_,a,_⟩,_⟩:=q;⟨o,a⟩,λ g i ⟨c,⟨o,e,f,a,r⟩,b⟩ k=>⟨c,⟨o,e,f,k _ a,r⟩,b⟩⟩
theorem qL2{e C:γ}{od:Option γ}(a:HOk P w H h)(q:H e=some (Be e C od fr)):Kq e C od fr h:=(a e _ q).1
theorem Kr{d:γ}{fs:List (Str×V)}(a:HOk P w H h)(q:H d=some (XD d fs)):xdIs d fs h:=(a d _ q).1
end
section
variable{X:Cx}{Fb:List (γ×Obj)}{σ:St}{H:Hp}{s:Sh}{a C dx:γ}{fs:List (Str×V)}{f:Str}{v:V}{A:Around}{E:V'->Sh->Prop}
theorem qaz1{y:V}{u:V'}(I:M4 X Fb σ H s)(e:H a=some (Be a C none true))(c:Exc X.K C)(n:qc8 X.K C f)(J:Mx y u)(h:∀ dx s',H dx=none->dx≠a->M4 X Fb σ (upd (upd H dx (XD dx [(f,y)])) a (Be a C (some dx) true)) s'->Q () s'):wpAny (model X.prog X.w) A (setAttr (.ref a) f u) Q E s:=by
 obtain⟨W,L,v,x,M,B,N,O⟩:=qL2 I.hok e;refine qay8 I.kIn c v x B M n λ Y p D q2 m=>?_
 have P:a≠s.heap.objs.size:=zAl (zA7 v);have k:H s.heap.objs.size=none:=I.hok.fresh (zA3 _);have R:∀ b o,s.heap.get? b=some o->b≠s.heap.objs.size:=λ b o z=>zAl (zA7 z)
 refine h s.heap.objs.size _ k (Ne.symm P) (I.un (t':=p) ⟨λ b o z i _ _=>m b o (λ d=>?_) z,λ b o z i _ _=>⟨o.slots,m b o (λ d=>?_) z⟩,λ b o z i _=>?_,λ b o z _=>?_,λ b F z=>?_,λ b Z F z=>?_,λ b ps z=>?_⟩ λ b S z=>?_)
 . rw[d,e] at i;cases i
 . rw[d,e] at i;cases i
 . rw[qb4 (λ d=>by rw[d,e] at i;cases i),qb4 (R b o z)];exact i
 . by_cases d:b=a
   . rw[d];exact⟨_,D⟩
   exact⟨o,m b o d z⟩
 . rw[qb4 (λ d=>by rw[d,e] at z;cases z),qb4 (qc0 z k)];exact z
 . rw[qb4 (λ d=>by rw[d,e] at z;cases z),qb4 (qc0 z k)];exact z
 . exact⟨#[],by rw[qb4 (λ d=>by rw[d,e] at z;cases z),qb4 (qc0 z k)];simpa using z⟩
 by_cases q:b=a
 . subst q
   rw[qb3] at z;cases z;exact qal2 ⟨_,L,D,x,rfl,B,N,O⟩
 rw[qb4 q] at z;by_cases G:b=s.heap.objs.size
 . subst G
   rw[qb3] at z;cases z;refine xd_ok ⟨_,q2,λ g=>?_,λ g T=>?_,by simp⟩
   . show RelO (([(f,y)]:List (Str×V)).lookup g) (if g=f then some u else none)
     by_cases l:g=f
     . subst l;rw[if_pos rfl];simp only[List.lookup,zAv];exact J
     have:(g == f)=false:=zBu.mpr l
     simp[List.lookup,this,l,RelO]
   by_cases l:g=f
   . simp[l]
   exact absurd (by show (if g=f then some u else none)=none;rw[if_neg l]) T
 rw[qb4 G] at z;refine(I.hok b S z).stay (λ t U j r=>m t U ?_ r) (λ t r=>?_) λ t F r=>?_
 . rcases j with rfl | j
   . exact q
   intro d;rw[d,e] at j;cases j
 . rw[qb4 (λ d=>by rw[d,e] at r;cases r),qb4 (qc0 r k)];exact r
 rw[qb4 (λ d=>by rw[d,e] at r;cases r),qb4 (qc0 r k)];exact r
theorem qaz0{y:V}{u:V'}(I:M4 X Fb σ H s)(e:H a=some (Be a C (some dx) true))(d:H dx=some (XD dx fs))(F:fs.length < 1000)(c:Exc X.K C)(n:qc8 X.K C f)(l:Mx y u)(h:∀ s',M4 X Fb σ (upd H dx (XD dx (Bj f y fs))) s'->Q () s'):wpAny (model X.prog X.w) A (setAttr (.ref a) f u) Q E s:=by
 obtain⟨G,J,m,p,t,v,L,M⟩:=qL2 I.hok e;obtain⟨i,B,r,j,_⟩:=Kr I.hok d;refine qay7 I.kIn c m p v t B j (by rw[zA8];lia) n λ N b k q2=>h _ ?_
 refine I.write (x:=dx) (e:=dx) (t':=b) (by rw[d];exact True.intro) (.inl rfl) q2 (let ⟨o,_,_,z,_⟩:=k;⟨o,z⟩) (xd_ok ⟨_,k,λ g=>?_,λ g D=>?_,?_⟩)
 . show RelO ((Bj f y fs).lookup g) (if g=f then some u else i g)
   rw[qp3];by_cases q:g=f
   . rw[if_pos q,if_pos q];exact l
   rw[if_neg q,if_neg q];exact r g
 . by_cases q:g=f
   . rw[q];exact(qn2 f y fs).1
   refine(qn2 f y fs).2 g (j g λ z=>D ?_);show (if g=f then some u else i g)=none;rw[if_neg q];exact z
 have:=qp4 f y fs;lia
theorem qaL4{b:Bool}{Q:V'->Sh->Prop}(I:M4 X Fb σ H s)(e:H a=some (Be a C (some dx) fr))(p:H dx=some (XD dx fs))(c:Exc X.K C)(n:qc8 X.K C f)(l:fs.lookup f=some v)(h:∀ u s',M4 X Fb σ H s'->Mx v u->Q u s'):wpAny (model X.prog X.w) A (getAttr (.ref a) f b) Q E s:=by
 obtain⟨q,t,x,i,j,k,_⟩:=qL2 I.hok e;obtain⟨y,z,r,N,_⟩:=Kr I.hok p;obtain⟨u,B,m⟩:=RelO.some_of (v:=v) (o:=y f) (by rw[<- l];exact r f);obtain⟨D,F,d⟩:=qs4 z;obtain⟨O,G,L,g⟩:=q;dsimp only at i j k;subst i j k;have J:W.InstAt s.heap a ⟨.ref C,some dx,.fields t,g⟩ C (some D):=⟨x,rfl,rfl,F⟩
 exact qaL0 I.kIn c J (W.findObj_own c.hd n rfl (by rw[d,B])) (qO1 m) λ M=>h u _ (I.tok M) m
end
structure Fly(n:Nat)(H:Hp)(h:Heap)(a:γ):Prop where
 ge:n<=a
 tr:∃ C od,H a=some (Be a C od false)
 ob:∃ oe vs,h.get? a=some oe/\oe.data=.fields vs/\1 < vs.size/\(vs[1]? = some .none∨∃ T oT ts,vs[1]? = some (.ref T)/\n<=T/\H T=none/\T≠a/\h.get? T=some oT/\oT.data=.fields ts/\ts[3]? = some .none)
theorem Fly.mono{m n:Nat}{H:Hp}{h:Heap}{a:γ}(F:Fly n H h a)(l:m<=n):Fly m H h a:=by
 obtain⟨b,c,d,e,f,g⟩:=F.ob;refine⟨zAn l F.ge,F.tr,b,c,d,e,f,?_⟩;rcases g with z | ⟨T,i,j,k,o,z⟩
 . exact .inl z
 exact .inr ⟨T,i,j,k,zAn l o,z⟩
def CX1(P:Program)(w:World):CXT:=λ outer H s E e s'=>∃ a H',e=.ref a/\s'.os=s.os/\AllBare s'.gens/\Un (frs outer) [] H H' s.heap s'.heap/\HOk P w H' s'.heap/\Fly s.heap.objs.size H' s'.heap a/\E e none H'
structure Old(X:Cx)(Fb:List (γ×Obj))(n:Nat):Prop where
 st:X.s₀.heap.objs.size<=n
 loc:X.env.locals < n
 cell:∀ x c,X.env.cells.lookup x=some c->c < n
 pin:∀ p∈X.pn++Fb,p.1 < n
theorem M4.old{X:Cx}{Fb:List (γ×Obj)}{σ:St}{H:Hp}{s:Sh}(I:M4 X Fb σ H s):Old X Fb s.heap.objs.size :=
 ⟨I.sz,I.lt,λ x c e=>let ⟨_,_,z,_⟩:=I.cell x c e;zA7 z,λ p a=>zA7 (I.pin p a).1⟩
noncomputable def Hv:Option V'->List γ
 | some (.ref b)=>[b]
 | _=>[]
section
variable{X:Cx}{Fb:List (γ×Obj)}{σ:St}{H:Hp}{s:Sh}{a T:γ}{n:Nat}{h':Heap}{oe:Obj}{vs:Array V'}
theorem M4.left(I:M4 X Fb σ H s)(F:Fly n H s.heap a)(O:Old X Fb n)(m:s.heap.get? a=some oe)(P:oe.data=.fields vs)(L:Left s.heap h' (frs X.stack) a T oe vs[1]?) :
   M4 X Fb σ H { s with heap:=h' }/\Fly n H h' a:=by
 obtain⟨C,Q,i⟩:=F.tr;obtain⟨t,y,D,q2,q3,E⟩:=F.ob;rw[m] at D;cases D;rw[P] at q2;cases q2;obtain⟨G,R,S,J,e2,V,W,Y,Z,e7⟩:=L.exc;have j:∀ b,vs[1]? = some (.ref b)->n<=b/\H b=none/\b≠a:=λ b z=>by
   rcases E with q | ⟨T',_,_,q,r1,r2,r3,_⟩
   . rw[q] at z;cases z
   rw[q] at z;cases z;exact⟨r1,r2,r3⟩
 have A:HOk X.prog X.w H h':=λ b u f=>by
   by_cases z:b=a
   . subst z
     rw[i] at f;cases f;obtain⟨t,y,K,p2,p3,p4,p5,p6⟩:=qL2 I.hok i;rw[m] at K;cases K;exact qal2 ⟨_,G,J,p2,p3,rfl,e2,λ z=>nomatch z⟩
   have M:∀ c,H c≠none->c∉frs X.stack:=λ c d hm=>d (I.stkFree c hm)
   refine(I.hok b u f).stay (λ c v d r=>L.keep c v r ?_ (λ h=>?_) ?_) (λ _ z=>z) λ _ _ z=>z
   . rcases d with rfl | d
     . exact z
     intro h;rw[h,i] at d;cases d
   . have:=(j c h).2.1
     rcases d with rfl | d
     . rw[this] at f;cases f
     rw[this] at d;cases d
   rcases d with rfl | d
   . exact M c (by rw[f];exact λ z=>nomatch z)
   exact M c (by rw[d];exact λ z=>nomatch z)
 refine⟨?_,F.ge,⟨C,Q,i⟩,_,G,J,rfl,e2,.inr ⟨T,R,S,V,zAn (zAn F.ge (Nat.le_of_lt (zA7 m))) L.new,I.hok.fresh L.new,W,Y,Z,e7⟩⟩;have k:∀ b,b∈Hv vs[1]? ↔ vs[1]? = some (.ref b):=λ b=>by
   rcases E with q | ⟨T',_,_,q,_⟩
   . rw[q];simp[Hv]
   rw[q];simp[Hv,eq_comm]
 have U:Un (frs X.stack) (Hv vs[1]?) H H s.heap h':=by
   refine⟨λ b o z l B N=>L.keep b o z (λ h=>?_) (λ h=>N ((k b).mpr h)) B,λ b o z l B N=>L.slot b o z B,λ _ _ _ l _=>l,λ b o z _=>L.there b o z,λ _ _ z=>z,λ _ _ _ z=>z,λ b ps z=>⟨#[],by rw[z];simp⟩⟩;rw[h,i] at l;cases l
 exact I.call (g':=s.gens) (t':=s.toks) (d':=s.drawn) (ch:=Hv vs[1]?) U A I.bare λ b f=>by
   have g:=(j b ((k b).mp f)).1;refine⟨.inr (zAn O.st g),Nat.ne_of_gt (zAb O.loc g),λ x c e=>zAl (zAb (O.cell x c e) g),λ p hp=>zAl (zAb (O.pin p hp) g)⟩
end
def Lands(X:Cx)(E:St->XK):Prop:=∀(Fb:List (γ×Obj))(σ:St)(H:Hp)(s:Sh)(a:γ)(n:Nat),M4 X Fb σ H s->Fly n H s.heap a->Old X Fb n->E σ (.ref a) none H->X.xe (.ref a) s
theorem Lands.passes{X:Cx}{E:St->XK}(h:Lands X E):qG8 (CX1 X.prog X.w) X E:=λ Fb σ H s e b I q=>by
 obtain⟨a,H',rfl,c,d,u,f,F,q⟩:=q;exact h Fb σ H' b a _ (I.call' (ch:=[]) c u f d λ _ z=>nomatch z) F I.old q
theorem qa2{cm:Bool}{P:Program}{w:World}{K:W.Frag}{mg:Str->Option V'}{base:Heap}{N:List Str}{qual:Str}{scope:Scope}{f:γ}{cd:V'}{A:Around}{outer:List Env}{s₀:Sh}{H₀:Hp}{E:XK} :
   Lands (Fv cm (CX1 P w) P w K mg base N qual scope f cd A outer s₀ H₀ E) (λ _=>E):=λ Fb σ H s a n I F O q=>by
 obtain⟨p,b,c,d,e,g⟩:=id F.ob;show wpAny _ _ (leaving _ _) _ _ s;unfold leaving;refine G' (qE9 (base:=base) (vs:=b) I.ok.frames I.stack rfl c d e ?_ λ r T L=>?_)
 . rcases g with z | ⟨T,h,i,j,_,_,k,l,m,o⟩
   . exact .inl z
   exact .inr ⟨T,h,i,j,k,l,m,o⟩
 obtain⟨J,F'⟩:=I.left (T:=T) F O c d L;exact⟨a,H,rfl,J.os,J.bare,J.base,J.hok,F'.mono O.st,q⟩
section
variable{X:Cx}{o e value:Expr}{pos pos':Pos}{ta tv:TE}{f:Str}
def sEF(K:W.Frag)(ta tv:TE)(f:Str):TS:=λ D σ H=>tv σ H λ y H1=>ta σ H1 λ x H2=>∃ a C,x=.ref a/\Exc K C/\qc8 K C f /\
 ((H2 a=some (Be a C none true)/\∀ dx,H2 dx=none->dx≠a->D.nx σ (upd (upd H2 dx (XD dx [(f,y)])) a (Be a C (some dx) true)))
  ∨ ∃ dx fs,H2 a=some (Be a C (some dx) true)/\H2 dx=some (XD dx fs)/\fs.length < 1000/\D.nx σ (upd H2 dx (XD dx (Bj f y fs))))
theorem qao6(g:PE X o ta)(i:PE X value tv)(j:swapsWith value (some (.Attribute o f pos')) pos.line X.env=pure false:=by rfl):PS X (.Assign [.Attribute o f pos'] value pos) (sEF X.K ta tv f):=by
 intro Fb s σ H D I h;refine plainObj_wpAny_Assign_Attribute (thn (i Fb s σ H _ I h) λ u k b=>?_) j;obtain⟨y,H1,I1,d,q⟩:=b;refine thn (g Fb k σ H1 _ I1 q) λ l w b=>?_
 obtain⟨x,H2,I2,m,a,C,p,c,n,q2⟩:=b;subst p;obtain rfl:l=Value.ref a:=m;rcases q2 with⟨ea,q2⟩ | ⟨e,fs,ea,ed,hl,q2⟩
 . exact qaz1 I2 ea c n d λ e r t v I3=>⟨σ,_,I3,q2 e t v⟩
 exact qaz0 I2 ea ed hl c n d λ r I3=>⟨σ,_,I3,q2⟩
def tEF(K:W.Frag)(ta:TE)(f:Str):TE:=λ σ H Q=>ta σ H λ x H1=>∃ a C dx fr fs v,x=.ref a/\H1 a=some (Be a C (some dx) fr)/\H1 dx=some (XD dx fs)/\Exc K C/\qc8 K C f/\fs.lookup f=some v/\Q v H1
theorem qaF8(d:PE X e ta)(g:Ly e f X.env (eval e X.env)=eval e X.env:=by rfl):PE X (.Attribute e f pos) (tEF X.K ta f):=by
 intro Fb s σ H Q I h;refine qar4 g (thn (d Fb s σ H _ I h) λ u p b=>?_);obtain⟨x,H1,I1,i,a,C,r,t,w,v,j,k,m,c,n,l,q⟩:=b;subst j;obtain rfl:u=Value.ref a:=i;exact qaL4 I1 k m c n l λ y z I2 o=>⟨v,H1,I2,o,q⟩
theorem qaF5{x:Str}(C:γ){pos:Pos}(hm:X.mg x=some (.ref C))(a:Gl X x:=by rfl)(b:N' x:=by decide):PE X (.Name x pos) (tC (.ref C)):=qX5 a hm rfl b
end
structure MkE(K:W.Frag)(C f:γ):Prop where
 exc:Exc K C
 mke:Hu K C=true
 init:W.findIn K (.ref C) "__init__" = some (some (.ref f))
 fn:W.isFn K (.ref f)=true
 kp:W.keepIn K (.ref C)=true
def qaN7(C:γ)(sp:Sp)(E:St->XK)(t:TA):TS:=λ D σ H=>t σ H λ vs H1=>vs.length<=1000/\∀ a,H1 a=none->sp (.ref a::vs) (upd H1 a (Be a C none true)) (λ v H2=>v=.non/\∃ b,H2 a=some (Be a C b true)/\E σ (.ref a) none (upd H2 a (Be a C b false))) E0
section
variable{X:Cx}{k:Nat}{f C:γ}{fd:δ}{ps:List Str}{sp:Sp}{E:St->XK}{x:Str}{np cpos pos:Pos}{e:Expr}{es:List Expr}{t:TA}
theorem qau4(M:MkE X.K C f)(F:Gc X.prog X.w X.K X.mg X.base CX0 k f fd ps sp)(L:Room (k+1) X.A)(hm:X.mg x=some (.ref C))(U:Binds X.K fd ps [])(Y:Lands X E)(Z:PA X (e::es) t)(hg:Gl X x:=by rfl)(m:N' x:=by decide)(he:Lq (e::es) X.env=(false,eval e X.env)::Lq es X.env:=by rfl)(n:(backTo cpos (Lq es X.env)).any (·.1)=false:=by rfl) :
   PS X (.Raise (some (.Call (.Name x np) (e::es) [] cpos)) none pos) (qaN7 C sp E t):=by
 intro Fb s σ H D I h;rw[arm_exec_Raise];refine G' (wpAny_standAt (qX0 (K:=X.K) (L.hd rfl) ?_));refine G' (wpAny_Call_Name_kw (qF0 I hg hm ?_ m));refine W.callWith_K (h₀:=X.base) I.ok.mod.kin M.kp (thn (Z cpos Fb s σ H _ I h) λ d s1 p=>?_) he n;obtain⟨vs,H1,I1,r,hz,q⟩:=p;refine⟨I1.kIn,?_⟩;obtain⟨c,g1,d1,t1,o1⟩:=s1;show wpAny _ _ (call (.ref C) d) _ _ _;refine qay9 I1.kIn M.mke M.init (zBp.mp M.fn) (by rw[<- r.length,Lz];lia) ?_;have nz:H1 (c.objs.size+1)=none:=I1.hok.fresh (Nat.le_succ _);have N:=q (c.objs.size+1) nz;have I2:=I1.kept (h':=c.push { cls:=.type "tuple",data:=.seq d.toArray }) (t':=t1) λ b u z=>zA2 _ z
 have g2:((c.push { cls:=.type "tuple",data:=.seq d.toArray }).push { cls:=.ref C,data:=.fields #[.ref c.objs.size,.none,.none,.none,.bool false,.none] }).get? (c.objs.size+1)=some { cls:=.ref C,data:=.fields #[.ref c.objs.size,.none,.none,.none,.bool false,.none] }:=by heap_get
 have I3:=I2.laid (a:=c.objs.size+1) (o:=Be (c.objs.size+1) C none true) (t':=t1) (h':=(c.push { cls:=.type "tuple",data:=.seq d.toArray }).push { cls:=.ref C,data:=.fields #[.ref c.objs.size,.none,.none,.none,.bool false,.none] })
   (λ b u z=>zA2 _ z) (zC4 (Heap.size_push _ _)) (qal2 ⟨_,_,g2,rfl,rfl,rfl,by simp,λ _=>by simp⟩)
 have O:Mz (V.ref (c.objs.size+1)::vs) (Value.ref (c.objs.size+1)::d):=.cons rfl r;have y:((Value.ref (c.objs.size+1)::d)++[]).length=ps.length:=by rw[zAf,<- O.length];exact F.len _ _ _ _ N
 have g:=U _ (Value.ref (c.objs.size+1)::d) I3.kIn y;rw[zAf] at g;refine wpAny_call (codeAny_mono (F.run _ X.stack _ _ ⟨Value.ref (c.objs.size+1)::d,[]⟩ (Value.ref (c.objs.size+1)::d) _ _ E0 (L.make C d []) (I3.env0.make C d []) g O N) λ B i z=>?_);cases B with
 | error e=>exact z.elim
 | ok fl =>
   cases fl with
   | ret u =>
     obtain⟨v,H',I4,rv,ev,P,Q,q4⟩:=I3.after z;subst ev;refine⟨rv,?_⟩;refine G' (wpAny_standAt (J' ?_));obtain⟨j,G,l,R,p3,J,S,T⟩:=qL2 I4.hok Q;refine⟨c.objs.size+1,j,G,C,rfl,I4.kIn,M.exc,l,R,J,T rfl,?_⟩;have I5:M4 X Fb σ (upd H' (c.objs.size+1) (Be (c.objs.size+1) C P false)) i :=
       I4.write (x:=c.objs.size+1) (e:=c.objs.size+1) (h':=i.heap) (t':=i.toks) (by rw[Q];exact True.intro) (.inl rfl) (λ _ _ _ z=>z) ⟨j,l⟩ (qal2 ⟨j,G,l,R,p3,J,S,λ z=>nomatch z⟩)
     exact Y Fb σ _ i (c.objs.size+1) c.objs.size I5 ⟨Nat.le_succ _,⟨C,P,qb3⟩,j,G,l,J,S,.inl (T rfl)⟩ I1.old q4
   | next=>exact False.elim z
   | brk=>exact False.elim z
   | cont=>exact False.elim z
end
noncomputable def Xt(X:Cx)(xe:V'->Sh->Prop)(pn:List (γ×Obj)):Cx:={ X with xe:=xe,pn:=pn }
noncomputable def Xh(X:Cx)(a:γ):Cx:={ X with A:=X.A.mark (some (.ref a)),calm:=false,xe:=λ _ _=>False }
section
variable{X:Cx}{Fb:List (γ×Obj)}{σ:St}{H:Hp}{s:Sh}{a:γ}{n:Nat}
theorem Cx.Ok.t{b:List (γ×Obj)}(a:X.Ok):(Xt X xe b).Ok :=
 ⟨a.mod,a.kind,a.glob,a.blt,a.above,a.inj,a.has,a.cab,a.hd,a.frames,a.stk,a.exf,a.bs,a.bsz,a.noex,a.exfs,a.funs,a.frf⟩
theorem Cx.Ok.h(b:X.Ok):(Xh X a).Ok :=
 ⟨b.mod,b.kind,b.glob,b.blt,b.above,b.inj,b.has,b.cab,λ z=>(by cases z),b.frames,b.stk,b.exf,b.bs,b.bsz,b.noex,b.exfs,b.funs,b.frf⟩
theorem M4.t(I:M4 X Fb σ H s):M4 (Xt X xe (X.pn++Fb)) [] σ H s :=
 ⟨I.ok.t,I.os,I.bare,I.base,I.loc,I.cell,I.free,I.freeC,λ p a=>I.pin p (by rw[zAf] at a;exact a),I.hok,I.len⟩
theorem M4.unt{pins':List (γ×Obj)}(a:X.Ok)(I:M4 (Xt X xe (X.pn++Fb)) pins' σ H s):M4 X Fb σ H s :=
 ⟨a,I.os,I.bare,I.base,I.loc,I.cell,I.free,I.freeC,λ p b=>I.pin p (zC1 _ b),I.hok,I.len⟩
theorem M4.h(I:M4 X Fb σ H s):M4 (Xh X a) Fb σ H s:=⟨I.ok.h,I.os,I.bare,I.base,I.loc,I.cell,I.free,I.freeC,I.pin,I.hok,I.len⟩
theorem M4.unh(b:X.Ok)(I:M4 (Xh X a) Fb σ H s):M4 X Fb σ H s:=⟨b,I.os,I.bare,I.base,I.loc,I.cell,I.free,I.freeC,I.pin,I.hok,I.len⟩
theorem qak6{M:Model}{A:Around}{E:V'->Sh->Prop}(I:M4 X Fb σ H s)(F:Fly n H s.heap a)(O:Old X Fb n)(h:∀ s',M4 X Fb σ H s'->Fly n H s'.heap a->Q () s') :
   wpAny M A (setFlight (.ref a) none) Q E s:=by
 obtain⟨v,w,g,i,y,B⟩:=F.ob;unfold setFlight;rcases B with z | ⟨T,J,K,l,d,m,r,t,j,C⟩
 . refine G' (wpAny_field g i z ?_)
   rw[if_neg (by decide)];exact J' (h s I F)
 refine G' (wpAny_field g i l ?_);rw[if_pos (show (Value.ref T != Value.none)=true from by simp)];have u:=(Array.getElem?_eq_some_iff.mp C).1;refine wpAny_setField t j u ?_;have other:∀ b,b≠T->(s.heap.update T (Obj.mapFields (·.setIfInBounds 3 ((none:Option γ).elim Value.none λ f=>rawInt f)))).get? b=s.heap.get? b:=λ b k=>zBc _ _ (Ne.symm k)
 have D:=zBo (Obj.mapFields (·.setIfInBounds 3 ((none:Option γ).elim Value.none λ f=>rawInt f))) t (Obj.isFreed_of_fields (Obj.data_mapFields j _));refine h _ (I.turned (it:=T) (t':=s.toks) (λ b o k q=>(other b k).trans q) m (Nat.ne_of_gt (zAb O.loc d)) (.inr (zAn O.st d)) (λ x c e=>zAl (zAb (O.cell x c e) d)) λ p G=>zAl (zAb (O.pin p G) d)) ?_;exact⟨F.ge,F.tr,v,w,(other a (Ne.symm r)).trans g,i,y,.inr ⟨T,_,_,l,d,m,r,D,Obj.data_mapFields j _,by simp[u]⟩⟩
theorem qO2{M:Model}{A:Around}{E:V'->Sh->Prop}{j:Nat}{x:Str}{pos:Pos}(I:M4 X Fb σ H s)(J:X.N.Nodup)(K:X.N[j]? = some x)(L:X.env.scope.names.lookup x=some .local)(h:∀ s',M4 X Fb (σ.set j none) H s'->Q () s'):wpAny M A (do bindName X.env x .none;unbindBehindTheSuite X.env x pos) Q E s:=by
 obtain⟨m,C,O⟩:=id I.loc;have f:(X.env.scope.kind == .class||(X.env.scope.kind == .module&&X.env.locals != X.env.globals))=false:=by rw[I.ok.kind];rfl
 have g:=I.cne;refine wpAny_nameGoes_keeps L C f λ h' v u a=>?_
 obtain⟨oL,_,_,P,_⟩:=id C;have w:∀ b o,X.s₀.heap.get? b=some o->b≠X.env.locals:=λ b o e=>zAl (zAb (zA7 e) I.ok.above)
 refine h _ ⟨I.ok,I.os,I.bare,⟨λ b o e n B l=>?_,λ b o e n B l=>?_,I.base.free,λ b o e l=>?_,I.base.tups,I.base.frzs,I.base.tbls⟩,⟨_,u,λ i y r D e2 R=>?_⟩,λ y c e=>?_,I.free,I.freeC,λ p S=>?_,λ b T e=>?_,by simpa using I.len⟩
 . exact(a.2 b (w b o e)).trans (I.base.keep b o e n B l)
 . obtain⟨U,q⟩:=I.base.slot b o e n B l
   exact⟨U,(a.2 b (w b o e)).trans q⟩
 . obtain⟨V,q⟩:=I.base.there b o e l
   exact⟨V,(a.2 b (w b o e)).trans q⟩
 . have F:i≠j:=λ z=>by
     subst z;by_cases W:i < σ.length
     . rw[zBw W] at e2;cases e2
     rw[List.getElem?_eq_none (by rw[List.length_set];lia)] at e2;cases e2
   rw[zBf (Ne.symm F)] at e2;obtain⟨Y,Z,q⟩:=O i y r D e2 R;refine⟨Y,Z,?_⟩;rcases q with⟨k,e⟩ | ⟨k,c,e,z⟩
   . refine .inl ⟨k,?_⟩
     have:y≠x:=λ e=>F (qK3 J D (e ▸ K))
     simp[this,e]
   exact .inr ⟨k,c,e,z.sameBut a (g y c e)⟩
 . obtain⟨r,z⟩:=I.cell y c e
   exact⟨r,z.sameBut a (g y c e)⟩
 . obtain⟨e,n,G,nf,d⟩:=I.pin p S
   exact⟨(a.2 p.1 G).trans e,n,G,nf,d⟩
 refine(I.hok b T e).stay (λ c r t q=>(a.2 c ?_).trans q) (λ _ q=>q) λ _ _ q=>q
 rintro rfl;rcases t with rfl | t
 . rw[I.free] at e;cases e
 rw[I.free] at t;cases t
end
def PH(X:Cx)(b:List ExceptHandler)(t:γ->TS):Prop :=
 ∀(Fb:List (γ×Obj))(s:Sh)(σ:St)(H:Hp)(D:Bm)(a:γ)(n:Nat),M4 X Fb σ H s->Fly n H s.heap a->Old X Fb n->t a D σ H->wpAny (model X.prog X.w) X.A (handleBy (.ref a) X.env b) (SP X Fb D) X.xe s
noncomputable def qaA1(j:Nat)(D:Bm):Bm:={ nx:=λ σ H=>D.nx (σ.set j none) H,rt:=D.rt,bk:=λ σ H=>D.bk (σ.set j none) H,ct:=λ σ H=>D.ct (σ.set j none) H }
section
variable{X:Cx}
theorem qaO5:PH X [] (λ _ _ _ _=>False):=λ _ _ _ _ _ _ _ _ _ _ h=>h.elim
def sTry(tb:(St->XK)->TS)(th:γ->TS):TS:=λ D σ H=>∃ E:St->XK,tb E D σ H/\∀ a σ' H',E σ' (.ref a) none H'->∃ σ'':St,σ''.length=σ'.length/\(∀(i:Nat)(v:V),σ''[i]? = some (some v)->σ'[i]? = some (some v))/\th a D σ'' H'
theorem qaO2{body:List Stmt}{h₀:ExceptHandler}{c:List ExceptHandler}{pos:Pos}{tb:(St->XK)->TS}{th:γ->TS}(y:∀ E xe m,Lands (Xt X xe m) E->PSs (Xt X xe m) body (tb E))(B:PH X (h₀::c) th)(b:X.stack=X.env::X.outer:=by rfl)(d:X.env.frame=some X.env.locals:=by rfl):PS X (.Try body (h₀::c) [] [] pos) (sTry tb th):=by
 intro Fb s σ H D I ⟨E,C,q2⟩;refine wpAny_Try_except ?_
 let xe:V'->Sh->Prop:=λ e s₁=>wpAny (model X.prog X.w) X.A (noteFrame e X.env) (λ _ s₂=>wpAny (model X.prog X.w) X.A (setFlight e none) (λ _ s₃=>wpAny (model X.prog X.w) X.A (handleBy e X.env (h₀::c)) (SP X Fb D) X.xe s₃) X.xe s₂) X.xe s₁
 have G:Lands (Xt X xe (X.pn++Fb)) E:=λ pins' σ' H' g a n I' F O q=>by
   have J:M4 X Fb σ' H' g:=I'.unt I.ok;have O':Old X Fb n:=⟨O.st,O.loc,O.cell,λ p K=>O.pin p (zC1 _ K)⟩
   obtain⟨V,o,r,x,M,N⟩:=id F.ob;show wpAny _ _ (noteFrame _ _) _ _ g;have h:X.A.frames=some (X.env::X.outer):=by rw[J.ok.frames,b]
   have i:g.heap.FunFrames X.base (X.env::X.outer):=by have:=J.stack;rwa[b] at this
   refine qE9 (base:=X.base) (vs:=o) h i d r x M ?_ λ W T L=>?_
   . rcases N with z | ⟨T,P,Q,j,_,_,k,l,R,S⟩
     . exact .inl z
     exact .inr ⟨T,P,Q,j,k,l,R,S⟩
   obtain⟨J2,F2⟩:=J.left (T:=T) F O' r x (by rw[b];exact L);obtain⟨σ'',j,k,l⟩:=q2 a σ' H' q;exact B Fb _ _ H' D a n (J2.weak j k) F2 O' l
 refine L9 (y E xe (X.pn++Fb) G [] s σ H D I.t C) (λ f Y z=>?_) λ _ _ z=>z
 cases f with
 | next=>obtain⟨σ',H',J,z⟩:=z;exact wpAny_execs_nil ⟨σ',H',J.unt I.ok,z⟩
 | brk=>obtain⟨σ',H',J,z⟩:=z;exact⟨σ',H',J.unt I.ok,z⟩
 | cont=>obtain⟨σ',H',J,z⟩:=z;exact⟨σ',H',J.unt I.ok,z⟩
 | ret u=>obtain⟨v,σ',H',J,U,z⟩:=z;exact⟨v,σ',H',J.unt I.ok,U,z⟩
end
end L2
namespace L2
open PySem PySem.Spec PyProof.Rows PySem.SeqAt
open PySem.AutoSeq1 (wpAny_loadPart')
theorem Fun.okX{P:Program}{w:World}{K:W.Frag}{mg:Str->Option V'}{base:Heap}{x qual:Str}{st:Stmt}{f:γ}{fd:δ}{N ps:List Str}{k:Nat}{sp:Sp}(F:Fun K x qual st f fd)(S:qa9 N ps (qa3 st))(len:∀ vs H Q E,sp vs H Q E->vs.length=ps.length)(hbody:∀(a:V')(A:Around)(outer:List Env)(s:Sh)(H:Hp)(vs:List V)(Q:VK)(E:XK),Room k (A.deeper (envOfC qual (qa3 st) s.heap.objs.size f a))->sp vs H Q E ->
     ∃ t,PSs (Fv true (CX1 P w) P w K mg base N qual (qa3 st) f a A outer s H E) (qc7 st) t/\t { nx:=λ _ H'=>Q .non H',rt:=Q } (start N vs) H):Gc P w K mg base (CX1 P w) (k+1) f fd ps sp:=by
 obtain⟨i,j,kV,d,l,m,a,n,e,rfl,g,b⟩:=F.ex;exact Kk g b S len λ A outer s H vs Q E h c=>hbody a A outer s H vs Q E h c
theorem qZ9(K:W.Frag)(C:γ):W.kitOne K (.ref C) (.ref C)=some true:=by
 unfold W.kitOne;rw[if_pos (zAv _)]
end L2
namespace L2
open PySem PySem.Spec PyProof.Rows
variable{xs:List V}
section
variable{X:Cx}{Fb:List (γ×Obj)}{σ:St}{H:Hp}{s:Sh}{h':Heap}
theorem M4.turnedL{t':Nat}{ch:List γ}(I:M4 X Fb σ H s)(k:∀ b o,b∉ch->s.heap.get? b=some o->h'.get? b=some o)(f:∀ b∈ch,Hm X Fb H b):M4 X Fb σ H { s with heap:=h',toks:=t' }:=by
 have d:∀ b u,H b=some u->b∉ch:=λ b u e z=>by rw[(f b z).1] at e;cases e
 refine I.step (g':=s.gens) (d':=s.drawn) (ch:=ch) (λ b g=>?_) (λ b o _ _ a e _=>k b o a e) (λ b o _ _ a e _=>⟨o.slots,k b o a e⟩) (λ _ _ _ _ n=>n)
   (λ b o a e=>⟨o,k b o a e⟩) (λ _ _ e=>e) (λ _ _ _ e=>e) (λ b w e=>⟨#[],by rw[e];simp⟩) (λ m h=>?_) (λ b u e=>?_) I.bare
 . obtain⟨x,f1,f2,f3,i,j⟩:=f b g
   exact⟨f3,f1,i,j⟩
 . obtain⟨o,l,p,t,r⟩:=h
   exact⟨o,l,p,k _ o (λ z=>(f _ z).2.1 rfl) t,r⟩
 refine(I.hok b u e).stay (λ c v a q=>k c v ?_ q) (λ _ q=>q) λ _ _ q=>q
 rcases a with z | z
 . rw[z];exact d b u e
 exact d c _ z
end
def Ite(K:W.Frag)(a:γ):It :=
 ⟨λ i H=>∃ xs x,SqL K H a xs/\xs[i]? = some x,λ i H x H'=>∃ t y,x=.ref t/\H t=none/\H'=upd H t (.q [.int (i:Int),y])/\∀ xs,SqL K H a xs->xs[i]? = some y,λ i H=>∃ xs,SqL K H a xs/\xs.length<=i⟩
theorem qaf7{P:Program}{w:World}{K:W.Frag}{elts:List Expr}{x1:Nat}{pos:Pos}(a it e:γ)(m:e≠it):Kd P w K (.Tuple elts x1 pos) (Ite K a) [e,it] e (λ i h=>(∃ old,IsEnum h e it (i:Nat) old)/\h.IsListIter it a i) where
 mem:=by simp
 obj:=λ i h d b c=>by
   obtain⟨⟨old,f⟩,o,ho,C,hd⟩:=d;rcases zAm.mp c with rfl | c
   . exact⟨_,f,λ v z=>by
       have z':Data.fields _=Data.cell v:=z;cases z'⟩
   rw[zAj.mp c];exact⟨o,ho,λ v z=>by rw[hd] at z;cases z⟩
 keep:=λ i h Z d k=>by
   obtain⟨⟨old,f⟩,d⟩:=d;exact⟨⟨old,k e (by simp) _ f⟩,d.at λ o q=>k it (by simp) o q⟩
 item:=by
   intro X D F G C i Fb s σ H E I n d J;subst D F G;obtain⟨xs,x,B,L⟩:=J;obtain⟨⟨old,f⟩,g⟩:=d;obtain⟨M,N,p,hz⟩:=I.list B;obtain⟨u,hu,ru⟩:=N.get L;have O:H s.heap.objs.size=none:=I.hok.fresh (zA3 _);obtain⟨oi,Q,_⟩:=id g;have r:e < s.heap.objs.size:=zA7 f;have t:it < s.heap.objs.size:=zA7 Q;refine wpAny_pyNext_enum_item f g p.isList (x:=u) (by simpa using hu) m λ h1 R y S a0 T=>?_
   refine⟨_,rfl,wpAny_letOwnedTupleGo_enum (s:={ s with heap:=h1,toks:=s.toks+1 }) R λ U V j=>?_⟩
   replace j:Heap.SameBut e h1 U:=j
   have I0:M4 X Fb σ (upd H s.heap.objs.size (.q [.int (i:Int),x])) { s with heap:=s.heap.push { cls:=.type "tuple",data:=.seq #[.int i s.toks,u] },toks:=s.toks+1 } :=
     I.laid (λ b o q=>zA2 _ q) (zA3 _) ⟨by show 2<=Lr;decide,[.int i s.toks,u],.cons ⟨_,rfl⟩ (.cons ru .nil),⟨_,zAz _ rfl,rfl,_,rfl⟩⟩
   have I2:M4 X Fb σ (upd H s.heap.objs.size (.q [.int (i:Int),x])) { s with heap:=U,toks:=s.toks+1 }:=by
     refine M4.turnedL (s:={ s with heap:=s.heap.push { cls:=.type "tuple",data:=.seq #[.int i s.toks,u] },toks:=s.toks+1 }) (h':=U) (ch:=[e,it]) (t':=s.toks+1) I0 (λ b o c q=>?_) (λ b c=>?_)
     . have A:b≠e:=λ z=>c (by simp[z])
       have Y:b≠it:=λ z=>c (by simp[z])
       refine j.extBut b o A ?_;rcases Heap.get?_push_cases (show (s.heap.push { cls:=.type "tuple",data:=.seq #[.int i s.toks,u] }).get? b=some o from q) with⟨rfl,rfl⟩ | q
       . exact S
       exact T b o A Y q
     refine⟨?_,(n b c).2⟩;have l:b < s.heap.objs.size:=by
       rcases zAm.mp c with rfl | c
       . exact r
       rw[zAj.mp c];exact t
     rw[qb4 (zAl l)];exact(n b c).1
   refine⟨.ref s.heap.objs.size,_,I2,rfl,⟨_,x,rfl,O,rfl,λ ys hy=>by rw[I.list_inj hy B];exact L⟩,⟨⟨u,?_⟩,?_⟩,λ b c=>?_⟩
   . have:((i+1:Nat):Int)=(i:Int)+1:=by push_cast;rfl
     rw[this];exact V
   . exact y.extBut j.extBut (Ne.symm m)
   have l:b < s.heap.objs.size:=by
     rcases zAm.mp c with rfl | c
     . exact r
     rw[zAj.mp c];exact t
   rw[qb4 (zAl l)];exact(n b c).1
 done:=by
   intro X D F G C i Fb s σ H E I n d J;subst D F G;obtain⟨xs,B,L⟩:=J;obtain⟨⟨old,f⟩,g⟩:=d;obtain⟨M,N,p,hz⟩:=I.list B;obtain⟨f0,f1,f2,f3,f4,f5⟩:=n it (by simp);have hl:=N.length;exact wpAny_pyNext_enum_end (I.ok.hd C) f g p.isList (by simp;lia) λ Z eb=>⟨rfl,I.turned (t':=s.toks) (λ b o c q=>eb b o c q) f0 f1 f3 f4 f5⟩
 self:=λ _ _ _ _ _ d h=>by
   obtain⟨⟨old,f⟩,_⟩:=d;exact wpAny_pyIter_enum f h
section
variable{X:Cx}
def iEnum(K:W.Frag)(ta:TA):TI:=λ σ H R=>ta σ H λ vs H1=>∃ a,vs=[.ref a]/\(∃ xs,SqL K H1 a xs)/\R (Ite K a) H1
theorem qaE8{l:Expr}{ta:TA}{elts:List Expr}{j:Nat}{p pos tpos:Pos}(k:Gl X "enumerate")(hm:X.mg "enumerate" = none)(m:PA X [l] ta)(n:Lq [l] X.env=[(false,eval l X.env)]:=by rfl):PI X (.Tuple elts j tpos) (.Call (.Name "enumerate" p) [l] [] pos) (iEnum X.K ta):=by
 intro Fb s σ H R I h;refine Call_ (qZ7 I k hm boot_enumerate (PyProof.Rows.callWith_type1 (thn (m pos Fb s σ H _ I h) λ B c f=>?_) n rfl));obtain⟨C,H1,I1,o,t⟩:=f;obtain⟨a,e,⟨D,u⟩,q⟩:=t;subst e;cases o with
 | cons r v =>
   cases v;cases r;obtain⟨w,E,x,F⟩:=I1.list u;refine call_enumerate_list x.isList λ G i y z A=>?_
   refine wpAny_pyIter_enum i ?_;refine⟨c.heap.objs.size+1,[c.heap.objs.size+1,c.heap.objs.size],_,_,H1,rfl,I1.kept (t':=c.toks) A,qaf7 a c.heap.objs.size (c.heap.objs.size+1) (Nat.succ_ne_self _),⟨⟨_,i⟩,y⟩,λ b g=>?_,q⟩;have d:c.heap.objs.size<=b:=by
     rcases zAm.mp g with rfl | g
     . exact Nat.le_succ _
     rw[zAj.mp g];exact zA3 _
   exact I1.fpOk d (I1.hok.fresh d)
end
section
variable{X:Cx}
def qaD2:V->List V->Hp->VK->Prop:=λ x vs H Q=>∃ l xs y j z,x=.ref l/\vs=[y]/\H l=some (.l xs)/\flatV y=true/\xs.all flatV=true/\xs[j]? = some z/\eqV z y=true/\(∀ m z',m < j->xs[m]? = some z'->eqV z' y=false)/\Q (.int (j:Nat)) H
theorem Mz.getU{us:List V'}(r:Mz xs us){j:Nat}{u:V'}(h:us[j]? = some u):∃ x,xs[j]? = some x/\Mx x u:=by
 have c:=r.length;have d:j < us.length:=(zA6.mp h).1;obtain⟨e,a,b⟩:=r.get (show xs[j]? = some xs[j] by simp);rw[h] at a;cases a;exact⟨_,by simp,b⟩
theorem qK4:MtM X "list.index" qaD2:=by
 intro Fb s σ H x N v O Q I f C h;obtain⟨l,p,y,j,P,rfl,rfl,D,E,t,A,g,i,q⟩:=h;cases f;obtain⟨u,rfl,G⟩:=C.one;obtain⟨z,a,n,r,R,e⟩:=I.lstM D;have J:j < p.length:=(zA6.mp A).1;have B:=r.length;have small:((j:Nat):Int) < 2 ^ 63 - 1:=by
   have:Lr < 2 ^ 62:=by decide
   lia
 have eqAt:∀ m (d:m < a.toArray.size),∃ x,p[m]? = some x/\eqU y a.toArray[m]=eqV x y:=λ m d=>by
   have K:m < a.length:=by simpa using d
   obtain⟨x,b,f⟩:=r.getU (show a[m]? = some a[m] by simp);have L:flatV x=true:=zBx.mp t x (zB4 b);refine⟨x,b,?_⟩
   have:=qal5 (x:=y) f L
   simpa using this
 have c:j < a.toArray.size:=by simp;lia
 refine Mc F.slot_list_index ⟨_,e,rfl⟩ F.entry_list_index (F.args_list_index_2 _ _) (SeqAt.list_indexAt l a.toArray n none #[] u (eqU y) j c small ?_ ?_) ⟨e,λ w M=>ql9 G E r t w (by simpa using M),⟨.int (j:Nat),H,I.tok _,⟨_,rfl⟩,q⟩⟩
 . obtain⟨x,b,k⟩:=eqAt j c
   rw[A] at b;cases b;rw[k];exact g
 intro m d o;obtain⟨x,b,k⟩:=eqAt m d;rw[k];exact i m x o b
def qaD4:V->List V->Hp->VK->Prop:=λ x vs H Q=>∃ l xs y,x=.ref l/\vs=[y]/\H l=some (.l xs)/\flatV y=true/\xs.all flatV=true/\Q (.int (xs.countP (λ z=>eqV z y):Nat)) H
theorem qP9{x:V}:∀{xs:List V}{us:List V'},Mz xs us->xs.all flatV=true->us.countP (eqU x)=xs.countP λ y=>eqV y x
 | _,_,.nil,_=>rfl
 | y::xs,u::us,.cons r t,f=>by
   rw[List.all_cons,zB9] at f;rw[List.countP_cons,List.countP_cons,qal5 r f.1,qP9 t f.2]
theorem qY7:MtM X "list.count" qaD4:=by
 intro Fb s σ H x k v m Q I c d h;obtain⟨l,o,y,rfl,rfl,f,g,b,q⟩:=h;cases c;obtain⟨u,rfl,i⟩:=d.one;obtain⟨z,a,n,r,p,e⟩:=I.lstM f;refine Mc F.slot_list_count ⟨_,e,rfl⟩ F.entry_list_count (F.args_list_count_2 _ _) (SeqAt.list_countAt l a.toArray n none #[] u (eqU y)) ⟨e,λ w j=>ql9 i g r b w (by simpa using j),⟨.int _,H,I.tok _,⟨_,rfl⟩,?_⟩⟩;rw[show a.toArray.toList.countP (eqU y)=a.countP (eqU y) by simp,qP9 r b];exact q
end
theorem qaT2{K:PySem.W.Frag}{a:γ}{g:TG}{tb:TS}{D:Bm}{σ:St}{H:Hp}(Pv:Nat->St->Hp->Prop)(d:Pv 0 σ H)(f:∀ i σ H,i<=xs.length->Pv i σ H->SqL K H a xs)(h:∀(i:Nat) x σ H t,xs[i]? = some x->Pv i σ H->H t=none->g (.ref t) σ (upd H t (.q [.int (i:Int),x])) λ σ2 H2=>tb { D with nx:=Pv (i+1),ct:=Pv (i+1),bk:=D.nx } σ2 H2)(j:∀ σ H,Pv xs.length σ H->D.nx σ H) :
   ∃ W:Nat->Nat->St->Hp->Prop,(∃ m,W 0 m σ H)/\∀ i m σ H,W i m σ H ->
     ((Ite K a).stop i H/\D.nx σ H)∨((Ite K a).go i H/\∃ N:St->Hp->Prop,(∀ σ' H',N σ' H'->∃ c,c < m/\W (i+1) c σ' H')/\∀ x H',(Ite K a).yld i H x H'->g x σ H' λ σ2 H2=>tb { D with nx:=N,ct:=N,bk:=D.nx } σ2 H2):=by
 refine⟨λ i m σ H=>m=xs.length - i/\i<=xs.length/\Pv i σ H,⟨xs.length,by simp,zBi _,d⟩,?_⟩;rintro i m σ H ⟨rfl,k,p⟩;have q:=f i σ H k p;by_cases b:i < xs.length
 . refine .inr ⟨⟨xs,xs[i],q,by simp[b]⟩,Pv (i+1),λ σ' H' l=>⟨xs.length - (i+1),by lia,rfl,b,l⟩,λ x H' y=>?_⟩
   obtain⟨t,n,e,o,r,s⟩:=y;subst e r;exact h i n σ _ t (s xs q) p o
 have e:i=xs.length:=by lia
 subst e;exact .inl ⟨⟨xs,q,zA3 _⟩,j σ H p⟩
theorem qam1{K:W.Frag}{a D:γ}{g:TG}{tf:TT}{te:TE}{R:Hp->Prop}{σ:St}{H:Hp}(Pv:Nat->St->Hp->Prop)(c:Pv 0 σ H)(d:∀ i σ H,i<=xs.length->Pv i σ H->SqL K H a xs)(f:∀(i:Nat) x σ H t,xs[i]? = some x->Pv i σ H->H t=none->g (.ref t) σ (upd H t (.q [.int (i:Int),x])) λ σ2 H2=>tf σ2 H2 λ h H3=>if h=true then te σ2 H3 λ v H4=>∃ ys,H4 D=some (.l ys)/\ys.length < Lr/\Pv (i+1) σ2 (upd H4 D (.l (ys++[v]))) else Pv (i+1) σ2 H3)(j:∀ σ H,Pv xs.length σ H->R H) :
   qD0 (Ite K a) g tf te D R σ H:=by
 refine⟨λ i m σ H=>m=xs.length - i/\i<=xs.length/\Pv i σ H,⟨xs.length,by simp,zBi _,c⟩,?_⟩;rintro i m σ H ⟨rfl,k,p⟩;have q:=d i σ H k p;by_cases b:i < xs.length
 . refine .inr ⟨⟨xs,xs[i],q,by simp[b]⟩,Pv (i+1),λ σ' H' l=>⟨xs.length - (i+1),by lia,rfl,b,l⟩,λ x H' y=>?_⟩
   obtain⟨t,n,e,o,r,s⟩:=y;subst e r;exact f i n σ _ t (s xs q) p o
 have e:i=xs.length:=by lia
 subst e;exact .inl ⟨⟨xs,q,zA3 _⟩,j σ H p⟩
end L2
namespace L2
open PySem PySem.Spec PyProof.Rows
noncomputable def qax6:List String:=["NoneType", "bool", "int", "str", "list", "tuple", "dict"]
structure IsO(K:W.Frag)(C:γ):Prop where
 ca:W.findIn K (.ref C) "__class__" = some (some (.builtin "object.__class__"))
 cn:W.specialIn K (.builtin "object.__class__") "__get__" = some (some (.builtin "getset_descriptor.__get__"))
 ct:W.takesIn K (.builtin "object.__class__")=some true
 cm:W.mroIn K C (.type "object")=some true
 kf:∀ t∈qax6,W.kitOne K (.type t) (.ref C)=some false
theorem kf_of{K:W.Frag}{C:γ}(h1:W.kitOne K (.type "NoneType") (.ref C)=some false)(h2:W.kitOne K (.type "bool") (.ref C)=some false)(b:W.kitOne K (.type "int") (.ref C)=some false)(c:W.kitOne K (.type "str") (.ref C)=some false)(d:W.kitOne K (.type "list") (.ref C)=some false)(e:W.kitOne K (.type "tuple") (.ref C)=some false)(f:W.kitOne K (.type "dict") (.ref C)=some false) :
   ∀ t∈qax6,W.kitOne K (.type t) (.ref C)=some false:=by
 intro t a;unfold qax6 at a;simp only[zAm,zBs,or_false] at a;rcases a with rfl | rfl | rfl | rfl | rfl | rfl | rfl<;>assumption
section
variable{X:Cx}
def rIsO(C:γ):List V->Hp->VK->Prop:=λ xs H Q=>∃ x,xs=[x,.ref C]/\((∃ a dx fs,x=.ref a/\H a=some (.ins C dx fs)/\Q (.bl true) H)∨(∃ t,B9 H x=some t/\Q (.bl false) H))
theorem qaz9{C:γ}(b:IsO X.K C)(g:Cls X.K C):CallR X (.builtin "isinstance") (rIsO C):=by
 intro Fb s σ H k l Q I r h;obtain⟨x,rfl,h⟩:=h;obtain⟨u,m,rfl,f,c⟩:=Hr r;cases c;rcases h with⟨a,dx,fs,rfl,ha,q⟩ | ⟨t,hk,q⟩
 . have e:W.kitOne X.K (.ref C) (.ref C)=some true:=by
     unfold W.kitOne;rw[if_pos (by simp)]
   exact qB9 I f (.ins ha g b.ca b.cn b.ct b.cm) e λ d=>⟨.bl true,H,I.tok d,rfl,q⟩
 obtain⟨i,j⟩:=qaa2 (K:=X.K) hk;exact qB9 I f i (b.kf t j) λ d=>⟨.bl false,H,I.tok d,rfl,q⟩
theorem qaP1{x:Str}(C:γ){pos:Pos}(hm:X.mg x=some (.ref C))(a:Gl X x:=by rfl)(b:N' x:=by decide):PE X (.Name x pos) (tC (.ref C)):=qX5 a hm rfl b
end
end L2
namespace Row
variable{a i j q s t:Nat}{g':Nat->Option Int}{x y:Int}
noncomputable def Aa(n h r:Nat):Nat:=if h<=r then r - h else r+n - h
noncomputable def prev(n r:Nat):Nat:=if r=0 then n - 1 else r - 1
noncomputable def next(n r:Nat):Nat:=if r+1=n then 0 else r+1
def ahead(n:Nat)(hm:Int->Nat)(r:Nat)(x y:Int):Prop:=Aa n (hm y) r < Aa n (hm x) r∨(Aa n (hm x) r=Aa n (hm y) r/\x < y)
theorem qz1{n:Nat}{hm:Int->Nat}{r:Nat}{z:Int}(h:ahead n hm r x y)(h':ahead n hm r y z):ahead n hm r x z:=by
 unfold ahead at *;lia
theorem qG7{n:Nat}{hm:Int->Nat}{r:Nat}(h:ahead n hm r x y)(h':ahead n hm r y x):False:=by
 unfold ahead at *;lia
theorem qan0{n:Nat}{hm:Int->Nat}{r:Nat}(h:ahead n hm r x x):False:=qG7 h h
theorem qam9{n:Nat}{hm:Int->Nat}{r:Nat}(h:x≠y)(h':¬ ahead n hm r x y):ahead n hm r y x:=by
 unfold ahead at *;lia
theorem qN1{n r:Nat}(h:r < n):next n r < n:=by unfold next;split<;>lia
theorem ql0{n r:Nat}(h:r < n):prev n r < n:=by unfold prev;split<;>lia
theorem qah9{n r:Nat}(h:r < n):prev n (next n r)=r:=by unfold prev next;split<;>split<;>lia
theorem qh6{n r:Nat}(h:r < n)(b:a < n):Aa n a r < n:=by unfold Aa;split<;>lia
theorem qg9{n r:Nat}(b:a < n)(h:r < n)(h':s < n)(e:Aa n a r=Aa n a s):r=s:=by
 unfold Aa at e;split at e<;>split at e<;>lia
theorem qf6{n r:Nat}(b:a < n)(h:r < n):Aa n a r=0↔r=a:=by unfold Aa;split<;>lia
theorem qi8{n r:Nat}(c:a < n)(h:r < n)(b:0 < Aa n a r):Aa n a (prev n r)=Aa n a r - 1:=by
 unfold Aa prev at *;split at b<;>split<;>split<;>lia
theorem qC2{n r:Nat}(c:a < n)(h:r < n)(b:Aa n a r+1 < n):Aa n a (next n r)=Aa n a r+1:=by
 unfold Aa next at *;split at b<;>split<;>split<;>lia
theorem nor(n s:Nat):(s+1=n/\next n s=0)∨(s+1≠n/\next n s=s+1):=by unfold next;split<;>lia
theorem por(n s:Nat):(s=0/\prev n s=n - 1)∨(s≠0/\prev n s=s - 1):=by unfold prev;split<;>lia
theorem dor(n a r:Nat):(a<=r/\Aa n a r+a=r)∨(r < a/\(a<=r+n->Aa n a r+a=r+n)):=by
 unfold Aa;split<;>lia
theorem Fm{n:Nat}(b:a < n)(hi:i < n)(c:s < n)(h:Aa n a i<=Aa n a s):Aa n a i+Aa n i s=Aa n a s:=by
 have d:=dor n a i;have e:=dor n a s;have f:=dor n i s;lia
theorem qT7{n:Nat}(b:a < n)(c:s < n)(d:t < n)(h:Aa n a s < Aa n a t):Aa n t s+Aa n a t=n+Aa n a s:=by
 have e:=dor n a s;have f:=dor n a t;have g:=dor n t s;lia
theorem qaT7{n:Nat}(a:s < n):Aa n (next n s) s+1=n:=by
 have b:=dor n (next n s) s;have c:=nor n s;lia
theorem qal8{n b:Nat}(f:a < n)(c:b < n)(d:j < n)(hi:i < n)(h1:Aa n a i<=Aa n a j)(h2:Aa n a j<=Aa n b j):Aa n b i+(Aa n a j - Aa n a i)=Aa n b j:=by
 have g:=Fm f hi d h1;have h:=qh6 hi c;rcases Nat.lt_or_ge (Aa n b j) (Aa n b i) with e | e
 . have:=qT7 c d hi e
   lia
 have:=Fm c hi d e
 lia
structure Ord(n:Nat)(hm:Int->Nat)(g:Nat->Option Int):Prop where
 home:∀ k,hm k < n
 inj:∀ i j k,i < n->j < n->g i=some k->g j=some k->i=j
 ord:∀ i k,i < n->g i=some k->0 < Aa n (hm k) i->∃ x,g (prev n i)=some x/\ahead n hm (prev n i) x k
def Ks(n:Nat)(hm:Int->Nat)(g:Nat->Option Int):Prop:=∃ i,i < n/\∀ k,g i=some k->hm k=i
theorem Ord.path{n:Nat}{hm:Int->Nat}{g:Nat->Option Int}(O:Ord n hm g):∀(m j i:Nat)(z:Int),j < n->i < n->g j=some z->Aa n (hm z) i+m+1=Aa n (hm z) j->∃ x,g i=some x/\ahead n hm i x z
 | 0,j,i,z,hj,hi,hz,e=>by
   have a:0 < Aa n (hm z) j:=by lia
   obtain⟨x,b,c⟩:=O.ord j z hj hz a
   have:=qi8 (O.home z) hj a
   have f:i=prev n j:=qg9 (O.home z) hi (ql0 hj) (by lia);rw[f];exact⟨x,b,c⟩
 | m+1,j,i,z,hj,hi,hz,e=>by
   have a:0 < Aa n (hm z) j:=by lia
   obtain⟨x,b,c⟩:=O.ord j z hj hz a;have o:=qi8 (O.home z) hj a;have d:=ql0 hj;have h:Aa n (hm z) (prev n j)<=Aa n (hm x) (prev n j):=by unfold ahead at c;lia
   have p:=qal8 (O.home z) (O.home x) d hi (by lia) h;obtain⟨y,k,l⟩:=O.path m (prev n j) i x d hi b (by lia);refine⟨y,k,qz1 l ?_⟩;unfold ahead at *;lia
theorem Ord.path'{n:Nat}{hm:Int->Nat}{g:Nat->Option Int}(O:Ord n hm g){z:Int}(a:j < n)(hi:i < n)(b:g j=some z)(h:Aa n (hm z) i < Aa n (hm z) j):∃ x,g i=some x/\ahead n hm i x z :=
 O.path (Aa n (hm z) j - Aa n (hm z) i - 1) j i z a hi b (by lia)
def G4(n:Nat)(hm:Int->Nat)(g:Nat->Option Int)(s:Nat):Prop:=∀ j z,j < n->g j=some z->Aa n (hm z) j<=Aa n (hm z) s
theorem Ord.zero{n:Nat}{hm:Int->Nat}{g:Nat->Option Int}(O:Ord n hm g)(C:Ks n hm g):∃ s,s < n/\G4 n hm g s:=by
 obtain⟨i,b,h⟩:=C;have l:=ql0 b;refine⟨prev n i,l,λ j z c k=>zC6 λ m=>?_⟩;have a:=O.home z;by_cases d:Aa n (hm z) i=0
 . have e:=(qf6 a b).mp d
   have:=qh6 c a
   have e2:Aa n (hm z) (prev n i)=n - 1:=by
     unfold Aa prev at *
     split<;>split<;>lia
   lia
 have q:=qi8 a b (by lia);by_cases f:Aa n (hm z) i=Aa n (hm z) j
 . have e:i=j:=qg9 a b c f
   subst e
   have:=h z k
   rw[this,(qf6 b b).mpr rfl] at d;exact d rfl
 obtain⟨x,o,p⟩:=O.path' c b k (by lia);have e:=h x o
 have:Aa n (hm x) i=0:=(qf6 (O.home x) b).mpr e.symm
 unfold ahead at p;lia
theorem qO9{α:Type}[DecidableEq α](x:α):∀(S:List α),S.Nodup->S.length<=(S.filter (λ y=>decide (y≠x))).length+1
 | [],_=>by simp
 | a::S,h=>by
   have b:=zCb.mp h;by_cases e:a=x
   . subst e
     have:S.filter (λ y=>decide (y≠a))=S:=List.filter_eq_self.mpr λ y c=>by
       simp only[ne_eq,zBh];intro z;subst z;exact b.1 c
     rw[List.filter_cons_of_neg (by simp),this];simp
   rw[List.filter_cons_of_pos (by simpa using e)]
   have:=qO9 x S b.2
   simp only[zAg];lia
theorem qm1{α:Type}[DecidableEq α](x:α):∀(S:List α),x∈S->(S.filter (λ y=>decide (y≠x))).length+1<=S.length
 | [],h=>by simp at h
 | a::S,h=>by
   by_cases e:a=x
   . rw[List.filter_cons_of_neg (by simp[e])]
     have:=List.length_filter_le (λ y=>decide (y≠x)) S
     simp only[zAg];lia
   rw[List.filter_cons_of_pos (by simpa using e)]
   have:=qm1 x S (by rcases zAm.mp h with z | z;exact absurd z.symm e;exact z)
   simp only[zAg];lia
theorem qy1{g:Nat->Option Int}:∀(L:List Nat)(S:List Int),S.Nodup->(∀ k∈S,∃ i∈L,g i=some k)->S.length<=L.length
 | [],S,_,h=>by
   cases S with
   | nil=>simp
   | cons k _=>obtain⟨i,f,_⟩:=h k (by simp);simp at f
 | i::L,S,hn,h=>by
   cases d:g i with
   | none =>
     have:=qy1 L S hn λ k a=>by
       obtain⟨j,c,e⟩:=h k a;rcases zAm.mp c with z | z
       . rw[z,d] at e;cases e
       exact⟨j,z,e⟩
     simp only[zAg];lia
   | some x =>
     have m:=qy1 L (S.filter (λ y=>decide (y≠x))) (hn.filter _) λ k a=>by
       obtain⟨a,b⟩:=zB7.mp a;obtain⟨j,c,e⟩:=h k a;rcases zAm.mp c with z | z
       . rw[z,d] at e
         have l:x=k:=Option.some.inj e;rw[l] at b;simp at b
       exact⟨j,z,e⟩
     have n:=qO9 x S hn;simp only[zAg];lia
theorem qM9{g:Nat->Option Int}:∀(L:List Nat)(S:List Int),L.Nodup->(∀ i∈L,∃ k∈S,g i=some k)->(∀ i∈L,∀ j∈L,∀ k,g i=some k->g j=some k->i=j)->L.length<=S.length
 | [],S,_,_,_=>by simp
 | i::L,S,c,h,inj=>by
   obtain⟨x,f,l⟩:=h i (by simp);have c:=zCb.mp c;have p:=qM9 L (S.filter (λ y=>decide (y≠x))) c.2 (λ j d=>by
     obtain⟨k,m,e⟩:=h j (zA5 _ d);refine⟨k,zB7.mpr ⟨m,?_⟩,e⟩;simp only[ne_eq,zBh];intro z;subst z
     have:=inj i (by simp) j (zA5 _ d) k l e
     exact c.1 (this ▸ d)) λ a n b o=>inj a (zA5 _ n) b (zA5 _ o)
   have q:=qm1 x S f;simp only[zAg];lia
def Holds(n:Nat)(g:Nat->Option Int)(S:List Int):Prop:=S.Nodup/\∀ k,k∈S↔∃ i,i < n/\g i=some k
theorem qaf1{n:Nat}{hm:Int->Nat}{g:Nat->Option Int}{S:List Int}(O:Ord n hm g)(O':Ord n hm g')(C':Ks n hm g')(J:Holds n g S)(w:Holds n g' S)(p:s < n)(Z:G4 n hm g s):G4 n hm g' s:=by
 obtain⟨K,F,Z'⟩:=O'.zero C';intro j z B q;refine zC6 λ v=>?_
 have R:∀ m,(∃ t,t < n/\Aa n t s<=m/\G4 n hm g' t)->∃ t,t < n/\G4 n hm g' t/\∀ u,u < n->Aa n u s < Aa n t s->¬ G4 n hm g' u:=by
   intro m
   induction m with
   | zero =>
     rintro⟨t,l,T,q⟩;exact⟨t,l,q,λ u _ h=>absurd h (by lia)⟩
   | succ m U =>
     rintro⟨t,l,T,q⟩;by_cases L:∃ u,u < n/\Aa n u s<=m/\G4 n hm g' u
     . exact U L
     exact⟨t,l,q,λ u V h W=>L ⟨u,V,by lia,W⟩⟩
 obtain⟨t,l,Zt,near⟩:=R (Aa n K s) ⟨K,F,zA3 _,Z'⟩
 let d:Nat->Bool:=λ r=>decide (Aa n r s < Aa n t s)
 have arcOf:∀ r,d r=true↔Aa n r s < Aa n t s:=λ r=>decide_eq_true_iff
 have o:=O'.home z;have M:=Zt j z B q;have Dz:Aa n (hm z) s < Aa n t s:=by
   have G:=qT7 o p l (zAb v M);have e2:=qh6 l o;lia
 have Dj:¬ Aa n j s < Aa n t s:=by
   have G:=qT7 o p l (zAb v M);have e2:=qT7 o p B v;lia
 have X:z∈S.filter (λ k=>d (hm k)):=zB7.mpr ⟨(w.2 z).mpr ⟨j,B,q⟩,(arcOf _).mpr Dz⟩;have p1:(S.filter (λ k=>d (hm k))).length<=((List.range n).filter d).length:=by
   refine qy1 (g:=g) _ _ (J.1.filter _) λ k H=>?_
   obtain⟨H,N⟩:=zB7.mp H;obtain⟨i,c,P⟩:=(J.2 k).mp H;have N:=(arcOf _).mp N;have Y:=Z i k c P;have f:=O.home k;refine⟨i,zB7.mpr ⟨zAp.mpr c,(arcOf _).mpr ?_⟩,P⟩;have G:=Fm f c p Y;lia
 have p2:((List.range n).filter d).length<=((S.filter (λ k=>d (hm k))).filter (λ y=>decide (y≠z))).length:=by
   refine qM9 (g:=g') _ _ (List.nodup_range.filter _) (λ i c=>?_) λ a ha b hb k=>O'.inj a b k (zAp.mp (zB7.mp ha).1) (zAp.mp (zB7.mp hb).1)
   obtain⟨c,C⟩:=zB7.mp c;have c:=zAp.mp c;have C:=(arcOf _).mp C;have nz:=near i c C;obtain⟨k,D⟩:∃ k,g' i=some k:=by
     cases e:g' i with
     | some k=>exact⟨k,rfl⟩
     | none =>
       refine absurd (λ j' y I hy=>zC6 λ A=>?_) nz;obtain⟨x,Q,_⟩:=O'.path' I c hy A;rw[e] at Q;cases Q
   have ki:=Zt i k c D;have f:=O'.home k;refine⟨k,zB7.mpr ⟨zB7.mpr ⟨(w.2 k).mpr ⟨i,c,D⟩,(arcOf _).mpr ?_⟩,?_⟩,D⟩
   . have l1:=qh6 l f
     rcases Nat.lt_or_ge (Aa n (hm k) s) (Aa n (hm k) t) with E | E
     . have:=qT7 f p l E
       lia
     have G:=Fm f l p E;have e2:=Fm f c p (zAn ki E);lia
   simp only[ne_eq,zBh];intro e;subst e
   have:=O'.inj i j k c B D q
   subst this;exact Dj C
 have p3:=qm1 z _ X;lia
theorem qae8{n:Nat}{hm:Int->Nat}{g:Nat->Option Int}{S:List Int}(O:Ord n hm g)(O':Ord n hm g')(z:Holds n g S)(l:Holds n g' S)(t:s < n)(Z:G4 n hm g s)(Z':G4 n hm g' s)(c:j < n)(A:∀ i,i < n->Aa n (next n s) i < Aa n (next n s) j->g i=g' i)(m:g j=some x):g' j=some x:=by
 have a:=qN1 t;have pos:∀{f:Nat->Option Int},G4 n hm f s->∀{i k},i < n->f i=some k->Aa n (next n s) (hm k)<=Aa n (next n s) i:=λ{f} Zf {i k} h D=>by
   have u:=Zf i k h D;have b:=O.home k;have P:=qaT7 t;have Q:=qh6 b a;have E:=Fm a b t (by lia);refine zC6 λ F=>?_
   have e2:=qT7 a h b F;lia
 have o:∀{i k},i < n->Aa n (next n s) (hm k)<=Aa n (next n s) j->Aa n (next n s) j < Aa n (next n s) i->Aa n (hm k) j < Aa n (hm k) i:=λ{i k} h u G=>by
   have b:=O.home k;have E:=Fm a b c u;have e2:=Fm a b h (zAn u (Nat.le_of_lt G));lia
 obtain⟨p,d,q⟩:=(l.2 x).mp ((z.2 x).mpr ⟨j,c,m⟩);have H:=pos Z c m;by_cases I:Aa n (next n s) p < Aa n (next n s) j
 . have e:=A p d I
   rw[q] at e
   have:=O.inj p j x d c e m
   subst this;exact q
 by_cases J:Aa n (next n s) p=Aa n (next n s) j
 . have e:=qg9 a d c J
   subst e;exact q
 exfalso;obtain⟨y,v,B⟩:=O'.path' d c q (o d H (by lia));obtain⟨i,h,r⟩:=(z.2 y).mp ((l.2 y).mpr ⟨j,c,v⟩);have K:=pos Z' c v;by_cases L:Aa n (next n s) i < Aa n (next n s) j
 . have e:=A i h L
   rw[r] at e
   have:=O'.inj i j y h c e.symm v
   subst this;lia
 by_cases M:Aa n (next n s) i=Aa n (next n s) j
 . have e:=qg9 a h c M
   subst e;rw[m] at r;cases r;exact qan0 B
 obtain⟨w,C,N⟩:=O.path' h c r (o h K (by lia));rw[m] at C;cases C;exact qG7 B N
theorem qaw0{n:Nat}{hm:Int->Nat}{g:Nat->Option Int}{S:List Int}(O:Ord n hm g)(O':Ord n hm g')(C:Ks n hm g)(C':Ks n hm g')(d:Holds n g S)(a:Holds n g' S):∀ j,j < n->g j=g' j:=by
 obtain⟨s,f,Z⟩:=O.zero C;have Z':=qaf1 O O' C' d a f Z;have main:∀ m j,j < n->Aa n (next n s) j < m->g j=g' j:=by
   intro m
   induction m with
   | zero=>intro j _ h;exact absurd h (by lia)
   | succ m l =>
     intro j c p;have b:∀ i,i < n->Aa n (next n s) i < Aa n (next n s) j->g i=g' i:=λ i k h=>l i k (by lia)
     cases e:g j with
     | some x=>exact(qae8 O O' d a f Z Z' c b e).symm
     | none =>
       cases o:g' j with
       | none=>rfl
       | some y =>
         have:=qae8 O' O a d f Z' Z c (λ i k h=>(b i k h).symm) o
         rw[e] at this;cases this
 exact λ j c=>main _ j c (zBy _)
noncomputable def set(g:Nat->Option Int)(r:Nat)(c:Int):Nat->Option Int:=λ j=>if j=r then some c else g j
theorem qb6{g:Nat->Option Int}{r:Nat}{c:Int}:set g r c r=some c:=by unfold set;rw[if_pos rfl]
theorem qd0{g:Nat->Option Int}{r:Nat}{c:Int}(h:j≠r):set g r c j=g j:=by unfold set;rw[if_neg h]
structure Walk(n:Nat)(wr:Bool)(hm:Int->Nat)(T:List Int)(k:Int)(e:Nat)(g:Nat->Option Int)(c:Int)(r:Nat):Prop where
 o:Ord n hm g
 nin:∀ i,i < n->g i≠some c
 hr:r < n
 pth:∀ j,j < n->Aa n (hm c) j < Aa n (hm c) r->∃ x,g j=some x/\ahead n hm j x c
 he:e < n
 ge:g e=none
 lim:Aa n (hm k) r<=Aa n (hm k) e
 all:∀ x,x∈T↔(x=c∨∃ i,i < n/\g i=some x)
 ln:wr=false->hm k<=e/\hm c<=r/\∀ i x,i < n->g i=some x->hm x<=i
section
variable{n:Nat}{wr:Bool}{hm:Int->Nat}{T:List Int}{k:Int}{e:Nat}{g:Nat->Option Int}{c:Int}{r:Nat}
theorem Walk.lt(W:Walk n wr hm T k e g c r)(a:g r=some y):Aa n (hm k) r < Aa n (hm k) e:=by
 have b:=W.lim
 have:r≠e:=λ z=>by have:=W.ge;rw[<- z,a] at this;cases this
 have d:Aa n (hm k) r≠Aa n (hm k) e:=λ z=>this (qg9 (W.o.home k) W.hr W.he z)
 lia
theorem Walk.nx(W:Walk n wr hm T k e g c r)(a:g r=some y):Aa n (hm k) (next n r)=Aa n (hm k) r+1:=by
 have b:=W.lt a;have d:=qh6 W.he (W.o.home k);exact qC2 (W.o.home k) W.hr (by lia)
theorem way(a:hm x < n)(c:j < n)(b:e < n)(d:g e=none)(f:∀ i,i < n->Aa n (hm x) i<=Aa n (hm x) j->∃ y,g i=some y):Aa n (hm x) j+1 < n:=by
 have k:=qh6 c a;have l:=qh6 b a;by_cases h:Aa n (hm x) e<=Aa n (hm x) j
 . obtain⟨y,q⟩:=f e b h
   rw[d] at q;cases q
 lia
theorem Walk.on(W:Walk n wr hm T k e g c r)(a:g r=some y)(h:¬ ahead n hm r c y):Walk n wr hm T k e g c (next n r):=by
 have v:=W.nx a;have A:=W.lt a;have b:=W.o.home c;have l:c≠y:=λ z=>W.nin r W.hr (by rw[z];exact a)
 have w:Aa n (hm c) r+1 < n:=way (g:=g) b W.hr W.he W.ge λ i d m=>by
   by_cases q:Aa n (hm c) i=Aa n (hm c) r
   . rw[qg9 b d W.hr q];exact⟨y,a⟩
   obtain⟨x,p,_⟩:=W.pth i d (by lia);exact⟨x,p⟩
 have B:=qC2 b W.hr w;refine⟨W.o,W.nin,qN1 W.hr,λ j f m=>?_,W.he,W.ge,by lia,W.all,λ s=>?_⟩
 . by_cases q:Aa n (hm c) j=Aa n (hm c) r
   . rw[qg9 b f W.hr q];exact⟨y,a,qam9 l h⟩
   exact W.pth j f (by lia)
 obtain⟨t,C,u⟩:=W.ln s;refine⟨t,?_,u⟩;have D:=dor n (hm k) r;have E:=dor n (hm k) e;have F:=nor n r
 have:=W.hr
 have:=W.he
 have:=W.o.home k
 lia
theorem Walk.swap(W:Walk n wr hm T k e g c r)(l:g r=some y)(h:ahead n hm r c y):Walk n wr hm T k e (set g r c) y (next n r):=by
 have J:=W.nx l;have K:=W.lt l;have D:=W.o.home c;have m:=W.o.home y;have E:c≠y:=λ z=>W.nin r W.hr (by rw[z];exact l)
 have F:e≠r:=λ z=>by have:=W.ge;rw[z,l] at this;cases this
 have w:Aa n (hm y) r+1 < n:=way (g:=g) m W.hr W.he W.ge λ i f u=>by
   by_cases q:Aa n (hm y) i=Aa n (hm y) r
   . rw[qg9 m f W.hr q];exact⟨y,l⟩
   obtain⟨x,s,_⟩:=W.o.path' W.hr f l (by lia);exact⟨x,s⟩
 have L:=qC2 m W.hr w;refine⟨⟨W.o.home,λ i j x f t a p=>?_,λ i x f a u=>?_⟩,λ i f a=>?_,qN1 W.hr,λ j t u=>?_,W.he,by rw[qd0 F];exact W.ge,by lia,λ x=>?_,λ G=>?_⟩
 . by_cases b:i=r
   . by_cases e2:j=r
     . rw[b,e2]
     rw[b,qb6] at a;rw[qd0 e2] at p;cases a;exact absurd p (W.nin j t)
   rw[qd0 b] at a;by_cases e2:j=r
   . rw[e2,qb6] at p
     cases p;exact absurd a (W.nin i f)
   rw[qd0 e2] at p;exact W.o.inj i j x f t a p
 . have H:=ql0 f
   by_cases b:i=r
   . subst b
     rw[qb6] at a;cases a;have d:=qi8 D f u;obtain⟨x,s,A⟩:=W.pth (prev n i) H (by lia)
     have:prev n i≠i:=λ z=>by rw[z] at d;lia
     exact⟨x,by rw[qd0 this];exact s,A⟩
   rw[qd0 b] at a;obtain⟨z,v,B⟩:=W.o.ord i x f a u;by_cases e2:prev n i=r
   . rw[e2] at v B ⊢
     rw[l] at v;cases v;exact⟨c,qb6,qz1 h B⟩
   exact⟨z,by rw[qd0 e2];exact v,B⟩
 . by_cases b:i=r
   . rw[b,qb6] at a
     exact E (Option.some.inj a)
   rw[qd0 b] at a;exact b (W.o.inj i r y f W.hr a l)
 . by_cases q:Aa n (hm y) j=Aa n (hm y) r
   . rw[qg9 m t W.hr q];exact⟨c,qb6,h⟩
   obtain⟨x,s,A⟩:=W.o.path' W.hr t l (by lia)
   have:j≠r:=λ z=>q (by rw[z])
   exact⟨x,by rw[qd0 this];exact s,A⟩
 . rw[W.all x]
   constructor
   . rintro (z | ⟨i,f,a⟩)
     . exact .inr ⟨r,W.hr,by rw[z];exact qb6⟩
     by_cases b:i=r
     . rw[b,l] at a
       exact .inl (Option.some.inj a).symm
     exact .inr ⟨i,f,by rw[qd0 b];exact a⟩
   rintro (z | ⟨i,f,a⟩)
   . exact .inr ⟨r,W.hr,by rw[z];exact l⟩
   by_cases b:i=r
   . rw[b,qb6] at a
     exact .inl (Option.some.inj a).symm
   rw[qd0 b] at a;exact .inr ⟨i,f,a⟩
 obtain⟨I,M,C⟩:=W.ln G;have N:=C r y W.hr l;refine⟨I,?_,λ i x f a=>?_⟩
 . have O:=dor n (hm k) r
   have P:=dor n (hm k) e;have Q:=nor n r
   have:=W.hr
   have:=W.he
   have:=W.o.home k
   lia
 by_cases b:i=r
 . rw[b,qb6] at a
   cases a;lia
 rw[qd0 b] at a;exact C i x f a
structure Kept(n:Nat)(wr:Bool)(hm:Int->Nat)(g:Nat->Option Int)(S:List Int):Prop where
 o:Ord n hm g
 c:Ks n hm g
 h:Holds n g S
 ln:wr=false->∀ i x,i < n->g i=some x->hm x<=i
theorem Walk.done(W:Walk n wr hm T k e g c r)(v:T.Nodup)(q:g r=none):Kept n wr hm (set g r c) T:=by
 have w:=W.o.home c;have h:=qN1 W.hr;refine⟨⟨W.o.home,λ i j x f t a l=>?_,λ i x f a p=>?_⟩,⟨next n r,h,λ x u=>?_⟩,⟨v,λ x=>?_⟩,λ y=>?_⟩
 . by_cases b:i=r
   . by_cases e2:j=r
     . rw[b,e2]
     rw[b,qb6] at a;rw[qd0 e2] at l;cases a;exact absurd l (W.nin j t)
   rw[qd0 b] at a;by_cases e2:j=r
   . rw[e2,qb6] at l
     cases l;exact absurd a (W.nin i f)
   rw[qd0 e2] at l;exact W.o.inj i j x f t a l
 . have A:=ql0 f
   by_cases b:i=r
   . subst b
     rw[qb6] at a;cases a;have d:=qi8 w f p;obtain⟨x,s,B⟩:=W.pth (prev n i) A (by lia)
     have:prev n i≠i:=λ z=>by rw[z] at d;lia
     exact⟨x,by rw[qd0 this];exact s,B⟩
   rw[qd0 b] at a;obtain⟨z,m,C⟩:=W.o.ord i x f a p;by_cases e2:prev n i=r
   . rw[e2,q] at m;cases m
   exact⟨z,by rw[qd0 e2];exact m,C⟩
 . have s:=W.o.home x
   by_cases b:next n r=r
   . have:=nor n r
     have:=W.hr
     lia
   rw[qd0 b] at u;by_cases p:0 < Aa n (hm x) (next n r)
   . obtain⟨z,m,_⟩:=W.o.ord _ x h u p
     rw[qah9 W.hr,q] at m;cases m
   exact((qf6 s h).mp (by lia)).symm
 . rw[W.all x]
   constructor
   . rintro (z | ⟨i,f,a⟩)
     . exact⟨r,W.hr,by rw[z];exact qb6⟩
     exact⟨i,f,by rw[qd0 (λ z=>by rw[z,q] at a;cases a)];exact a⟩
   rintro⟨i,f,a⟩;by_cases b:i=r
   . rw[b,qb6] at a
     exact .inl (Option.some.inj a).symm
   rw[qd0 b] at a;exact .inr ⟨i,f,a⟩
 obtain⟨E,F,D⟩:=W.ln y;intro i x f a;by_cases b:i=r
 . rw[b,qb6] at a
   cases a;lia
 rw[qd0 b] at a;exact D i x f a
def Free(n:Nat)(wr:Bool)(hm:Int->Nat)(g:Nat->Option Int)(k:Int)(e:Nat):Prop:=e < n/\g e=none/\(wr=false->hm k<=e)
theorem Kept.start{S:List Int}(K:Kept n wr hm g S)(c:¬ k∈S)(F:Free n wr hm g k e):Walk n wr hm (S++[k]) k e g k (hm k):=by
 have a:=K.o.home k;have z:=(qf6 a a).mpr rfl;refine⟨K.o,λ i d f=>c ((K.h.2 k).mpr ⟨i,d,f⟩),a,λ j _ l=>by lia,F.1,F.2.1,by lia,λ x=>?_,λ b=>⟨F.2.2 b,zA3 _,K.ln b⟩⟩;rw[zAe,zAj,K.h.2 x];exact⟨Or.symm,Or.symm⟩
def Crowd(n:Nat)(wr:Bool)(hm:Int->Nat)(T:List Int)(q:Nat):Prop:=q < n/\if wr=true then q=0/\n < T.length else n - q < (T.filter (λ k=>decide (q<=hm k))).length
theorem qH5(h:i∈(List.range (n - q)).map (q + ·)):q<=i/\i < n:=by
 obtain⟨j,a,rfl⟩:=zB8.mp h
 have:=zAp.mp a
 lia
theorem qax1(h:q<=i)(h':i < n):i∈(List.range (n - q)).map (q + ·):=zB8.mpr ⟨i - q,zAp.mpr (by lia),by lia⟩
theorem qU9{m:Nat}:((List.range m).map (q + ·)).Nodup:=by
 rw[List.nodup_iff_pairwise_ne,zBl];exact(List.nodup_iff_pairwise_ne.mp List.nodup_range).imp λ h=>by lia
theorem Kept.no_crowd{S:List Int}(K:Kept n wr hm g S)(q:Nat):¬ Crowd n wr hm S q:=by
 rintro⟨d,h⟩;cases wr with
 | true =>
   rw[if_pos rfl] at h
   have:=qy1 (g:=g) (List.range n) S K.h.1 λ k a=>by
     obtain⟨i,b,c⟩:=(K.h.2 k).mp a;exact⟨i,zAp.mpr b,c⟩
   rw[zBa] at this;lia
 | false =>
   rw[if_neg (by decide)] at h
   have:=qy1 (g:=g) ((List.range (n - q)).map (q + ·)) (S.filter (λ k=>decide (q<=hm k))) (K.h.1.filter _) λ k a=>by
     obtain⟨a,d⟩:=zB7.mp a;obtain⟨i,b,c⟩:=(K.h.2 k).mp a
     have:=K.ln rfl i k b c
     have d:=zAa d;exact⟨i,qax1 (by lia) b,c⟩
   rw[zA8,zBa] at this;lia
theorem Kept.crowd{S:List Int}(K:Kept n wr hm g S)(u:∀ e,¬ Free n wr hm g k e):∃ q,Crowd n wr hm (S++[k]) q:=by
 have v:=K.o.home k;have full:∀ e,e < n->(wr=false->hm k<=e)->∃ x,g e=some x:=λ e f s=>by
   cases h:g e with
   | some x=>exact⟨x,rfl⟩
   | none=>exact absurd ⟨f,h,s⟩ (u e)
 cases wr with
 | true =>
   refine⟨0,by lia,?_⟩;rw[if_pos rfl];refine⟨rfl,?_⟩
   have:=qM9 (g:=g) (List.range n) S List.nodup_range (λ i b=>by
     obtain⟨x,c⟩:=full i (zAp.mp b) (λ z=>by cases z);exact⟨x,(K.h.2 x).mpr ⟨i,zAp.mp b,c⟩,c⟩) λ i b j p x=>K.o.inj i j x (zAp.mp b) (zAp.mp p)
   rw[zBa] at this;rw[zAd];simp only[zAg,zBn];lia
 | false =>
   have w:∀ m,m<=hm k->(∀ e,m<=e->e < n->∃ x,g e=some x)->∃ q,q<=hm k/\(∀ e,q<=e->e < n->∃ x,g e=some x)/\(q=0∨g (q - 1)=none):=by
     intro m
     induction m with
     | zero=>exact λ d a=>⟨0,d,a,.inl rfl⟩
     | succ m A =>
       intro d a;cases h:g m with
       | none=>exact⟨m+1,d,a,.inr h⟩
       | some x =>
         refine A (by lia) λ e f r=>?_
         by_cases q:e=m
         . rw[q];exact⟨x,h⟩
         exact a e (by lia) r
   obtain⟨q,B,C,l⟩:=w (hm k) (zA3 _) λ e f r=>full e r λ _=>f
   refine⟨q,by lia,?_⟩;rw[if_neg (by decide)]
   have:=qM9 (g:=g) ((List.range (n - q)).map (q + ·)) (S.filter (λ k=>decide (q<=hm k))) qU9 (λ i b=>by
     obtain⟨d,a⟩:=qH5 b;obtain⟨x,c⟩:=C i d a;refine⟨x,zB7.mpr ⟨(K.h.2 x).mpr ⟨i,a,c⟩,zA9 ?_⟩,c⟩;have D:=K.o.home x;have s:=K.ln rfl i x a c;refine zC6 λ E=>?_
     rcases l with l | l
     . lia
     obtain⟨y,t,_⟩:=K.o.path' (i:=q - 1) a (by lia) c (by
       have G:=dor n (hm x) (q - 1);have H:=dor n (hm x) i
       lia)
     rw[l] at t;cases t) λ i b j p x=>K.o.inj i j x (qH5 b).2 (qH5 p).2
   rw[zA8,zBa] at this;have F:([k].filter (λ k=>decide (q<=hm k))).length=1:=by simp[B]
   rw[List.filter_append,zAd,F];lia
theorem Crowd.mono{S T:List Int}(h:Crowd n wr hm S q)(a:S.Sublist T):Crowd n wr hm T q:=by
 obtain⟨b,h⟩:=h;refine⟨b,?_⟩;cases wr with
 | true =>
   rw[if_pos rfl] at h ⊢
   have:=a.length_le
   exact⟨h.1,by lia⟩
 | false =>
   rw[if_neg (by decide)] at h ⊢
   have:=(a.filter (λ k=>decide (q<=hm k))).length_le
   lia
theorem Crowd.perm{S T:List Int}(h:Crowd n wr hm S q)(a:S.Perm T):Crowd n wr hm T q:=by
 obtain⟨b,h⟩:=h;refine⟨b,?_⟩;rw[<- a.length_eq,<- (a.filter _).length_eq];exact h
theorem Kept.none(a:0 < n)(b:∀ k,hm k < n):Kept n wr hm (λ _=>none) [] :=
 ⟨⟨b,(λ _ _ _ _ _ h=>by cases h),λ _ _ _ h=>by cases h⟩,⟨0,a,λ _ h=>by cases h⟩,⟨List.nodup_nil,λ k=>⟨λ h=>by simp at h,λ ⟨_,_,h⟩=>by cases h⟩⟩,λ _ _ _ _ h=>by cases h⟩
theorem Kept.same{S S':List Int}(K:Kept n wr hm g S)(K':Kept n wr hm g' S')(a:∀ k,k∈S↔k∈S'):∀ j,j < n->g j=g' j :=
 qaw0 K.o K'.o K.c K'.c K.h ⟨K.h.1,λ k=>(a k).trans (K'.h.2 k)⟩
end
noncomputable def rot(n s t:Nat):Nat:=if s+t < n then s+t else s+t - n
theorem qaC8{n:Nat}(a:s < n)(b:t < n):rot n s t < n:=by unfold rot;split<;>lia
theorem qL4{n:Nat}(a:s < n)(b:t < n):Aa n s (rot n s t)=t:=by
 have d:=dor n s (rot n s t);unfold rot at d ⊢;split at d<;>split<;>lia
theorem qW8{n:Nat}(a:s < n)(hi:i < n):rot n s (Aa n s i)=i:=by
 have d:=dor n s i;unfold rot
 split<;>lia
theorem qao0{n:Nat}(a:s < n)(b:t < n):(s+t) % n=rot n s t:=by
 unfold rot;split
 . exact zC7 (by assumption)
 rw[Nat.mod_eq_sub_mod (by lia)];exact zC7 (by lia)
def Kt(hm:Int->Nat)(x y:Int):Prop:=hm x < hm y∨(hm x=hm y/\x < y)
structure Fill(n:Nat)(hm:Int->Nat)(g:Nat->Option Int)(S:List Int)(top:Nat):Prop where
 k:Kept n false hm g S
 free:∀ i,top<=i->i < n->g i=none
 last:0 < top->∃ x,g (top - 1)=some x/\x∈S
 le:top<=n
theorem Fill.start{n:Nat}{hm:Int->Nat}(a:0 < n)(b:∀ k,hm k < n):Fill n hm (λ _=>none) [] 0:=⟨Kept.none a b,λ _ _ _=>rfl,λ h=>absurd h (by lia),by lia⟩
section
variable{n:Nat}{hm:Int->Nat}{g:Nat->Option Int}{S:List Int}{top:Nat}{k:Int}
theorem Fill.put(F:Fill n hm g S top)(l:¬ k∈S)(C:∀ x∈S,Kt hm x k)(m:max top (hm k) < n):Fill n hm (set g (max top (hm k)) k) (S++[k]) (max top (hm k)+1):=by
 generalize J:max top (hm k)=r at m ⊢;have p:top<=r:=by lia
 have q:hm k<=r:=by lia
 have D:g r=none:=F.free r p m;have below:∀ i x,i < n->g i=some x->i < top:=λ i x b a=>by
   by_cases h:top<=i
   . rw[F.free i h b] at a;cases a
   lia
 have s:∀ i x,i < n->set g r k i=some x->hm x<=i:=λ i x b a=>by
   by_cases e:i=r
   . subst e;rw[qb6] at a;cases a;exact q
   rw[qd0 e] at a;exact F.k.ln rfl i x b a
 have mem:∀ i x,i < n->g i=some x->x∈S:=λ i x b a=>(F.k.h.2 x).mpr ⟨i,b,a⟩
 refine⟨⟨⟨F.k.o.home,λ i j x b z a d=>?_,λ i x b a t=>?_⟩,⟨0,by lia,λ x E=>?_⟩,⟨?_,λ x=>⟨λ c=>?_,λ ⟨i,b,a⟩=>?_⟩⟩,λ _ i x b a=>s i x b a⟩,λ i b G=>?_,λ _=>⟨k,by rw[Nat.add_sub_cancel,qb6],zAw _ (zAj.mpr rfl)⟩,by lia⟩
 . by_cases u:i=r
   . by_cases e2:j=r
     . rw[u,e2]
     subst u;rw[qb6] at a;cases a;rw[qd0 e2] at d;exact absurd (mem j _ z d) l
   rw[qd0 u] at a;by_cases e2:j=r
   . subst e2;rw[qb6] at d;cases d
     exact absurd (mem i _ b a) l
   rw[qd0 e2] at d;exact F.k.o.inj i j x b z a d
 . have c:=s i x b a
   have K:i≠0:=λ e=>by
     have:=(qf6 (F.k.o.home x) b).mpr (by lia)
     lia
   have A:prev n i=i - 1:=by rcases por n i with h | h<;>lia
   by_cases e:i=r
   . subst e
     rw[qb6] at a;cases a;have H:hm k < i:=by
       unfold Aa at t;split at t<;>lia
     have B:top=i:=by lia
     obtain⟨y,f,v⟩:=F.last (by lia);have w:hm y<=i - 1:=F.k.ln rfl (i - 1) y (by lia) (by rw[<- B];exact f);refine⟨y,by rw[A,qd0 (by lia),<- B];exact f,?_⟩;rw[A];unfold ahead Aa;rw[if_pos (by lia),if_pos w];rcases C y v with h | h
     . exact .inl (by lia)
     exact .inr ⟨by lia,h.2⟩
   rw[qd0 e] at a;have L:=below i x b a;obtain⟨y,f,I⟩:=F.k.o.ord i x b a t;exact⟨y,by rw[qd0 (by lia)];exact f,I⟩
 . have:=s 0 x (by lia) E
   lia
 . refine zBt.mpr ⟨F.k.h.1,(by simp),λ x c y v e=>?_⟩
   rw[zAj.mp v] at e;exact l (e ▸ c)
 . rcases zAe.mp c with c | c
   . obtain⟨i,b,a⟩:=(F.k.h.2 x).mp c
     exact⟨i,b,by rw[qd0 λ e=>by rw[e,D] at a;cases a];exact a⟩
   rw[zAj.mp c];exact⟨r,m,qb6⟩
 . by_cases e:i=r
   . subst e;rw[qb6] at a;cases a
     exact zAw _ (zAj.mpr rfl)
   rw[qd0 e] at a;exact zC1 _ (mem i x b a)
 rw[qd0 (by lia)];exact F.free i (by lia) G
theorem Fill.room(F:Fill n hm g S top)(i:∀ x∈S,Kt hm x k)(j:∀ q,¬ Crowd n false hm (S++[k]) q):max top (hm k) < n:=by
 have u:=F.k.o.home k;have l:=F.le;by_cases h:top < n
 . lia
 have v:top=n:=by lia
 obtain⟨q,c⟩:=F.k.crowd (k:=k) λ e ⟨m,b,a⟩=>by
   have a:=a rfl;obtain⟨y,d,p⟩:=F.last (by lia);have f:=F.k.ln rfl (top - 1) y (by lia) d;have r:hm y<=hm k:=by rcases i y p with h | h<;>lia
   by_cases s:e=top - 1
   . rw[s,d] at b;cases b
   obtain⟨x,t,_⟩:=F.k.o.path' (by lia) m d (show Aa n (hm y) e < Aa n (hm y) (top - 1) by unfold Aa;rw[if_pos (by lia),if_pos f];lia);rw[t] at b;cases b
 exact absurd c (j q)
end
noncomputable def G5(hm:Int->Nat)(T:List Int)(r:Nat):Nat:=(T.filter λ k=>decide (hm k=r)).length
noncomputable def Go(hm:Int->Nat)(T:List Int)(q r:Nat):Nat:=(T.filter λ k=>decide (q<=hm k/\hm k < r)).length
theorem qQ3{hm:Int->Nat}{q r:Nat}(h:q<=r):∀ T:List Int,Go hm T q (r+1)=Go hm T q r+G5 hm T r
 | []=>rfl
 | k::T=>by
   have a:=qQ3 (hm:=hm) h T;unfold Go G5 at a ⊢;simp only[List.filter_cons,zBh]
   split<;>split<;>split<;>(try simp only[zAg])<;>lia
theorem qam3{hm:Int->Nat}{r:Nat}(T:List Int):Go hm T r r=0:=by
 unfold Go;rw[List.length_eq_zero_iff,List.filter_eq_nil_iff];intro k _ h
 have:=zAa h
 lia
section
variable{n:Nat}{hm:Int->Nat}{g:Nat->Option Int}{S:List Int}{k:Int}
theorem Kept.len{wr:Bool}(KP:Kept n wr hm g S):S.length<=n:=by
 have:=qy1 (g:=g) (List.range n) S KP.h.1 λ k a=>by
   obtain⟨i,b,e⟩:=(KP.h.2 k).mp a;exact⟨i,zAp.mpr b,e⟩
 rwa[zBa] at this
end
noncomputable def onC(c:Nat->Nat):Nat->Int
 | 0=>0
 | r+1=>if onC c r+(c r:Int) - 1 > 0 then onC c r+(c r:Int) - 1 else 0
noncomputable def sumC(c:Nat->Nat)(q:Nat):Nat->Nat
 | 0=>0
 | m+1=>sumC c q m+c (q+m)
section
variable{c:Nat->Nat}
theorem qE3:∀ r:Nat,0<=onC c r
 | 0=>Int.le_refl _
 | r+1=>by unfold onC;split<;>lia
theorem qaw2{q:Nat}:∀ m:Nat,(sumC c q m:Int) - (m:Int)<=onC c (q+m)
 | 0=>by have:=qE3 (c:=c) q;show ((0:Nat):Int) - _<=_;rw[Nat.add_zero];lia
 | m+1=>by
   have:=qaw2 (q:=q) m
   show ((sumC c q m+c (q+m):Nat):Int) - _<=onC c (q+m+1);unfold onC
   split<;>lia
theorem qaw3:∀ r:Nat,onC c r=0∨∃ q m,q+m=r/\0 < m/\onC c r=(sumC c q m:Int) - (m:Int)
 | 0=>.inl rfl
 | r+1=>by
   by_cases h:onC c r+(c r:Int) - 1 > 0
   . right
     have e:onC c (r+1)=onC c r+(c r:Int) - 1:=if_pos h;rcases qaw3 r with b | ⟨q,m,a,d,f⟩
     . exact⟨r,1,rfl,by lia,by rw[e];show _=((0+c (r+0):Nat):Int) - _;rw[Nat.add_zero];lia⟩
     exact⟨q,m+1,by lia,by lia,by rw[e];show _=((sumC c q m+c (q+m):Nat):Int) - _;rw[a];lia⟩
   exact .inl (if_neg h)
theorem qV1{q m:Nat}:∀ l:Nat,sumC c q (m+l)=sumC c q m+sumC c (q+m) l
 | 0=>rfl
 | l+1=>by
   show sumC c q (m+l)+c (q+(m+l))=sumC c q m+(sumC c (q+m) l+c (q+m+l))
   rw[qV1 l,show q+(m+l)=q+m+l by lia];lia
end
section
variable{n b:Nat}{hm:Int->Nat}{T:List Int}
def cR(n:Nat)(hm:Int->Nat)(T:List Int):Nat->Nat:=λ t=>G5 hm T (t % n)
theorem qaU2:cR n hm T (n+t)=cR n hm T t:=by unfold cR;rw[Nat.add_mod_left]
theorem qan5{q:Nat}:∀ m,sumC (cR n hm T) (n+q) m=sumC (cR n hm T) q m
 | 0=>rfl
 | m+1=>by
   show sumC _ (n+q) m+cR n hm T (n+q+m)=_;rw[qan5 m,Nat.add_assoc,qaU2];rfl
theorem qz3{s q:Nat}(a:b < n)(c:s % n=b)(d:∀ k,hm k < n):∀ m,q+m<=n->sumC (cR n hm T) (s+q) m=Go (λ k=>Aa n b (hm k)) T q (q+m)
 | 0,_=>by rw[Nat.add_zero,qam3];rfl
 | m+1,h=>by
   show sumC _ (s+q) m+cR n hm T (s+q+m)=_;rw[qz3 a c d m (by lia),show q+(m+1)=q+m+1 by lia,qQ3 (by lia)];congr 1;unfold cR G5;congr 1;refine List.filter_congr λ k _=>zBz.mpr ?_
   have e:(s+q+m) % n=rot n b (q+m):=by rw[Nat.add_assoc,Nat.add_mod,c,zC7 (show q+m < n by lia),qao0 a (by lia)]
   rw[e];constructor
   . intro z;show Aa n b (hm k)=_;rw[z,qL4 a (by lia)]
   intro z;rw[<- show Aa n b (hm k)=_ from z,qW8 a (d k)]
theorem qaz7(a:∀ k,hm k < n):Go hm T 0 n=T.length:=by
 unfold Go;rw[List.filter_eq_self.mpr λ k _=>zA9 ⟨zBi _,a k⟩]
theorem qaB8(a:0 < n)(c:∀ k,hm k < n):sumC (cR n hm T) 0 n=T.length:=by
 have:=qz3 (T:=T) (s:=0) (q:=0) (b:=0) a (Nat.zero_mod n) c n (by lia)
 rw[Nat.add_zero,zAr] at this;rw[this];refine(qaz7 (hm:=λ k=>Aa n 0 (hm k)) λ k=>qh6 (c k) a)
theorem qai3(f:0 < n)(a:∀ k,hm k < n):0 < onC (cR n hm T) n↔∃ q,Crowd n false hm T q:=by
 have e:∀ q,q<=n->sumC (cR n hm T) q (n - q)=(T.filter λ k=>decide (q<=hm k)).length:=λ q d=>by
   have:=qz3 (T:=T) (s:=0) (q:=q) (b:=0) f (Nat.zero_mod n) a (n - q) (by lia)
   rw[zAr,show q+(n - q)=n by lia] at this;rw[this];unfold Go;congr 2;exact funext λ k=>zBz.mpr (by have:=a k;have i:Aa n 0 (hm k)=hm k:=if_pos (zBi _);dsimp only;lia)
 constructor
 . intro h
   rcases qaw3 (c:=cR n hm T) n with j | ⟨q,m,d,g,l⟩
   . lia
   refine⟨q,by lia,?_⟩;rw[if_neg (by decide),<- e q (by lia),show n - q=m by lia];lia
 rintro⟨q,d,h⟩;rw[if_neg (by decide),<- e q (by lia)] at h
 have:=qaw2 (c:=cR n hm T) (q:=q) (n - q)
 rw[show q+(n - q)=n by lia] at this;lia
theorem qaw1(i:0 < n)(j:∀ k,hm k < n)(w:T.length<=n):∃ r,r < n/\onC (cR n hm T) (n+r+1)=0:=by
 by_cases h:∃ r,r < n/\onC (cR n hm T) (n+r+1)=0
 . exact h
 exfalso;have pos:∀ r,r < n->0 < onC (cR n hm T) (n+r+1):=λ r g=>by
   have:=qE3 (c:=cR n hm T) (n+r+1)
   have:onC (cR n hm T) (n+r+1)≠0:=λ e=>h ⟨r,g,e⟩
   lia
 have a:∀ r,r<=n->onC (cR n hm T) (n+r)=onC (cR n hm T) n+(sumC (cR n hm T) n r:Int) - (r:Int):=λ r=>by
   induction r with
   | zero=>intro _;show _=_+((0:Nat):Int) - _;rw[Nat.add_zero];lia
   | succ r l =>
     intro g;have d:=pos r (by lia);have x:=l (by lia);have e:onC (cR n hm T) (n+r+1)=if onC (cR n hm T) (n+r)+(cR n hm T (n+r):Int) - 1 > 0 then onC (cR n hm T) (n+r)+(cR n hm T (n+r):Int) - 1 else 0:=rfl
     show onC (cR n hm T) (n+r+1)=_+((sumC (cR n hm T) n r+cR n hm T (n+r):Nat):Int) - _;rw[e] at d ⊢;split at d
     . rw[if_pos (by assumption)];lia
     lia
 have y:=qaB8 (T:=T) i j;have b:∀ m,sumC (cR n hm T) n m=sumC (cR n hm T) 0 m:=λ m=>qan5 (q:=0) m
 have e2:=a n (zA3 _);have o:=pos (n - 1) (by lia);rw[show n+(n - 1)+1=n+n by lia] at o;rw[b] at e2;rcases qaw3 (c:=cR n hm T) n with z | ⟨q,m,p,s,d⟩
 . lia
 have t:=a q (by lia);rw[b] at t;have u:=qV1 (c:=cR n hm T) (q:=0) (m:=q) m;rw[zAr,p] at u;by_cases f:q=0
 . subst f
   have:sumC (cR n hm T) 0 0=0:=rfl
   lia
 have v:=pos (q - 1) (by lia);rw[show n+(q - 1)+1=n+q by lia] at v;lia
theorem qE7{r:Nat}(f:r < n)(a:∀ k,hm k < n)(d:onC (cR n hm T) (n+r+1)=0):∀ q,¬ Crowd n false (λ k=>Aa n ((r+1) % n) (hm k)) T q:=by
 rintro q ⟨h,c⟩;have b:(r+1) % n < n:=Nat.mod_lt _ (by lia);rw[if_neg (by decide)] at c;have e:=qz3 (T:=T) (s:=r+1) (q:=q) b rfl a (n - q) (by lia);have g:=qaw2 (c:=cR n hm T) (q:=r+1+q) (n - q);rw[show r+1+q+(n - q)=n+r+1 by lia,d,e,show q+(n - q)=n by lia] at g;have e2:Go (λ k=>Aa n ((r+1) % n) (hm k)) T q n=(T.filter λ k=>decide (q<=Aa n ((r+1) % n) (hm k))).length:=by
   unfold Go;congr 2;exact funext λ k=>zBz.mpr (by have:=qh6 (a k) b;dsimp only;lia)
 have c:=e2 ▸ c;generalize Go _ T q n=m at *
 lia
theorem Kept.turn{g:Nat->Option Int}{S:List Int}(c:b < n)(p:∀ k,hm k < n)(K:Kept n false (λ k=>Aa n b (hm k)) g S):Kept n true hm (λ i=>g (Aa n b i)) S:=by
 have f:∀ i,i < n->Aa n b i < n:=λ i a=>qh6 a c
 have l:∀ i x,i < n->g (Aa n b i)=some x->Aa n b (hm x)+Aa n (hm x) i=Aa n b i:=λ i x a d=>Fm c (p x) a (K.ln rfl _ x (f i a) d)
 refine⟨⟨p,λ i j x a m d u=>qg9 c a m (K.o.inj _ _ x (f i a) (f j m) d u),λ i x a d v=>?_⟩,⟨b,c,λ x w=>?_⟩,⟨K.h.1,λ x=>⟨λ A=>?_,λ ⟨i,a,d⟩=>(K.h.2 x).mpr ⟨_,f i a,d⟩⟩⟩,λ h=>nomatch h⟩
 . have f1:=l i x a d
   have q:=K.ln rfl _ x (f i a) d;have B:Aa n (Aa n b (hm x)) (Aa n b i)=Aa n (hm x) i:=by
     unfold Aa at q ⊢;rw[if_pos q];unfold Aa at f1;lia
   obtain⟨y,r,s⟩:=K.o.ord _ x (f i a) d (by rw[B];exact v);have C:prev n (Aa n b i)=Aa n b (prev n i):=by
     rw[qi8 c a (by lia)];rcases por n (Aa n b i) with h | h<;>lia
   rw[C] at r s;have t:=ql0 a;have f2:=l (prev n i) y t r;have D:=K.ln rfl _ y (f _ t) r;have f3:Aa n b (hm x)+Aa n (hm x) (prev n i)=Aa n b (prev n i):=Fm c (p x) t (by rw[qi8 c a (by lia)];lia);refine⟨y,r,?_⟩;have E:Aa n (Aa n b (hm y)) (Aa n b (prev n i))=Aa n (hm y) (prev n i):=by
     have:Aa n (Aa n b (hm y)) (Aa n b (prev n i))=Aa n b (prev n i) - Aa n b (hm y):=if_pos D
     lia
   have F:Aa n (Aa n b (hm x)) (Aa n b (prev n i))=Aa n (hm x) (prev n i):=by
     have:Aa n (Aa n b (hm x)) (Aa n b (prev n i))=Aa n b (prev n i) - Aa n b (hm x):=if_pos (by lia)
     lia
   unfold ahead at s ⊢;rwa[E,F] at s
 . have q:=K.ln rfl _ x (f b c) w
   have z:Aa n b b=0:=(qf6 c c).mpr rfl;rw[z] at q;exact(qf6 c (p x)).mp (by lia)
 obtain⟨j,m,e⟩:=(K.h.2 x).mp A;exact⟨rot n b j,qaC8 c m,by show g (Aa n b (rot n b j))=_;rw[qL4 c m];exact e⟩
end
theorem Kept.of_perm{n:Nat}{wr:Bool}{hm:Int->Nat}{g:Nat->Option Int}{S T:List Int}(K:Kept n wr hm g S)(p:S.Perm T):Kept n wr hm g T:=⟨K.1,K.2,⟨p.nodup_iff.mp K.h.1,λ k=>p.mem_iff.symm.trans (K.h.2 k)⟩,K.4⟩
theorem Jc{n:Nat}:Aa n 0 i=i:=if_pos (zBi _)
theorem qaw9{n:Nat}(b:a < n)(c:s<=n):((a:Int) - (s:Int)) % (n:Int)=(Aa n (s % n) a:Nat):=by
 by_cases e:s=n
 . subst e
   rw[Nat.mod_self,Jc,Int.sub_emod_right];exact zC2 (by lia) (by lia)
 rw[zC7 (show s < n by lia)];unfold Aa;split
 . rw[zC2 (by lia) (by lia)];lia
 rw[<- Int.add_emod_right,zC2 (by lia) (by lia)];lia
end Row
namespace My
open PySem L2
noncomputable def bagL(x y z:Int)(L:γ):HO:=.l [.int x,.int y,.int z,.ref L]
structure BagAt(H:Hp)(p:γ)(x y z:Int)(L:γ)(ns:List Int):Prop where
 at_:H p=some (bagL x y z L)
 li:H L=some (.l (ns.map V.int))
 x0:0<=x
 y0:0<=y
 y1:y < 2147483647
 z0:0<=z
 nn:∀ n∈ns,0<=n
def Bag(H:Hp)(p L:γ):Prop:=∃ x y z ns,BagAt H p x y z L ns
theorem qaU4{L:γ}{x y z:Int}{ns:List Int}:HO.l (ns.map V.int)≠bagL x y z L:=by
 intro e;have e:ns.map V.int=[.int x,.int y,.int z,.ref L]:=by injection e
 have e:=congrArg (·[3]?) e;rw[zBb] at e;cases h:ns[3]? <;> rw[h] at e<;>cases e
theorem BagAt.ne{H:Hp}{p L:γ}{x y z:Int}{ns:List Int}(B:BagAt H p x y z L ns):L≠p:=ne_of B.li B.at_ qaU4
def qaN6(K:W.Frag):Sp:=λ vs H Q _=>∃(l:γ)(ns:List Int),vs=[.ref l]/\SqL K H l (ns.map V.int)/\ns.length<=63 /\
 ∀ p L H',H p=none->H L=none->Same H H'->Bag H' p L->Q (.ref p) H'
def Jd(K:W.Frag):Sp:=λ vs H Q _=>∃(l:γ)(ns:List Int),vs=[.ref l]/\SqL K H l (ns.map V.int)/\ns.length<=63/\∀ H',Q (.bl true) H'
abbrev Pr:=List (Int×Int)
def Al(n:Int):Prop:=0<=n/\n<=1000000000000000000
structure Ku(ps:Pr):Prop where
 len:ps.length<=64
 nd:(ps.map (·.1)).Nodup
 nums:∀ p∈ps,Al p.1/\Al p.2
noncomputable def qb9(n:Int)(ps:Pr)(k:Int):Int:=((ps.lookup k).getD k) % n
def Av(n:Int)(wr:Bool)(ps:Pr)(k r:Int):Option Int :=
 if wr then some ((r - qb9 n ps k) % n) else if 0<=r - qb9 n ps k then some (r - qb9 n ps k) else none
def qf5(n:Int)(wr:Bool)(ps:Pr)(r a other:Int):Bool :=
 match Av n wr ps a r,Av n wr ps other r with
 | none,_=>false
 | some _,none=>true
 | some x,some y=>decide (y < x)||(decide (x=y)&&decide (a < other))
theorem qab6{n:Int}(h:1<=n)(ps:Pr)(k:Int):0<=qb9 n ps k/\qb9 n ps k < n:=⟨Int.emod_nonneg _ (by lia),zCa _ (by lia)⟩
theorem qab3(k:Int)(ks:List Int):inV (.int k) (ks.map V.int)=decide (k∈ks):=by
 unfold inV;rw[List.any_map,Bool.eq_iff_iff,List.any_eq_true,zBh];constructor
 . rintro⟨x,a,e⟩
   have e:(x == k)=true:=e;rw[<- zBp.mp e];exact a
 intro h;exact⟨k,h,zAv k⟩
end My
namespace My
open PySem L2
open Row
variable{n:Int}{ps:Pr}{r:Nat}
def Mq(n:Int)(ps:Pr)(k:Int):Nat:=(qb9 n ps k).toNat
theorem Gu(h:1<=n)(k:Int):Mq n ps k < n.toNat:=by
 have:=qab6 h ps k
 unfold Mq;lia
theorem qy6(h:1<=n)(k:Int):((Mq n ps k:Nat):Int)=qb9 n ps k:=by
 have:=qab6 h ps k
 unfold Mq;lia
theorem qal7(a:1<=n){h:Nat}(b:h < n.toNat)(c:r < n.toNat):((r:Int) - (h:Int)) % n=(Aa n.toNat h r:Nat):=by
 rcases dor n.toNat h r with⟨h1,h2⟩ | ⟨h1,h2⟩
 . rw[zC2 (by lia) (by lia)];lia
 have e:((r:Int) - (h:Int)) % n=((r:Int) - (h:Int)+n) % n:=by rw[Int.add_emod_right]
 rw[e,zC2 (by lia) (by lia)]
 have:=h2 (by lia)
 lia
theorem qP1{wr:Bool}{k:Int}(a:1<=n)(c:r < n.toNat)(d:wr=false->Mq n ps k<=r):Av n wr ps k (r:Int)=some ((Aa n.toNat (Mq n ps k) r:Nat):Int):=by
 have e:=Gu (ps:=ps) a k;have b:=qy6 (ps:=ps) a k;unfold Av;cases wr with
 | true=>rw[if_pos rfl,<- b,qal7 a e c]
 | false =>
   have:=d rfl
   rw[if_neg (by decide),if_pos (by lia),<- b]
   have:=dor n.toNat (Mq n ps k) r
   congr 1;lia
theorem qC7{wr:Bool}{x y:Int}(a:1<=n)(b:r < n.toNat)(c:wr=false->Mq n ps x<=r)(d:wr=false->Mq n ps y<=r):qf5 n wr ps (r:Int) x y=true↔ahead n.toNat (Mq n ps) r x y:=by
 unfold qf5 ahead;rw[qP1 a b c,qP1 a b d];show (decide _||(decide _&&decide _))=true↔_;simp only[Bool.or_eq_true,zB9,zBh];lia
theorem qB3(a:1<=n)(b:r < n.toNat):((r:Int)+1) % n=(Row.next n.toNat r:Nat):=by
 rcases nor n.toNat r with⟨h,e⟩ | ⟨h,e⟩
 . rw[e,show ((r:Int)+1)=n by lia];simp
 rw[e,zC2 (by lia) (by lia)];rfl
end My
namespace LV
open PySem L2
variable{Ao:List γ}{N:List Str}{P:List V'->Prop}{Q:VK}{base:Heap}{cd:Expr}{cm z:Bool}{i j n:Nat}{kvs:List (Key×V)}{mg:Str->Option V'}{op:CmpOp}{v w:V}{vs:List V}{α:Type}{σ':St}
inductive D where
 | non | bl (b:Bool) | int (i:Int) | str (x:Str) | ty (n:String) | adr (a:γ)
 | q (ds:List D) | l (z:Bool) (ds:List D) | dct (z:Bool) (kvs:List (Key×D)) | ins (z:Bool) (C:γ) (fs:List (Str×D))
 | scr (ns:List Int)
 | exn (C:γ) (fs:List (Str×D))
 | hole (v:V) | u
mutual
def D.imm:D->Bool
 | .q ds=>D.imms ds
 | .l z _=>z
 | .dct z _=>z
 | .ins z _ _=>z
 | _=>true
def D.imms:List D->Bool
 | []=>true
 | d::r=>d.imm&&D.imms r
end
mutual
def D.fz:D->D
 | .q ds=>.q (D.fzs ds)
 | .l _ ds=>.l true (D.fzs ds)
 | .dct _ kvs=>.dct true (D.fzk kvs)
 | .ins _ C fs=>.ins true C (D.fzf fs)
 | .exn C fs=>.exn C (D.fzf fs)
 | .non=>.non | .bl b=>.bl b | .int i=>.int i | .str x=>.str x | .ty n=>.ty n | .adr a=>.adr a | .scr ns=>.scr ns | .hole v=>.hole v | .u=>.u
def D.fzs:List D->List D
 | []=>[]
 | d::r=>d.fz::D.fzs r
def D.fzk:List (Key×D)->List (Key×D)
 | []=>[]
 | (k,d)::r=>(k,d.fz)::D.fzk r
def D.fzf:List (Str×D)->List (Str×D)
 | []=>[]
 | (k,d)::r=>(k,d.fz)::D.fzf r
end
mutual
inductive M3(F:γ->Prop)(H:Hp):V->D->List γ->Prop
 | non:M3 F H .non .non []
 | bl (b:Bool):M3 F H (.bl b) (.bl b) []
 | int (i:Int):M3 F H (.int i) (.int i) []
 | str (x:Str):M3 F H (.str x) (.str x) []
 | ty (n:String):M3 F H (.ty n) (.ty n) []
 | adr (a:γ):M3 F H (.ref a) (.adr a) []
 | q {a:γ} {vs:List V} {ds:List D} {A:List γ} (h:H a=some (.q vs)) (r:Mr F H vs ds A):M3 F H (.ref a) (.q ds) A
 | l {a:γ} {vs:List V} {ds:List D} {A:List γ} (h:H a=some (.l vs)) (r:Mr F H vs ds A):M3 F H (.ref a) (.l false ds) (a::A)
 | lstZ {a:γ} {vs:List V} {ds:List D} (h:H a=some (.l vs)) (f:F a) (r:Mr F H vs ds []):M3 F H (.ref a) (.l true ds) []
 | dct {a:γ} {kvs:List (Key×V)} {kds:List (Key×D)} {A:List γ} (h:H a=some (.dK kvs)) (e:kvs.map (·.1)=kds.map (·.1)) (r:Mr F H (kvs.map (·.2)) (kds.map (·.2)) A):M3 F H (.ref a) (.dct false kds) (a::A)
 | dctZ {a:γ} {kvs:List (Key×V)} {kds:List (Key×D)} (h:H a=some (.dK kvs)) (f:F a) (e:kvs.map (·.1)=kds.map (·.1)) (r:Mr F H (kvs.map (·.2)) (kds.map (·.2)) []):M3 F H (.ref a) (.dct true kds) []
 | ins {a C dx:γ} {fvs:List (Str×V)} {fds:List (Str×D)} {A:List γ} (h:H a=some (.ins C dx fvs)) (e:fvs.map (·.1)=fds.map (·.1)) (r:Mr F H (fvs.map (·.2)) (fds.map (·.2)) A):M3 F H (.ref a) (.ins false C fds) (a::A)
 | insZ {a C dx:γ} {fvs:List (Str×V)} {fds:List (Str×D)} (h:H a=some (.ins C dx fvs)) (f:F a) (e:fvs.map (·.1)=fds.map (·.1)) (r:Mr F H (fvs.map (·.2)) (fds.map (·.2)) []):M3 F H (.ref a) (.ins true C fds) []
 | scr {a:γ} {o:Obj} {ns:List Int} (h:H a=some (.frz o (.l (ns.map V.int)))):M3 F H (.ref a) (.scr ns) []
 | exn {a C dx:γ} {fvs:List (Str×V)} {fds:List (Str×D)} (h:H a=some (Be a C (some dx) false)) (g:H dx=some (XD dx fvs)) (e:fvs.map (·.1)=fds.map (·.1)) (r:Mr F H (fvs.map (·.2)) (fds.map (·.2)) []):M3 F H (.ref a) (.exn C fds) []
 | hole (v:V):M3 F H v (.hole v) []
 | u (v:V):M3 F H v .u []
inductive Mr(F:γ->Prop)(H:Hp):List V->List D->List γ->Prop
 | nil:Mr F H [] [] []
 | cons {v:V} {d:D} {A:List γ} {vs:List V} {ds:List D} {B:List γ} (h:M3 F H v d A) (t:Mr F H vs ds B):Mr F H (v::vs) (d::ds) (A++B)
end
noncomputable def Fw:HO->Bool
 | .l _=>true
 | .dK _=>true
 | .ins _ _ _=>true
 | _=>false
section
variable{F F':γ->Prop}{H H':Hp}
def Cel(H:Hp)(A:List γ):Prop:=∀ b∈A,∃ o,H b=some o/\Fw o=true
theorem Cel.cons{A:List γ}{a:γ}{o:HO}(e:H a=some o)(m:Fw o=true)(h:Cel H A):Cel H (a::A):=λ b c=>(zAm.mp c).elim (λ q=>q ▸ ⟨_,e,m⟩) (h b)
theorem Cel.app{A B:List γ}(h:Cel H A)(g:Cel H B):Cel H (A++B):=λ b a=>(zAe.mp a).elim (h b) (g b)
theorem M3.cells{v:V}{d:D}{A:List γ}(r:M3 F H v d A):Cel H A:=by
 induction r using M3.rec (motive_2:=λ _ _ A _=>Cel H A) with
 | q e r i=>exact i
 | l e r i=>exact Cel.cons e rfl i
 | dct e _ r i=>exact Cel.cons e rfl i
 | ins e _ r i=>exact Cel.cons e rfl i
 | cons _ _ i j=>exact Cel.app i j
 | _=>nofun
theorem Mr.cells{vs:List V}{ds:List D}{A:List γ}(r:Mr F H vs ds A):Cel H A:=by
 induction r using Mr.rec (motive_1:=λ _ _ _ _=>True) with
 | cons h _ i j=>exact Cel.app h.cells j
 | nil=>nofun
 | _=>trivial
structure Kp(F:γ->Prop)(H:Hp)(W F':γ->Prop)(H':Hp):Prop where
 fr:∀ b o,H b=some o->¬ W b->H' b=some o
 wm:∀ b,W b->∃ o,H b=some o/\Fw o=true
 wf:∀ b,W b->¬ F b
 mF:∀ b,F b->F' b
theorem Kp.q{W:γ->Prop}(k:Kp F H W F' H'){a:γ}{vs:List V}(h:H a=some (.q vs)):H' a=some (.q vs):=by
 refine k.fr a _ h λ w=>?_
 obtain⟨o,e,m⟩:=k.wm a w;rw[h] at e;cases e;cases m
theorem Kp.imm{W:γ->Prop}(k:Kp F H W F' H'){a:γ}{o:HO}(h:H a=some o)(n:Fw o=false):H' a=some o:=by
 refine k.fr a _ h λ w=>?_
 obtain⟨o,e,m⟩:=k.wm a w;rw[h] at e;cases e;rw[n] at m;cases m
theorem Kp.frz{W:γ->Prop}(k:Kp F H W F' H'){a:γ}{o:Obj}{u:HO}(h:H a=some (.frz o u)):H' a=some (.frz o u):=by
 refine k.fr a _ h λ w=>?_
 obtain⟨o,e,m⟩:=k.wm a w;rw[h] at e;cases e;cases m
theorem M3.keep{W:γ->Prop}(k:Kp F H W F' H'){v:V}{d:D}{A:List γ}(r:M3 F H v d A):(∀ b∈A,¬ W b)->M3 F' H' v d A:=by
 induction r using M3.rec (motive_2:=λ a c A _=>(∀ b∈A,¬ W b)->Mr F' H' a c A) with
 | q e r i=>exact λ h=>.q (k.q e) (i h)
 | l e r i=>exact λ h=>.l (k.fr _ _ e (zB0.mp h).1) (i (zB0.mp h).2)
 | lstZ e f r i=>exact λ h=>.lstZ (k.fr _ _ e λ w=>k.wf _ w f) (k.mF _ f) (i h)
 | dct e q r i=>exact λ h=>.dct (k.fr _ _ e (zB0.mp h).1) q (i (zB0.mp h).2)
 | dctZ e f q r i=>exact λ h=>.dctZ (k.fr _ _ e λ w=>k.wf _ w f) (k.mF _ f) q (i h)
 | ins e q r i=>exact λ h=>.ins (k.fr _ _ e (zB0.mp h).1) q (i (zB0.mp h).2)
 | insZ e f q r i=>exact λ h=>.insZ (k.fr _ _ e λ w=>k.wf _ w f) (k.mF _ f) q (i h)
 | scr e=>exact λ _=>.scr (k.frz e)
 | exn e g q r i=>exact λ h=>.exn (k.imm e rfl) (k.imm g rfl) q (i h)
 | cons _ _ i j h=>exact Mr.cons (i (zBk.mp h).1) (j (zBk.mp h).2)
 | nil=>constructor
 | _=>intro;constructor
theorem Mr.keep{W:γ->Prop}(k:Kp F H W F' H'){vs:List V}{ds:List D}{A:List γ}(r:Mr F H vs ds A):(∀ b∈A,¬ W b)->Mr F' H' vs ds A:=by
 induction r using Mr.rec (motive_1:=λ _ _ _ _=>True) with
 | nil=>exact λ _=>Mr.nil
 | cons r _ i j=>exact λ h=>Mr.cons (r.keep k (zBk.mp h).1) (j (zBk.mp h).2)
 | _=>trivial
theorem Kp.same(s:Same H H'):Kp F H (λ _=>False) F H':=⟨λ b o e _=>s b o e,λ _ w=>w.elim,λ _ w=>w.elim,λ _ f=>f⟩
theorem M3.same{d:D}{A:List γ}(r:M3 F H v d A)(s:Same H H'):M3 F H' v d A:=r.keep (Kp.same s) λ _ _=>id
theorem Mr.same{ds:List D}{A:List γ}(r:Mr F H vs ds A)(s:Same H H'):Mr F H' vs ds A:=r.keep (Kp.same s) λ _ _=>id
theorem Kp.more(m:∀ b,F b->F' b):Kp F H (λ _=>False) F' H:=⟨λ b o e _=>e,λ _ w=>w.elim,λ _ w=>w.elim,m⟩
mutual
theorem M3.imm{v:V}{d:D}{A:List γ}(r:M3 F H v d A)(h:d.imm=true):A=[]:=by
 cases r with
 | q e r=>exact r.imms h
 | l=>cases h
 | dct=>cases h
 | ins=>cases h
 | _=>rfl
theorem Mr.imms{vs:List V}{ds:List D}{A:List γ}(r:Mr F H vs ds A)(h:D.imms ds=true):A=[]:=by
 cases r with
 | nil=>rfl
 | cons r t =>
   have h:=zAi.mp h;rw[r.imm h.1,t.imms h.2];rfl
end
theorem qO3(a:List (Key×D)):(D.fzk a).map (·.1)=a.map (·.1)/\(D.fzk a).map (·.2)=D.fzs (a.map (·.2)):=by
 induction a with
 | nil=>exact⟨rfl,rfl⟩
 | cons p r b=>obtain⟨k,d⟩:=p;simp only[D.fzk,D.fzs,zAx,b.1,b.2,and_self]
theorem qy8(a:List (Str×D)):(D.fzf a).map (·.1)=a.map (·.1)/\(D.fzf a).map (·.2)=D.fzs (a.map (·.2)):=by
 induction a with
 | nil=>exact⟨rfl,rfl⟩
 | cons p r b=>obtain⟨k,d⟩:=p;simp only[D.fzf,D.fzs,zAx,b.1,b.2,and_self]
theorem M3.fz{v:V}{d:D}{A:List γ}(r:M3 F H v d A)(m:∀ b,F b->F' b):(∀ b∈A,F' b)->M3 F' H v d.fz []:=by
 induction r using M3.rec (motive_2:=λ a c A _=>(∀ b∈A,F' b)->Mr F' H a (D.fzs c) []) with
 | q e r i=>exact λ h=>.q e (i h)
 | l e r i=>exact λ h=>.lstZ e (zB0.mp h).1 (i (zB0.mp h).2)
 | lstZ e f r i=>exact λ h=>.lstZ e (m _ f) (i h)
 | dct e q r i=>exact λ h=>.dctZ e (zB0.mp h).1 (q.trans (qO3 _).1.symm) ((qO3 _).2 ▸ i (zB0.mp h).2)
 | dctZ e f q r i=>exact λ h=>.dctZ e (m _ f) (q.trans (qO3 _).1.symm) ((qO3 _).2 ▸ i h)
 | ins e q r i=>exact λ h=>.insZ e (zB0.mp h).1 (q.trans (qy8 _).1.symm) ((qy8 _).2 ▸ i (zB0.mp h).2)
 | insZ e f q r i=>exact λ h=>.insZ e (m _ f) (q.trans (qy8 _).1.symm) ((qy8 _).2 ▸ i h)
 | scr e=>exact λ _=>.scr e
 | exn e g q r i=>exact λ h=>.exn e g (q.trans (qy8 _).1.symm) ((qy8 _).2 ▸ i h)
 | nil=>exact Mr.nil
 | cons _ _ i j h=>exact Mr.cons (A:=[]) (B:=[]) (i (zBk.mp h).1) (j (zBk.mp h).2)
 | _=>intro;constructor
end
theorem ec:∀{us:List V'},us.length=n+1->∃ a vs,us=a::vs/\vs.length=n
 | a::vs,h=>⟨a,vs,rfl,Nat.succ.inj h⟩
theorem ec0(h:P [])(us:List V')(e:us.length=0):P us:=List.length_eq_zero_iff.mp e ▸ h
theorem ec1(h:∀ x us,us.length=n->P (x::us))(us:List V')(e:us.length=n+1):P us:=by
 obtain⟨x,a,rfl,b⟩:=ec e;exact h x a b
theorem ec2(h:∀ us,us.length=n->P us)(us:List V')(e:us.length+1=n+1):P us:=h us (Nat.succ.inj e)
inductive Locs(F:γ->Prop)(H:Hp):List (Option V)->List D->List γ->Prop
 | nil:Locs F H [] [] []
 | no {σ:List (Option V)} {ds:List D} {A:List γ} (t:Locs F H σ ds A):Locs F H (none::σ) (.u::ds) A
 | so {v:V} {d:D} {B:List γ} {σ:List (Option V)} {ds:List D} {A:List γ} (h:M3 F H v d B) (t:Locs F H σ ds A):Locs F H (some v::σ) (d::ds) (B++A)
section
variable{F F':γ->Prop}{H H':Hp}
theorem Locs.cells{σ:List (Option V)}{ds:List D}{A:List γ}(r:Locs F H σ ds A):∀ b∈A,∃ o,H b=some o/\Fw o=true:=by
 induction r with
 | nil=>intro b h;cases h
 | no t c=>exact c
 | so h t c =>
   intro b a;rcases zAe.mp a with a | a
   . exact h.cells b a
   exact c b a
theorem Locs.keep{W:γ->Prop}(k:Kp F H W F' H'){σ:List (Option V)}{ds:List D}{A:List γ}(r:Locs F H σ ds A):(∀ b∈A,¬ W b)->Locs F' H' σ ds A:=by
 induction r with
 | nil=>exact λ _=>.nil
 | no t a=>exact λ h=>.no (a h)
 | so h t a=>exact λ q=>.so (h.keep k λ b c=>q b (zAe.mpr (.inl c))) (a λ b c=>q b (zAe.mpr (.inr c)))
theorem Locs.same{σ:List (Option V)}{ds:List D}{A:List γ}(r:Locs F H σ ds A)(s:Same H H'):Locs F H' σ ds A:=r.keep (Kp.same s) λ _ _=>id
theorem Locs.len{σ:List (Option V)}{ds:List D}{A:List γ}(r:Locs F H σ ds A):σ.length=ds.length:=by
 induction r with
 | nil=>rfl
 | no t a=>simp[a]
 | so h t a=>simp[a]
theorem Locs.append{σ τ:List (Option V)}{ds es:List D}{A B:List γ}(r:Locs F H σ ds A)(t:Locs F H τ es B):Locs F H (σ++τ) (ds++es) (A++B):=by
 induction r with
 | nil=>exact t
 | no _ a=>exact .no a
 | so h _ a=>rw[zAq];exact .so h a
inductive Je(F:γ->Prop)(H:Hp):Option V->D->List γ->Prop
 | no:Je F H none .u []
 | so {v:V} {d:D} {B:List γ} (h:M3 F H v d B):Je F H (some v) d B
theorem Locs.cons{o:Option V}{d:D}{B:List γ}{σ:List (Option V)}{ds:List D}{A:List γ}(h:Je F H o d B)(t:Locs F H σ ds A):Locs F H (o::σ) (d::ds) (B++A):=by
 cases h with
 | no=>exact .no t
 | so h=>exact .so h t
theorem Locs.split:∀{ds:List D}{σ:List (Option V)}{A:List γ}{i:Nat}{d:D},Locs F H σ ds A->ds[i]? = some d ->
   ∃ σ1 o σ2 ds1 a A1 B A2,σ=σ1++o::σ2/\ds=ds1++d::a/\σ1.length=i/\ds1.length=i/\A=A1++(B++A2)/\Locs F H σ1 ds1 A1/\Je F H o d B/\Locs F H σ2 a A2:=by
 intro ds
 induction ds with
 | nil=>intro σ A i d _ h;simp at h
 | cons e r m =>
   intro σ A i d L h;cases i with
   | zero =>
     have:e=d:=by simpa using h
     subst this;cases L with
     | no t=>exact⟨[],none,_,[],_,[],[],_,rfl,rfl,rfl,rfl,rfl,.nil,.no,t⟩
     | so q t=>exact⟨[],some _,_,[],_,[],_,_,rfl,rfl,rfl,rfl,rfl,.nil,.so q,t⟩
   | succ i =>
     have h:r[i]? = some d:=by simpa using h
     cases L with
     | no t =>
       obtain⟨σ1,o,σ2,ds1,a,A1,B,A2,b,e2,c,f,g,j,k,l⟩:=m t h;exact⟨none::σ1,o,σ2,_::ds1,a,A1,B,A2,by rw[b];rfl,by rw[e2];rfl,by simp[c],by simp[f],g,.no j,k,l⟩
     | @so v _ B0 _ _ A0 q t =>
       obtain⟨σ1,o,σ2,ds1,a,A1,B,A2,b,e2,c,f,g,j,k,l⟩:=m t h;exact⟨some v::σ1,o,σ2,_::ds1,a,B0++A1,B,A2,by rw[b];rfl,by rw[e2];rfl,by simp[c],by simp[f],by rw[g,zAq],.so q j,k,l⟩
end
theorem qm4{a b:List α}{x y:α}(h:a.length=i):(a++x::b).set i y=a++y::b:=by
 subst h;rw[List.set_append_right _ _ (zA3 _),Nat.sub_self];rfl
theorem qy7{a b:List α}{x:α}(h:a.length=i):(a++x::b)[i]? = some x:=by
 subst h;simp
structure Ok(F:γ->Prop)(H:Hp)(A:List γ):Prop where
 sep:∀ b,A.count b<=1
 fro:∀ b,F b->A.count b=0
 ex:∀ b,F b->∃ o,H b=some o
structure M5(F:γ->Prop)(H:Hp)(A:List γ)(F':γ->Prop)(H':Hp)(A':List γ):Prop where
 fr:∀ b o,H b=some o->A.count b=0->H' b=some o
 sub:∀ b o,H b=some o->A.count b=0->A'.count b=0
 mono:∀ b,F b->F' b
 fnew:∀ b o,H b=some o->A.count b=0->F' b->F b
section
variable{F F1 F2:γ->Prop}{H H1 H2:Hp}{A A1 A2 T:List γ}
theorem M5.refl:M5 F H A F H A:=⟨λ _ _ e _=>e,λ _ _ _ e=>e,λ _ f=>f,λ _ _ _ _ f=>f⟩
theorem M5.trans(s:M5 F H A F1 H1 A1)(t:M5 F1 H1 A1 F2 H2 A2):M5 F H A F2 H2 A2 :=
 ⟨λ b o e q=>t.fr b o (s.fr b o e q) (s.sub b o e q),λ b o e q=>t.sub b o (s.fr b o e q) (s.sub b o e q),λ b f=>t.mono b (s.mono b f),λ b o e q f=>s.fnew b o e q (t.fnew b o (s.fr b o e q) (s.sub b o e q) f)⟩
theorem M5.same(s:Same H H1):M5 F H A F H1 A:=⟨λ b o e _=>s b o e,λ _ _ _ e=>e,λ _ f=>f,λ _ _ _ _ f=>f⟩
theorem qa8{b:γ}{A:List γ}:b∈A↔A.count b≠0:=by
 rw[<- List.count_pos_iff];lia
theorem M5.kp(s:M5 F H A F1 H1 A1)(o:Ok F H A)(c:∀ b∈A,∃ o,H b=some o/\Fw o=true):Kp F H (λ b=>A.count b≠0) F1 H1 :=
 ⟨λ b u e w=>s.fr b u e (by lia),λ b w=>c b (qa8.mpr w),λ b w f=>w (o.fro b f),s.mono⟩
theorem Ok.left(o:Ok F H (T++A)):Ok F H T:=⟨λ b=>by have:=o.sep b;rw[zA0] at this;lia,λ b f=>by have:=o.fro b f;rw[zA0] at this;lia,o.ex⟩
theorem Ok.right(o:Ok F H (T++A)):Ok F H A:=⟨λ b=>by have:=o.sep b;rw[zA0] at this;lia,λ b f=>by have:=o.fro b f;rw[zA0] at this;lia,o.ex⟩
theorem Ok.count(o:Ok F H A)(h:∀ b,A1.count b<=A.count b):Ok F H A1:=⟨λ b=>zAn (h b) (o.sep b),λ b f=>by have:=o.fro b f;have:=h b;lia,o.ex⟩
theorem M5.frame(s:M5 F H A F1 H1 A1)(o:Ok F H (T++A))(c:∀ b∈T,∃ o,H b=some o/\Fw o=true)(d:Ok F1 H1 A1):Ok F1 H1 (T++A1)/\M5 F H (T++A) F1 H1 (T++A1):=by
 have a:∀ b,T.count b≠0->∃ u,H b=some u/\A.count b=0:=λ b h=>by
   obtain⟨u,e,_⟩:=c b (qa8.mpr h)
   have:=o.sep b
   rw[zA0] at this;exact⟨u,e,by lia⟩
 refine⟨⟨λ b=>?_,λ b f=>?_,d.ex⟩,λ b u e q=>?_,λ b u e q=>?_,s.mono,λ b u e q f=>?_⟩
 . rw[zA0]
   by_cases h:T.count b=0
   . have:=d.sep b;lia
   obtain⟨u,e,q⟩:=a b h;have g:=s.sub b u e q
   have:=o.sep b
   rw[zA0] at this;lia
 . rw[zA0,d.fro b f]
   by_cases h:T.count b=0
   . lia
   obtain⟨u,e,q⟩:=a b h
   have:=o.fro b (s.fnew b u e q f)
   rw[zA0] at this;lia
 . rw[zA0] at q;exact s.fr b u e (by lia)
 . rw[zA0] at q ⊢;have:=s.sub b u e (by lia);lia
 rw[zA0] at q;exact s.fnew b u e (by lia) f
theorem M5.count(s:M5 F H A F1 H1 A1)(h:∀ b,A2.count b<=A1.count b):M5 F H A F1 H1 A2:=⟨s.fr,λ b o e q=>by have:=s.sub b o e q;have:=h b;lia,s.mono,s.fnew⟩
theorem M5.pre(s:M5 F H A F1 H1 A1)(h:∀ b,A.count b=A2.count b):M5 F H A2 F1 H1 A1:=⟨λ b o e q=>s.fr b o e (by rw[h];exact q),λ b o e q=>s.sub b o e (by rw[h];exact q),s.mono,λ b o e q f=>s.fnew b o e (by rw[h];exact q) f⟩
end
structure New(H:Hp)(B:List γ):Prop where
 one:∀ b,B.count b<=1
 new:∀ b o,H b=some o->B.count b=0
section
variable{F:γ->Prop}{H H':Hp}{A B:List γ}
theorem New.nil:New H []:=⟨λ b=>by simp,λ b o _=>by simp⟩
theorem New.ok(n:New H B)(o:Ok F H A)(c:∀ b∈A,∃ o,H b=some o/\Fw o=true)(s:Same H H'):Ok F H' (B++A):=by
 refine⟨λ b=>?_,λ b f=>?_,λ b f=>?_⟩
 . rw[zA0]
   have a:=n.one b;have d:=o.sep b;by_cases h:A.count b=0
   . lia
   obtain⟨u,e,_⟩:=c b (qa8.mpr h)
   have:=n.new b u e
   lia
 . rw[zA0,o.fro b f]
   obtain⟨u,e⟩:=o.ex b f;rw[n.new b u e]
 obtain⟨u,e⟩:=o.ex b f;exact⟨u,s b u e⟩
theorem New.append{H1:Hp}{B1:List γ}(n:New H B)(s:Same H H1)(c:∀ b∈B,∃ o,H1 b=some o/\Fw o=true)(a:New H1 B1):New H (B++B1):=by
 refine⟨λ b=>?_,λ b o e=>?_⟩
 . rw[zA0]
   have d:=n.one b;have f:=a.one b;by_cases h:B.count b=0
   . lia
   obtain⟨u,e,_⟩:=c b (qa8.mpr h)
   have:=a.new b u e
   lia
 rw[zA0,n.new b o e,a.new b o (s b o e)]
theorem Ok.same(o:Ok F H A)(s:Same H H'):Ok F H' A:=⟨o.sep,o.fro,λ b f=>let ⟨u,e⟩:=o.ex b f;⟨u,s b u e⟩⟩
theorem New.stp(n:New H B)(s:Same H H'):M5 F H A F H' (B++A):=⟨λ b o e _=>s b o e,λ b o e q=>by rw[zA0,n.new b o e,q],λ _ f=>f,λ _ _ _ _ f=>f⟩
end
structure Exn where
 C:γ
 fs:List (Str×D)
def RepX(F:γ->Prop)(H:Hp)(e:γ)(x:Exn):Prop :=
 ∃ b,H e=some (Be e x.C b false)/\(x.fs=[]∨∃ dx a,b=some dx/\H dx=some (XD dx a)/\a.map (·.1)=x.fs.map (·.1)/\Mr F H (a.map (·.2)) (x.fs.map (·.2)) [])
abbrev Ds:=List D
abbrev DK:=D->Ds->Prop
abbrev XKd:=Exn->Ds->Prop
abbrev VT:=Ds->DK->XKd->Prop
abbrev VTT:=Ds->(Bool->Ds->Prop)->XKd->Prop
abbrev VTA:=Ds->(Ds->Ds->Prop)->XKd->Prop
abbrev FV:=Ds->Option D
structure Vc where
 E:St->XK
 W:Nat->Bool
 av:List (Option V)
 gv:List (Option V)
structure M6(c:Vc)(F:γ->Prop)(H:Hp)(σ:St)(ds:Ds)(A:List γ):Prop where
 loc:Locs F H (σ++c.gv) ds A
 ok:Ok F H A
 len:c.av.length=(σ++c.gv).length
 ag:∀ i,c.W i=true->(σ++c.gv)[i]? = c.av[i]?
theorem M6.same{c:Vc}{F:γ->Prop}{H H':Hp}{σ:St}{ds:Ds}{A:List γ}(S:M6 c F H σ ds A)(s:Same H H'):M6 c F H' σ ds A:=⟨S.loc.same s,S.ok.same s,S.len,S.ag⟩
def Xc(c:Vc)(xe:XKd)(F:γ->Prop)(H:Hp)(A:List γ):Prop :=
 ∀ x a σ' e H' F' A',xe x a->RepX F' H' e x->M6 c F' H' σ' a A'->M5 F H A F' H' A'->c.E σ' (.ref e) none H'
theorem Xc.step{c:Vc}{xe:XKd}{F F1:γ->Prop}{H H1:Hp}{A A1:List γ}(x:Xc c xe F H A)(s:M5 F H A F1 H1 A1):Xc c xe F1 H1 A1:=λ y a σ' e H' F' A' h r S t=>x y a σ' e H' F' A' h r S (s.trans t)
def kE(c:Vc)(σ:St)(F:γ->Prop)(H:Hp)(A:List γ)(Q:VK):DK:=λ d a=>∀ v H' F' T A',M3 F' H' v d T->M6 c F' H' σ a A'->Ok F' H' (T++A')->M5 F H A F' H' (T++A')->Q v H'
inductive LiftE(c:Vc)(t:VT)(σ:St)(H:Hp)(Q:VK):Prop
 | mk (F:γ->Prop) (ds:Ds) (A:List γ) (xe:XKd) (S:M6 c F H σ ds A) (x:Xc c xe F H A) (q:t ds (kE c σ F H A Q) xe):LiftE c t σ H Q
def Bd(c:Vc)(t:VT):TE:=LiftE c t
inductive LiftV(c:Vc)(own:Bool)(f:FV)(σ:St)(H:Hp)(Q:VK):Prop
 | mk (F:γ->Prop) (ds:Ds) (A:List γ) (d:D) (S:M6 c F H σ ds A) (e:f ds=some d) (q:∀ v H' B,M3 F H' v d B->Same H H'->(own=true->New H B)->Q v H'):LiftV c own f σ H Q
def liftV(c:Vc)(own:Bool)(f:FV):TE:=LiftV c own f
inductive qaM3(c:Vc)(own:Bool)(f:Ds->Option Ds)(σ:St)(H:Hp)(Q:List V->Hp->Prop):Prop
 | mk (F:γ->Prop) (ds:Ds) (A:List γ) (xs:Ds) (S:M6 c F H σ ds A) (e:f ds=some xs) (q:∀ vs H' B,Mr F H' vs xs B->Same H H'->(own=true->New H B)->Q vs H'):qaM3 c own f σ H Q
def qaI4(c:Vc)(own:Bool)(f:Ds->Option Ds):TA:=qaM3 c own f
inductive qaM5(c:Vc)(t:VTA)(σ:St)(H:Hp)(Q:List V->Hp->Prop):Prop
 | mk (F:γ->Prop) (ds:Ds) (A:List γ) (xe:XKd) (S:M6 c F H σ ds A) (x:Xc c xe F H A) (q:t ds (λ xs ds'=>∀ vs H' F' T A',Mr F' H' vs xs T->M6 c F' H' σ ds' A'->M5 F H A F' H' A'->Q vs H') xe):qaM5 c t σ H Q
def qaI5(c:Vc)(t:VTA):TA:=qaM5 c t
inductive LiftT(c:Vc)(t:VTT)(σ:St)(H:Hp)(Q:Bool->Hp->Prop):Prop
 | mk (F:γ->Prop) (ds:Ds) (A:List γ) (xe:XKd) (S:M6 c F H σ ds A) (x:Xc c xe F H A) (q:t ds (λ b ds'=>∀ H' F' A',M6 c F' H' σ ds' A'->M5 F H A F' H' A'->Q b H') xe):LiftT c t σ H Q
def Fo(c:Vc)(t:VTT):TT:=LiftT c t
structure VE(c:Vc)(X:Cx)(e:Expr)(t:VT):Prop where
 h:PE X e (Bd c t)
 m:∀ ds (Q Q':DK) (xe xe':XKd),(∀ d ds',Q d ds'->Q' d ds')->(∀ x ds',xe x ds'->xe' x ds')->t ds Q xe->t ds Q' xe'
structure VV(c:Vc)(X:Cx)(e:Expr)(own:Bool)(f:FV):Prop where
 h:PE X e (liftV c own f)
structure VVs(c:Vc)(X:Cx)(es:List Expr)(own:Bool)(f:Ds->Option Ds):Prop where
 h:PA X es (qaI4 c own f)
structure VOs(c:Vc)(X:Cx)(es:List Expr)(t:VTA):Prop where
 h:PA X es (qaI5 c t)
 m:∀ ds (Q Q':Ds->Ds->Prop) (xe xe':XKd),(∀ d ds',Q d ds'->Q' d ds')->(∀ x ds',xe x ds'->xe' x ds')->t ds Q xe->t ds Q' xe'
structure VTe(c:Vc)(X:Cx)(e:Expr)(t:VTT):Prop where
 h:PT X e (Fo c t)
 m:∀ ds (Q Q':Bool->Ds->Prop) (xe xe':XKd),(∀ d ds',Q d ds'->Q' d ds')->(∀ x ds',xe x ds'->xe' x ds')->t ds Q xe->t ds Q' xe'
theorem PE.mono{X:Cx}{e:Expr}{t t':TE}(h:PE X e t)(i:∀ σ H Q,t' σ H Q->t σ H Q):PE X e t':=λ Fb s σ H Q I q=>h Fb s σ H Q I (i σ H Q q)
theorem PT.mono{X:Cx}{e:Expr}{t t':TT}(h:PT X e t)(i:∀ σ H Q,t' σ H Q->t σ H Q):PT X e t':=λ Fb s σ H Q I q=>h Fb s σ H Q I (i σ H Q q)
theorem PW.mono{X:Cx}{e:Expr}{t t':TT}(h:PW X e t)(i:∀ σ H Q,t' σ H Q->t σ H Q):PW X e t':=λ w Fb s σ H Q I q=>h w Fb s σ H Q I (i σ H Q q)
theorem PA.mono{X:Cx}{es:List Expr}{t t':TA}(h:PA X es t)(i:∀ σ H Q,t' σ H Q->t σ H Q):PA X es t':=λ p Fb s σ H Q I q=>h p Fb s σ H Q I (i σ H Q q)
theorem PS.mono{X:Cx}{st:Stmt}{t t':TS}(h:PS X st t)(i:∀ D σ H,t' D σ H->t D σ H):PS X st t':=λ Fb s σ H D I q=>h Fb s σ H D I (i D σ H q)
theorem PSs.mono{X:Cx}{st:List Stmt}{t t':TS}(h:PSs X st t)(i:∀ D σ H,t' D σ H->t D σ H):PSs X st t':=λ Fb s σ H D I q=>h Fb s σ H D I (i D σ H q)
def orF{α:Type}(o:Option α)(k:α->Prop):Prop:=match o with | some a=>k a | none=>False
theorem qa5{o:Option α}{k b:α->Prop}(h:∀ a,k a->b a):orF o k->orF o b:=by
 cases o with
 | none=>exact id
 | some a=>exact h a
theorem qa7{o:Option α}{k:α->Prop}:orF o k↔∃ a,o=some a/\k a:=by
 cases o with
 | none=>exact⟨λ h=>h.elim,λ ⟨_,e,_⟩=>by cases e⟩
 | some a=>exact⟨λ h=>⟨a,rfl,h⟩,λ ⟨b,e,h⟩=>by cases e;exact h⟩
section
variable{c:Vc}{X:Cx}{e:Expr}{F:γ->Prop}{H H':Hp}{σ:St}{ds:Ds}{A:List γ}
theorem M6.new{B:List γ}(S:M6 c F H σ ds A)(n:New H B)(s:Same H H'):Ok F H' (B++A):=n.ok S.ok S.loc.cells s
def Bw(f:FV):VT:=λ ds Q _=>orF (f ds) λ d=>Q d ds
def By(f:FV):VT:=λ ds Q _=>orF (f ds) λ d=>d.imm=true/\Q d ds
theorem qa4{f:FV}(h:VV c X e true f):VE c X e (Bw f):=by
 refine⟨PE.mono h.h λ σ H Q a=>?_,λ b Q Q' g i j _=>qa5 λ d=>j d b⟩;obtain⟨F,b,A,g,S,x,q⟩:=a;obtain⟨d,e,q⟩:=qa7.mp q;exact⟨F,b,A,d,S,e,λ v H' B r s n=>q v H' F B A r (S.same s) (S.new (n rfl) s) ((n rfl).stp s)⟩
theorem qb8{own:Bool}{f:FV}(h:VV c X e own f):VE c X e (By f):=by
 refine⟨PE.mono h.h λ σ H Q a=>?_,λ b Q Q' g i j _=>qa5 λ d=>And.imp_right (j d b)⟩;obtain⟨F,b,A,g,S,x,q⟩:=a;obtain⟨d,e,k,q⟩:=qa7.mp q;refine⟨F,b,A,d,S,e,λ v H' B r s _=>?_⟩
 have:=r.imm k
 subst this;exact q v H' F [] A r (S.same s) (S.ok.same s) (.same s)
theorem Hw{d:D}(h:PE X e (tC v))(r:∀ F H,M3 F H v d []):VV c X e true (λ _=>some d) :=
 ⟨PE.mono h λ σ H Q ⟨F,a,A,b,S,e,q⟩=>by cases e;exact q v H [] (r F H) (λ _ _ z=>z) λ _=>New.nil⟩
noncomputable def D.known:D->Bool
 | .u=>false
 | .hole _=>false
 | _=>true
def rdN(i:Nat):FV:=λ ds=>match ds[i]? with
 | some d=>if d.known=true then some d else none
 | none=>none
theorem qj3{d:D}:rdN i ds=some d↔ds[i]? = some d/\d.known=true:=by
 unfold rdN;cases h:ds[i]? with
 | none=>simp
 | some x =>
   dsimp only;split
   . rename_i hk;constructor
     . intro e;cases e;exact⟨rfl,hk⟩
     rintro⟨e,_⟩;exact e
   rename_i hk;constructor
   . intro e;cases e
   rintro⟨e,a⟩;cases e;exact absurd a hk
theorem M6.at{d:D}(S:M6 c F H σ ds A)(hi:i < σ.length)(h:ds[i]? = some d)(a:d.known=true):∃ v B,σ[i]? = some (some v)/\M3 F H v d B/\∀ b,B.count b<=A.count b:=by
 obtain⟨σ1,o,σ2,e,f,A1,B,A2,g,e2,j,m,k,n,l,p⟩:=S.loc.split h;cases l with
 | no=>cases a
 | @so v _ _ r =>
   refine⟨v,B,?_,r,λ b=>by rw[k];simp only[zA0];lia⟩
   have:(σ++c.gv)[i]? = some (some v):=by rw[g];exact qy7 j
   rwa[zAt hi] at this
theorem qaA9{x:Str}{pos:Pos}(h:PE X (.Name x pos) (Hl i))(hi:∀ Fb σ H s,M4 X Fb σ H s->i < σ.length):VV c X (.Name x pos) false (rdN i):=by
 refine⟨λ Fb s σ H Q I a=>?_⟩;obtain⟨F,g,A,d,S,e,q⟩:=a;refine h Fb s σ H Q I ?_;obtain⟨e,b⟩:=qj3.mp e;obtain⟨v,B,f,r,_⟩:=S.at (hi Fb σ H s I) e b;exact⟨v,f,q v H B r (λ _ _ z=>z) λ z=>by cases z⟩
theorem qm9{X:Cx}{x:Str}(a:X.N[i]? = some x):∀ Fb σ H s,M4 X Fb σ H s->i < σ.length:=λ Fb σ H s I=>by
 rw[I.len];exact(zA6.mp a).1
end
def Sub(H:Hp)(B B':List γ):Prop:=∀ b,B'.count b<=B.count b∨(B'.count b<=1/\H b=none)
theorem Sub.new{H H1:Hp}{B B':List γ}(s:Sub H1 B B')(n:New H B)(q:Same H H1):New H B':=by
 refine⟨λ b=>?_,λ b o e=>?_⟩
 . rcases s b with h | ⟨h,_⟩
   . have:=n.one b;lia
   exact h
 rcases s b with h | ⟨_,h⟩
 . have:=n.new b o e;lia
 rw[q b o e] at h;cases h
def OpS(nw:Bool)(r:List V->Hp->VK->Prop)(g:Ds->Option D):Prop:=∀ F H vs xs B d (Q:VK),Mr F H vs xs B->g xs=some d ->
 (∀ v H' B',M3 F H' v d B'->Same H H'->(if nw=true then New H B' else Sub H B B')->Q v H')->r vs H Q
def A4(nw:Bool)(r:R2)(g:D->D->Option D):Prop:=∀ F H v w x y B d (Q:VK),Mr F H [v,w] [x,y] B->g x y=some d ->
 (∀ v H' B',M3 F H' v d B'->Same H H'->(if nw=true then New H B' else Sub H B B')->Q v H')->r v w H Q
noncomputable def f2(g:D->D->Option D)(fa fb:FV):FV:=λ ds=>(fa ds).bind λ x=>(fb ds).bind λ y=>g x y
theorem qay5{g:D->D->Option D}{fa fb:FV}{ds:Ds}{d:D}:f2 g fa fb ds=some d↔∃ x y,fa ds=some x/\fb ds=some y/\g x y=some d:=by
 unfold f2;cases a:fa ds with
 | none=>simp
 | some x=>cases b:fb ds with
   | none=>simp
   | some y=>simp
noncomputable def f1(g:D->Option D)(fa:FV):FV:=λ ds=>(fa ds).bind g
theorem qay6{g:D->Option D}{fa:FV}{ds:Ds}{d:D}:f1 g fa ds=some d↔∃ x,fa ds=some x/\g x=some d:=by
 unfold f1;cases a:fa ds with
 | none=>simp
 | some x=>simp
theorem Hn{F:γ->Prop}{H:Hp}{d e:D}{A B:List γ}(r:M3 F H v d A)(s:M3 F H w e B):Mr F H [v,w] [d,e] (A++(B++[])):=.cons r (.cons s .nil)
section
variable{c:Vc}{X:Cx}{a b:Expr}{oa ob nw:Bool}{fa fb:FV}{r:R2}{g:D->D->Option D}{ta tb:VT}
theorem op_vv(h:A4 nw r g):∀ σ H Q,liftV c (nw||(oa&&ob)) (f2 g fa fb) σ H Q->tOp r (liftV c oa fa) (liftV c ob fb) σ H Q:=by
 rintro σ H Q ⟨F,k,A,d,S,e,q⟩;obtain⟨x,y,m,n,p⟩:=qay5.mp e;refine⟨F,k,A,x,S,m,λ v H1 B1 l a s=>⟨F,k,A,y,S.same a,n,λ w H2 B2 t i z=>?_⟩⟩;refine h F H2 v w x y _ d Q (Hn (l.same i) t) p λ u H3 B3 B C f=>?_
 refine q u H3 B3 B ((a.trans i).trans C) λ j=>?_
 cases nw with
 | true=>rw[if_pos rfl] at f;exact⟨f.one,λ b o e=>f.new b o (i b o (a b o e))⟩
 | false =>
   rw[if_neg (by decide)] at f;have j:=zAi.mp j
   have:=(s j.1).append a l.cells (z j.2)
   exact f.new (by rw[zAf];exact this) (a.trans i)
def t2(g:D->D->Option D)(ta tb:VT):VT:=λ ds Q xe=>ta ds (λ x ds1=>tb ds1 (λ y a=>orF (g x y) λ d=>Q d a) xe) xe
theorem qan3(j:VE c X a ta)(k:VE c X b tb):∀ ds (Q Q':DK) (xe f:XKd),(∀ d e,Q d e->Q' d e)->(∀ x e,xe x e->f x e)->t2 g ta tb ds Q xe->t2 g ta tb ds Q' f :=
 λ ds Q Q' xe f l i=>j.m _ _ _ _ _ (λ d n=>k.m _ _ _ _ _ (λ d h=>qa5 λ z=>l z h) i) i
theorem op_ee(s:VE c X a ta)(i:VE c X b tb)(h:A4 true r g):∀ σ H Q,Bd c (t2 g ta tb) σ H Q->tOp r (Bd c ta) (Bd c tb) σ H Q:=by
 rintro σ H Q ⟨F,t,A,o,S,x,q⟩;refine⟨F,t,A,o,S,x,s.m _ _ _ _ _ (λ p j q v H1 F1 T A1 y S1 B C=>?_) (λ _ _ z=>z) q⟩;have e:M5 F H A F1 H1 A1:=C.count λ b=>by rw[zA0];lia
 refine⟨F1,j,A1,o,S1,x.step e,i.m _ _ _ _ _ (λ D E q w H2 F2 T2 A2 G S2 L I=>?_) (λ _ _ z=>z) q⟩;obtain⟨d,J,q⟩:=qa7.mp q;have f:M5 F1 H1 A1 F2 H2 A2:=I.count λ b=>by rw[zA0];lia
 have k:M3 F2 H2 v p T:=y.keep (f.kp S1.ok S1.loc.cells) λ b i M=>by
   have:=B.sep b
   rw[zA0] at this
   have:=qa8.mp i
   lia
 refine h F2 H2 v w p D _ d Q (Hn k G) J λ u H3 B3 K l n=>?_
 rw[if_pos rfl] at n;exact q u H3 F2 B3 A2 K (S2.same l) (S2.new n l) ((e.trans f).trans (n.stp l))
def t2v(g:D->D->Option D)(ta:VT)(fb:FV):VT:=λ ds Q xe=>ta ds (λ x ds1=>orF ((fb ds1).bind (g x)) λ d=>Q d ds1) xe
theorem qas7(h:VE c X a ta):∀ ds (Q Q':DK) (xe e:XKd),(∀ d b,Q d b->Q' d b)->(∀ x b,xe x b->e x b)->t2v g ta fb ds Q xe->t2v g ta fb ds Q' e :=
 λ ds Q Q' xe e i j=>h.m _ _ _ _ _ (λ d f=>qa5 λ z=>i z f) j
theorem op_ev(s:VE c X a ta)(h:A4 true r g):∀ σ H Q,Bd c (t2v g ta fb) σ H Q->tOp r (Bd c ta) (liftV c ob fb) σ H Q:=by
 rintro σ H Q ⟨F,t,A,B,S,x,q⟩;refine⟨F,t,A,B,S,x,s.m _ _ _ _ _ (λ C j q v H1 F1 T A1 D S1 L E=>?_) (λ _ _ z=>z) q⟩;have k:M5 F H A F1 H1 A1:=E.count λ b=>by rw[zA0];lia
 obtain⟨d,l,q⟩:=qa7.mp q;obtain⟨y,G,l⟩:=zA1.mp l;refine⟨F1,j,A1,y,S1,G,λ w H2 B2 I n _=>?_⟩;refine h F1 H2 v w C y _ d Q (Hn (D.same n) I) l λ u H3 B3 J K p=>?_
 rw[if_pos rfl] at p;have f:=n.trans K;have i:New H1 B3:=⟨p.one,λ b o e=>p.new b o (n b o e)⟩
 exact q u H3 F1 B3 A1 J (S1.same f) (S1.new i f) (k.trans (i.stp f))
def OpS1(nw:Bool)(r:V->Hp->VK->Prop)(g:D->Option D):Prop:=∀ F H v x B d (Q:VK),M3 F H v x B->g x=some d ->
 (∀ v H' B',M3 F H' v d B'->Same H H'->(if nw=true then New H B' else Sub H B B')->Q v H')->r v H Q
def t1(g:D->Option D)(ta:VT):VT:=λ ds Q xe=>ta ds (λ x ds1=>orF (g x) λ d=>Q d ds1) xe
variable{r1:V->Hp->VK->Prop}{g1:D->Option D}
theorem op_v(h:OpS1 nw r1 g1):∀ σ H Q,liftV c (nw||oa) (f1 g1 fa) σ H Q->liftV c oa fa σ H (λ x H1=>r1 x H1 Q):=by
 rintro σ H Q ⟨F,g,A,d,S,e,q⟩;obtain⟨x,i,j⟩:=qay6.mp e;refine⟨F,g,A,x,S,i,λ v H1 B1 r1 f k=>?_⟩;refine h F H1 v x _ d Q r1 j λ u H3 B3 l m a=>?_
 refine q u H3 B3 l (f.trans m) λ n=>?_
 cases nw with
 | true=>rw[if_pos rfl] at a;exact⟨a.one,λ b o e=>a.new b o (f b o e)⟩
 | false=>rw[if_neg (by decide)] at a;exact a.new (k n) f
end
theorem qN6{F F1:γ->Prop}{H H1 H3:Hp}{A A1 T B:List γ}(d:Ok F1 H1 (T++A1))(c:M5 F H A F1 H1 (T++A1))(j:∀ b∈A1,∃ o,H1 b=some o/\Fw o=true)(i:Same H1 H3)(g:Sub H1 T B):Ok F1 H3 (B++A1)/\M5 F H A F1 H3 (B++A1):=by
 refine⟨⟨λ b=>?_,λ b f=>?_,λ b f=>let ⟨u,e⟩:=d.ex b f;⟨u,i b u e⟩⟩,λ b o e q=>i b o (c.fr b o e q),λ b o e q=>?_,c.mono,c.fnew⟩
 . have:=d.sep b
   rw[zA0] at this ⊢;rcases g b with h | ⟨h,a⟩
   . lia
   by_cases k:A1.count b=0
   . lia
   obtain⟨o,e,_⟩:=j b (qa8.mpr k);rw[e] at a;cases a
 . have:=d.fro b f
   rw[zA0] at this ⊢;rcases g b with h | ⟨h,a⟩
   . lia
   obtain⟨o,e⟩:=d.ex b f;rw[e] at a;cases a
 have:=c.sub b o e q
 rw[zA0] at this ⊢;rcases g b with h | ⟨h,a⟩
 . lia
 rw[c.fr b o e q] at a;cases a
section
variable{c:Vc}{X:Cx}{a b:Expr}{oa ob nw:Bool}{fa fb:FV}{r:R2}{g:D->D->Option D}{ta tb:VT}
theorem qaQ5(D:VE c X a ta)(e:VE c X b tb)(h:A4 false r g):∀ σ H Q,Bd c (t2 g ta tb) σ H Q->tOp r (Bd c ta) (Bd c tb) σ H Q:=by
 rintro σ H Q ⟨F,E,A,l,S,x,q⟩;refine⟨F,E,A,l,S,x,D.m _ _ _ _ _ (λ n f q v H1 F1 T A1 o S1 p s=>?_) (λ _ _ z=>z) q⟩;have i:M5 F H A F1 H1 A1:=s.count λ b=>by rw[zA0];lia
 refine⟨F1,f,A1,l,S1,x.step i,e.m _ _ _ _ _ (λ G I q w H2 F2 T2 A2 J S2 K t=>?_) (λ _ _ z=>z) q⟩;obtain⟨d,L,q⟩:=qa7.mp q;have j:M3 F2 H2 v n T:=o.keep (t.kp S1.ok S1.loc.cells) λ b e P=>by
   have:=p.sep b
   rw[zA0] at this
   have:=qa8.mp e
   lia
 obtain⟨y,B⟩:=t.frame p o.cells K;refine h F2 H2 v w n G _ d Q (Hn j J) L λ u H3 B3 M C k=>?_
 rw[if_neg (by decide)] at k;rw[<- zAq] at y B;obtain⟨N,O⟩:=qN6 y (s.trans B) S2.loc.cells C (by rw[zAf] at k;exact k);exact q u H3 F2 B3 A2 M (S2.same C) N O
def Kv(g:D->D->Option D)(ta:VT)(fb:FV):VT:=λ ds Q xe=>ta ds (λ x ds1=>orF (fb ds1) λ y=>y.imm=true/\orF (g x y) λ d=>Q d ds1) xe
theorem qaf9(h:VE c X a ta):∀ ds (Q Q':DK) (xe e:XKd),(∀ d b,Q d b->Q' d b)->(∀ x b,xe x b->e x b)->Kv g ta fb ds Q xe->Kv g ta fb ds Q' e :=
 λ ds Q Q' xe e i j=>h.m _ _ _ _ _ (λ d f=>qa5 λ y=>And.imp_right (qa5 λ z=>i z f)) j
theorem qaQ4(p:VE c X a ta)(h:A4 false r g):∀ σ H Q,Bd c (Kv g ta fb) σ H Q->tOp r (Bd c ta) (liftV c ob fb) σ H Q:=by
 rintro σ H Q ⟨F,s,A,t,S,x,q⟩;refine⟨F,s,A,t,S,x,p.m _ _ _ _ _ (λ B i q v H1 F1 T A1 C S1 D E=>?_) (λ _ _ z=>z) q⟩;obtain⟨y,G,I,q⟩:=qa7.mp q;obtain⟨d,J,q⟩:=qa7.mp q;refine⟨F1,i,A1,y,S1,G,λ w H2 B2 k j _=>?_⟩
 have:=k.imm I
 subst this;refine h F1 H2 v w B y _ d Q (Hn (C.same j) k) J λ u H3 B3 K L l=>?_
 rw[if_neg (by decide),zAf,zAf] at l;have f:=j.trans L;have M:Sub H1 T B3:=λ b=>(l b).imp id λ ⟨N,n⟩=>⟨N,by
   cases e:H1 b with
   | none=>rfl
   | some o=>rw[j b o e] at n;cases n⟩
 obtain⟨O,P⟩:=qN6 D E S1.loc.cells f M;exact q u H3 F1 B3 A1 K (S1.same f) O P
theorem qa6:VVs c X [] true (λ _=>some []):=⟨PA.mono qt9 λ σ H Q ⟨F,a,A,b,S,e,q⟩=>by cases e;exact q [] H [] .nil (λ _ _ z=>z) λ _=>New.nil⟩
noncomputable def A9(fa:FV)(fr:Ds->Option Ds):Ds->Option Ds:=λ ds=>(fa ds).bind λ x=>(fr ds).bind λ xs=>some (x::xs)
theorem qal0{fa:FV}{fr:Ds->Option Ds}{ds xs:Ds}:A9 fa fr ds=some xs↔∃ x r,fa ds=some x/\fr ds=some r/\xs=x::r:=by
 unfold A9;cases a:fa ds with
 | none=>simp
 | some x=>cases b:fr ds with
   | none=>simp
   | some y=>simp[eq_comm]
theorem qa0{e:Expr}{es:List Expr}{own:Bool}{fr:Ds->Option Ds}(j:VV c X e oa fa)(k:VVs c X es own fr)(l:Lq (e::es) X.env=(false,eval e X.env)::Lq es X.env):VVs c X (e::es) (oa&&own) (A9 fa fr):=by
 refine⟨PA.mono (qe6 j.h k.h l) λ σ H Q b=>?_⟩;obtain⟨F,f,A,t,S,e,q⟩:=b;obtain⟨x,r,m,e2,rfl⟩:=qal0.mp e;refine⟨F,f,A,x,S,m,λ v H1 B1 g d n=>⟨F,f,A,r,S.same d,e2,λ o H2 B2 p i s=>?_⟩⟩;refine q (v::o) H2 (B1++B2) (.cons (g.same i) p) (d.trans i) λ a=>?_
 have a:=zAi.mp a;exact(n a.1).append d g.cells (s a.2)
variable{rc:List V->Hp->VK->Prop}{gc:Ds->Option D}
theorem qaG7{own:Bool}{f:Ds->Option Ds}(h:OpS nw rc gc):∀ σ H Q,liftV c (nw||own) (λ ds=>(f ds).bind gc) σ H Q->tCB rc (qaI4 c own f) σ H Q:=by
 rintro σ H Q ⟨F,ds,A,d,S,e,q⟩;obtain⟨i,j,e2⟩:=zA1.mp e;refine⟨F,ds,A,i,S,j,λ k H1 B1 l g m=>h F H1 k i B1 d Q l e2 λ u H3 B3 n p a=>q u H3 B3 n (g.trans p) λ r=>?_⟩;cases nw with
 | true=>rw[if_pos rfl] at a;exact⟨a.one,λ b o e=>a.new b o (g b o e)⟩
 | false=>rw[if_neg (by decide)] at a;exact a.new (m r) g
def tcO(gc:Ds->Option D)(t:VTA):VT:=λ ds Q xe=>t ds (λ xs ds1=>orF (gc xs) λ d=>Q d ds1) xe
theorem qas4{es:List Expr}{t:VTA}(f:VOs c X es t):∀ ds (Q Q':DK) (xe b:XKd),(∀ d a,Q d a->Q' d a)->(∀ x a,xe x a->b x a)->tcO gc t ds Q xe->tcO gc t ds Q' b :=
 λ ds Q Q' xe b g h=>f.m _ _ _ _ _ (λ d e=>qa5 λ z=>g z e) h
theorem opc_o{es:List Expr}{t:VTA}(e:VOs c X es t)(h:OpS true rc gc):∀ σ H Q,Bd c (tcO gc t) σ H Q->tCB rc (qaI5 c t) σ H Q:=by
 rintro σ H Q ⟨F,f,A,g,S,x,q⟩;refine⟨F,f,A,g,S,x,e.m _ _ _ _ _ (λ i j q k H1 F1 T A1 l S1 n=>?_) (λ _ _ z=>z) q⟩;obtain⟨d,o,q⟩:=qa7.mp q;refine h F1 H1 k i T d Q l o λ u H3 B3 p a b=>?_
 rw[if_pos rfl] at b;exact q u H3 F1 B3 A1 p (S1.same a) (S1.new b a) (n.trans (b.stp a))
end
def D.kids:D->List D
 | .q ds=>ds
 | .l false ds=>ds
 | .dct false kvs=>kvs.map (·.2)
 | .ins false _ fs=>fs.map (·.2)
 | _=>[]
noncomputable def Jv{κ:Type}:List (κ×D)->Nat->D->List (κ×D)
 | [],_,_=>[]
 | (k,_)::r,0,x=>(k,x)::r
 | p::r,n+1,x=>p::Jv r n x
theorem qI3{κ:Type}:∀(l:List (κ×D))(n:Nat)(x:D),(Jv l n x).map (·.1)=l.map (·.1)/\(Jv l n x).map (·.2)=(l.map (·.2)).set n x
 | [],_,_=>⟨rfl,rfl⟩
 | (k,_)::r,0,x=>⟨rfl,rfl⟩
 | p::r,n+1,x=>by
   obtain⟨a,b⟩:=qI3 r n x;simp only[Jv,zAx,a,b,List.set_cons_succ,and_self]
def D.setK:D->Nat->D->D
 | .q ds,n,x=>.q (ds.set n x)
 | .l z ds,n,x=>.l z (ds.set n x)
 | .dct z kvs,n,x=>.dct z (Jv kvs n x)
 | .ins z C fs,n,x=>.ins z C (Jv fs n x)
 | d,_,_=>d
def Lnk(H:Hp)(u:V)(n:Nat)(w:V):Prop:=∃ a,u=.ref a /\
 ((∃ vs,H a=some (.q vs)/\vs[n]? = some w)∨(∃ vs,H a=some (.l vs)/\vs[n]? = some w)∨(∃ kvs,H a=some (.dK kvs)/\(kvs.map (·.2))[n]? = some w)∨∃ C dx fs,H a=some (.ins C dx fs)/\(fs.map (·.2))[n]? = some w)
section
variable{F F':γ->Prop}{H H':Hp}
theorem Mr.split:∀{ds:List D}{vs:List V}{A:List γ}{i:Nat}{d:D},Mr F H vs ds A->ds[i]? = some d ->
   ∃ b v c ds1 a A1 B A2,vs=b++v::c/\ds=ds1++d::a/\b.length=i/\ds1.length=i/\A=A1++(B++A2)/\Mr F H b ds1 A1/\M3 F H v d B/\Mr F H c a A2:=by
 intro ds
 induction ds with
 | nil=>intro σ A i d _ h;simp at h
 | cons e r f =>
   intro σ A i d L h;cases i with
   | zero =>
     have:e=d:=by simpa using h
     subst this;cases L with
     | cons q t=>exact⟨[],_,_,[],_,[],_,_,rfl,rfl,rfl,rfl,rfl,.nil,q,t⟩
   | succ i =>
     have h:r[i]? = some d:=by simpa using h
     cases L with
     | @cons v _ B0 _ _ A0 q t =>
       obtain⟨σ1,o,σ2,ds1,a,A1,B,A2,g,e2,j,k,l,m,n,p⟩:=f t h;exact⟨v::σ1,o,σ2,_::ds1,a,B0++A1,B,A2,by rw[g];rfl,by rw[e2];rfl,by simp[j],by simp[k],by rw[l,zAq],.cons q m,n,p⟩
theorem Mr.append{a:List V}{ds es:List D}{A B:List γ}(r:Mr F H vs ds A)(t:Mr F H a es B):Mr F H (vs++a) (ds++es) (A++B):=by
 induction vs generalizing ds A with
 | nil=>cases r;exact t
 | cons v vs b =>
   cases r with
   | cons h c=>rw[zAq];exact .cons h (b c)
theorem Mr.kid{ds:List D}{A:List γ}{d:D}(r:Mr F H vs ds A)(h:ds[n]? = some d):∃(w:V)(B C:List γ),vs[n]? = some w/\M3 F H w d B/\(∀ b,A.count b=B.count b+C.count b) /\
   ∀{F':γ->Prop}{H':Hp}{W:γ->Prop}(d':D)(B':List γ),Kp F H W F' H'->(∀ b∈C,¬ W b)->M3 F' H' w d' B'->∃ A':List γ,Mr F' H' vs (ds.set n d') A'/\∀ b,A'.count b=B'.count b+C.count b:=by
 obtain⟨f,v,g,i,j,A1,B,A2,c,e2,l,m,o,p,q,s⟩:=r.split h;refine⟨v,B,A1++A2,by rw[c];exact qy7 l,q,λ b=>by rw[o];simp only[zA0];lia,λ{F' H' W} d' B' k e t=>⟨A1++(B'++A2),?_,λ b=>by simp only[zA0];lia⟩⟩;rw[c,e2,qm4 m];exact(p.keep k λ b a=>e b (zAe.mpr (.inl a))).append (.cons t (s.keep k λ b a=>e b (zAe.mpr (.inr a))))
theorem M3.kid{p:V}{d0 d:D}{A:List γ}(r:M3 F H p d0 A)(h:d0.kids[n]? = some d):∃(w:V)(B C:List γ),Lnk H p n w/\M3 F H w d B/\(∀ b,A.count b=B.count b+C.count b) /\
   ∀{F':γ->Prop}{H':Hp}{W:γ->Prop}(d':D)(B':List γ),Kp F H W F' H'->(∀ b∈C,¬ W b)->M3 F' H' w d' B'->∃ A':List γ,M3 F' H' p (d0.setK n d') A'/\∀ b,A'.count b=B'.count b+C.count b:=by
 cases r with
 | @q a vs ds _ e r =>
   obtain⟨w,B,C,f,g,i,j⟩:=r.kid (n:=n) h;refine⟨w,B,C,⟨a,rfl,.inl ⟨vs,e,f⟩⟩,g,i,λ{F' H' W} d' B' k c l=>?_⟩;obtain⟨A',m,q2⟩:=j d' B' k c l;exact⟨A',.q (k.q e) m,q2⟩
 | @l a vs ds A e r =>
   obtain⟨w,B,C,f,g,i,j⟩:=r.kid (n:=n) h;refine⟨w,B,a::C,⟨a,rfl,.inr (.inl ⟨vs,e,f⟩)⟩,g,λ b=>by rw[zAo,zAo,i];lia,λ{F' H' W} d' B' k c l=>?_⟩;obtain⟨A',m,q2⟩:=j d' B' k (λ b o=>c b (zA5 _ o)) l;exact⟨a::A',.l (k.fr a _ e (c a zAc)) m,λ b=>by rw[zAo,zAo,q2];lia⟩
 | @dct a kvs kds A e q r =>
   obtain⟨w,B,C,f,g,i,j⟩:=r.kid (n:=n) h;refine⟨w,B,a::C,⟨a,rfl,.inr (.inr (.inl ⟨kvs,e,f⟩))⟩,g,λ b=>by rw[zAo,zAo,i];lia,λ{F' H' W} d' B' k c l=>?_⟩;obtain⟨A',m,q2⟩:=j d' B' k (λ b o=>c b (zA5 _ o)) l;obtain⟨s,t⟩:=qI3 kds n d';exact⟨a::A',.dct (k.fr a _ e (c a zAc)) (q.trans s.symm) (by rw[t];exact m),λ b=>by rw[zAo,zAo,q2];lia⟩
 | @ins a C0 dx fvs fds A e q r =>
   obtain⟨w,B,C,f,g,i,j⟩:=r.kid (n:=n) h;refine⟨w,B,a::C,⟨a,rfl,.inr (.inr (.inr ⟨C0,dx,fvs,e,f⟩))⟩,g,λ b=>by rw[zAo,zAo,i];lia,λ{F' H' W} d' B' k c l=>?_⟩;obtain⟨A',m,q2⟩:=j d' B' k (λ b o=>c b (zA5 _ o)) l;obtain⟨s,t⟩:=qI3 fds n d';exact⟨a::A',.ins (k.fr a _ e (c a zAc)) (q.trans s.symm) (by rw[t];exact m),λ b=>by rw[zAo,zAo,q2];lia⟩
 | _=>cases (show (none:Option D)=some _ from h)
def D.getP:D->List Nat->Option D
 | d,[]=>some d
 | d,n::p=>match d.kids[n]? with
   | some e=>e.getP p
   | none=>none
def D.setP:D->List Nat->D->D
 | _,[],x=>x
 | d,n::p,x=>match d.kids[n]? with
   | some e=>d.setK n (e.setP p x)
   | none=>d
def Walk(H:Hp):V->List Nat->V->Prop
 | u,[],w=>u=w
 | u,n::p,w=>∃ v,Lnk H u n v/\Walk H v p w
theorem M3.path:∀{p:List Nat}{a:V}{d0 d:D}{A:List γ},M3 F H a d0 A->d0.getP p=some d->∃(w:V)(B C:List γ),Walk H a p w/\M3 F H w d B/\(∀ b,A.count b=B.count b+C.count b) /\
   ∀{F':γ->Prop}{H':Hp}{W:γ->Prop}(d':D)(B':List γ),Kp F H W F' H'->(∀ b∈C,¬ W b)->M3 F' H' w d' B'->∃ A':List γ,M3 F' H' a (d0.setP p d') A'/\∀ b,A'.count b=B'.count b+C.count b:=by
 intro p
 induction p with
 | nil =>
   intro a d0 d A r h;cases h;exact⟨a,A,[],rfl,r,λ b=>by simp,λ{F' H' W} d' B' k f g=>⟨B',g,λ b=>by simp⟩⟩
 | cons n p j =>
   intro a d0 d A r h;unfold D.getP at h;cases c:d0.kids[n]? with
   | none=>rw[c] at h;cases h
   | some e =>
     rw[c] at h;obtain⟨l,B1,C1,m,o,q,s⟩:=r.kid c;obtain⟨w,B,C,t,u,v,x⟩:=j o h;refine⟨w,B,C++C1,⟨l,m,t⟩,u,λ b=>by rw[q,v,zA0];lia,λ{F' H' W} d' B' k f g=>?_⟩;obtain⟨A1,y,q2⟩:=x d' B' k (λ b i=>f b (zAe.mpr (.inl i))) g;obtain⟨A2,z,E⟩:=s (e.setP p d') A1 k (λ b i=>f b (zAe.mpr (.inr i))) y;refine⟨A2,?_,λ b=>by rw[E,q2,zA0];lia⟩;unfold D.setP;rw[c];exact z
def A5(ds:Ds)(i:Nat)(p:List Nat):Option D:=match ds[i]? with
 | some d=>d.getP p
 | none=>none
def Bb(ds:Ds)(i:Nat)(p:List Nat)(x:D):Ds:=match ds[i]? with
 | some d=>ds.set i (d.setP p x)
 | none=>ds
theorem qac2{p:List Nat}{d:D}(h:D.getP .u p=some d):p=[]/\d=.u:=by
 cases p with
 | nil=>cases h;exact⟨rfl,rfl⟩
 | cons n p=>cases (show (none:Option D)=some _ from h)
theorem Locs.place{σ:List (Option V)}{ds:Ds}{A:List γ}{p:List Nat}{d:D}(L:Locs F H σ ds A)(h:A5 ds i p=some d)(g:d≠.u):∃(u w:V)(B C:List γ),σ[i]? = some (some u)/\Walk H u p w/\M3 F H w d B/\(∀ b,A.count b=B.count b+C.count b) /\
   ∀{F':γ->Prop}{H':Hp}{W:γ->Prop}(d':D)(B':List γ),Kp F H W F' H'->(∀ b∈C,¬ W b)->M3 F' H' w d' B'->∃ A':List γ,Locs F' H' σ (Bb ds i p d') A'/\∀ b,A'.count b=B'.count b+C.count b:=by
 unfold A5 at h;cases c:ds[i]? with
 | none=>rw[c] at h;cases h
 | some J =>
   rw[c] at h;obtain⟨σ1,o,σ2,j,l,A1,B0,A2,f,e2,m,n,q,s,t,v⟩:=L.split c;cases t with
   | no=>exact absurd (qac2 h).2 g
   | @so u _ _ r =>
     obtain⟨w,B,C,x,y,z,E⟩:=r.path h;refine⟨u,w,B,A1++(C++A2),by rw[f];exact qy7 m,x,y,λ b=>by rw[q];simp only[zA0,z];lia,λ{F' H' W} d' B' k e G=>?_⟩;obtain⟨A',I,q2⟩:=E d' B' k (λ b a=>e b (zAe.mpr (.inr (zAe.mpr (.inl a))))) G;refine⟨A1++(A'++A2),?_,λ b=>by simp only[zA0,q2];lia⟩;unfold Bb;rw[c,f];dsimp only;rw[e2,qm4 n];exact(s.keep k λ b a=>e b (zAe.mpr (.inl a))).append (.so I (v.keep k λ b a=>e b (zAe.mpr (.inr (zAe.mpr (.inr a))))))
theorem Lnk.fn{u:V}(h:Lnk H u n v)(h':Lnk H u n w):v=w:=by
 obtain⟨a,rfl,h⟩:=h;obtain⟨b,e,h'⟩:=h';cases e;rcases h with⟨vs,e,h⟩ | ⟨vs,e,h⟩ | ⟨vs,e,h⟩ | ⟨C,dx,vs,e,h⟩<;>rcases h' with⟨vs',e',h'⟩ | ⟨vs',e',h'⟩ | ⟨vs',e',h'⟩ | ⟨C',dx',vs',e',h'⟩<;>rw[e] at e'<;>cases e'<;>rw[h] at h'<;>exact Option.some.inj h'
theorem Walk.fn:∀{p:List Nat}{u v w:V},Walk H u p v->Walk H u p w->v=w
 | [],_,_,_,h,h'=>h.symm.trans h'
 | n::p,_,_,_,⟨x,h1,h2⟩,⟨y,h3,h4⟩=>by
   cases h1.fn h3;exact Walk.fn h2 h4
theorem Lnk.same{u:V}(h:Lnk H u n v)(s:Same H H'):Lnk H' u n v:=by
 obtain⟨a,rfl,h⟩:=h;refine⟨a,rfl,?_⟩;rcases h with⟨vs,e,h⟩ | ⟨vs,e,h⟩ | ⟨vs,e,h⟩ | ⟨C,dx,vs,e,h⟩
 . exact .inl ⟨vs,s _ _ e,h⟩
 . exact .inr (.inl ⟨vs,s _ _ e,h⟩)
 . exact .inr (.inr (.inl ⟨vs,s _ _ e,h⟩))
 exact .inr (.inr (.inr ⟨C,dx,vs,s _ _ e,h⟩))
theorem Walk.same:∀{p:List Nat}{u v:V},Walk H u p v->Same H H'->Walk H' u p v
 | [],_,_,h,_=>h
 | n::p,_,_,⟨x,h1,h2⟩,s=>⟨x,h1.same s,h2.same s⟩
end
section
variable{c:Vc}{X:Cx}{b:Expr}{r:R2}{g:D->D->Option D}{tb:VT}
def t2n(g:D->D->Option D)(i:Nat)(tb:VT):VT:=λ ds Q xe=>(rdN i ds).isSome=true/\tb ds (λ y ds1=>orF ((rdN i ds1).bind λ x=>g x y) λ d=>Q d ds1) xe
theorem qas8(h:VE c X b tb):∀ ds (Q Q':DK) (xe e:XKd),(∀ d a,Q d a->Q' d a)->(∀ x a,xe x a->e x a)->t2n g i tb ds Q xe->t2n g i tb ds Q' e :=
 λ ds Q Q' xe e j k=>And.imp_right (h.m _ _ _ _ _ (λ d f=>qa5 λ z=>j z f) k)
theorem M6.name{F:γ->Prop}{H:Hp}{σ:St}{ds:Ds}{A:List γ}{d:D}(S:M6 c F H σ ds A)(hi:i < σ.length)(h:rdN i ds=some d):∃ v B,σ[i]? = some (some v)/\M3 F H v d B/\∀ b,B.count b<=A.count b :=
 let ⟨e,k⟩:=qj3.mp h
 S.at hi e k
theorem op_ne{σ:St}{H:Hp}(o:VE c X b tb)(h:A4 true r g)(hi:i < σ.length)(q:Bd c (t2n g i tb) σ H Q):tOp r (Hl i) (Bd c tb) σ H Q:=by
 obtain⟨F,p,A,s,S,x,t,q⟩:=q;obtain⟨L,e⟩:=zB5.mp t;obtain⟨v,B0,n,_,_⟩:=S.name hi e;refine⟨v,n,F,p,A,s,S,x,o.m _ _ _ _ _ (λ C D q w H1 F1 T A1 E S1 M G=>?_) (λ _ _ z=>z) q⟩;have f:M5 F H A F1 H1 A1:=G.count λ b=>by rw[zA0];lia
 obtain⟨d,j,q⟩:=qa7.mp q;obtain⟨y,I,j⟩:=zA1.mp j;obtain⟨N,B,a,J,_⟩:=S1.name hi I;rw[n] at a;cases a;refine h F1 H1 v w y C _ d Q (Hn J E) j λ u H3 B3 K k l=>?_
 rw[if_pos rfl] at l;exact q u H3 F1 B3 A1 K (S1.same k) (S1.new l k) (f.trans (l.stp k))
end
section
variable{F:γ->Prop}{H:Hp}{K:W.Frag}
theorem M3.lst_inv{ds:List D}{B:List γ}(r:M3 F H v (.l z ds) B):∃ a vs A,v=.ref a/\H a=some (.l vs)/\Mr F H vs ds A/\∀ b,A.count b<=B.count b:=by
 cases r with
 | l h r=>exact⟨_,_,_,rfl,h,r,λ b=>by rw[zAo];lia⟩
 | lstZ h f r=>exact⟨_,_,_,rfl,h,r,λ b=>zA3 _⟩
theorem M3.tup_inv{ds:List D}{B:List γ}(r:M3 F H v (.q ds) B):∃ a vs,v=.ref a/\H a=some (.q vs)/\Mr F H vs ds B:=by
 cases r with
 | q h r=>exact⟨_,_,rfl,h,r⟩
theorem M3.dct_inv{c:List (Key×D)}{B:List γ}(r:M3 F H v (.dct z c) B):∃ a kvs A,v=.ref a/\H a=some (.dK kvs)/\kvs.map (·.1)=c.map (·.1)/\Mr F H (kvs.map (·.2)) (c.map (·.2)) A/\∀ b,A.count b<=B.count b:=by
 cases r with
 | dct h e r=>exact⟨_,_,_,rfl,h,e,r,λ b=>by rw[zAo];lia⟩
 | dctZ h f e r=>exact⟨_,_,_,rfl,h,e,r,λ b=>zA3 _⟩
theorem M3.ins_inv{C:γ}{c:List (Str×D)}{B:List γ}(r:M3 F H v (.ins z C c) B):∃ a dx d A,v=.ref a/\H a=some (.ins C dx d)/\d.map (·.1)=c.map (·.1)/\Mr F H (d.map (·.2)) (c.map (·.2)) A/\∀ b,A.count b<=B.count b:=by
 cases r with
 | ins h e r=>exact⟨_,_,_,_,rfl,h,e,r,λ b=>by rw[zAo];lia⟩
 | insZ h f e r=>exact⟨_,_,_,_,rfl,h,e,r,λ b=>zA3 _⟩
noncomputable def D.elems:D->Option Ds
 | .l _ ds=>some ds
 | .q ds=>some ds
 | _=>none
theorem M3.elems{d:D}{ds:Ds}{B:List γ}(r:M3 F H v d B)(h:d.elems=some ds):∃ a vs A,v=.ref a/\(SqL K H a vs∨SqT K H a vs)/\Mr F H vs ds A/\∀ b,A.count b<=B.count b:=by
 cases d with
 | l z c=>cases h;obtain⟨a,vs,A,e,h,r,q⟩:=r.lst_inv;exact⟨a,vs,A,e,.inl (.inl (.inl h)),r,q⟩
 | q c=>cases h;obtain⟨a,vs,e,h,r⟩:=r.tup_inv;exact⟨a,vs,_,e,.inr (.inl (.inl h)),r,λ _=>zA3 _⟩
 | _=>cases h
theorem Mr.len{ds:List D}{A:List γ}(r:Mr F H vs ds A):vs.length=ds.length:=by
 induction vs generalizing ds A with
 | nil=>cases r;rfl
 | cons v vs a=>cases r with | cons h t=>simp[a t]
theorem qf3{p:γ}(a:H p=none):New H [p]:=⟨λ b=>by rw[zAo];simp;split<;>lia,λ b o e=>by
 have:b≠p:=λ z=>by rw[z,a] at e;cases e
 simp[zAo,Ne.symm this]⟩
theorem qq1{p:γ}{ds:Ds}(a:H p=none)(r:Mr F H vs ds []):M3 F (upd H p (.l vs)) (.ref p) (.l false ds) [p]:=.l qb3 (r.same (Same.new a))
theorem qY5{p:γ}{ds:Ds}{A:List γ}(a:H p=none)(r:Mr F H vs ds A):M3 F (upd H p (.q vs)) (.ref p) (.q ds) A:=.q qb3 (r.same (Same.new a))
theorem Mr.get{ds:List D}{A:List γ}{d:D}(r:Mr F H vs ds A)(h:ds[n]? = some d):∃ w B,vs[n]? = some w/\M3 F H w d B/\∀ b,B.count b<=A.count b:=by
 obtain⟨w,B,C,a,c,e,_⟩:=r.kid h;exact⟨w,B,a,c,λ b=>by have:=e b;lia⟩
theorem Mr.atI{ds:List D}{A:List γ}{i:Int}{d:D}(r:Mr F H vs ds A)(h:L2.atI ds i=some d):∃ w B,L2.atI vs i=some w/\M3 F H w d B/\∀ b,B.count b<=A.count b:=by
 unfold L2.atI at h ⊢;rw[r.len];cases e:ixN ds.length i with
 | none=>rw[e] at h;cases h
 | some j =>
   rw[e] at h;exact r.get h
theorem Mr.sub{ds:List D}{A:List γ}(r:Mr F H vs ds A)(n m:Nat):∃ B,Mr F H ((vs.drop n).take m) ((ds.drop n).take m) B/\∀ b,B.count b<=A.count b:=by
 induction n generalizing vs ds A with
 | zero =>
   induction m generalizing vs ds A with
   | zero=>exact⟨[],.nil,λ b=>by simp⟩
   | succ m a =>
     cases r with
     | nil=>exact⟨[],.nil,λ b=>by simp⟩
     | cons h t =>
       obtain⟨B,c,q2⟩:=a t;exact⟨_,.cons h (by simpa using c),λ b=>by simp only[zA0];have:=q2 b;lia⟩
 | succ n a =>
   cases r with
   | nil=>exact⟨[],by simpa using Mr.nil,λ b=>by simp⟩
   | cons h t =>
     obtain⟨B,c,q2⟩:=a t;exact⟨B,by simpa using c,λ b=>by simp only[zA0];have:=q2 b;lia⟩
noncomputable def D.flat:D->Option V
 | .non=>some .non
 | .bl b=>some (.bl b)
 | .int i=>some (.int i)
 | .str x=>some (.str x)
 | _=>none
theorem M3.flat{d:D}{B:List γ}(r:M3 F H v d B)(h:d.flat=some w):v=w/\flatV v=true:=by
 cases r<;>cases h<;>exact⟨rfl,rfl⟩
end
noncomputable def big:Nat:=1000000
theorem qg3:big<=Lr:=by decide
section
variable{F:γ->Prop}{H:Hp}
theorem Mr.imms0{ds:Ds}{A:List γ}(r:Mr F H vs ds A)(h:D.imms ds=true):Mr F H vs ds []:=by
 have:=r.imms h
 subst this;exact r
theorem Mr.rep{ds:Ds}(r:Mr F H vs ds []):∀ k:Nat,Mr F H (List.replicate k vs).flatten (List.replicate k ds).flatten []
 | 0=>.nil
 | k+1=>by
   rw[zBm,zBm,zC3,zC3];exact r.append (B:=[]) (r.rep k)
end
noncomputable def gd(p:Prop)[Decidable p](d:D):Option D:=if p then some d else none
theorem qn4{p:Prop}[Decidable p]{d e:D}(h:gd p d=some e):p/\d=e:=by
 unfold gd at h;split at h
 . rename_i hp;exact⟨hp,Option.some.inj h⟩
 cases h
theorem qm0{p:Prop}[Decidable p]{d:D}(h:p):gd p d=some d:=if_pos h
def Jw:D->D->Option D
 | .int i,.int j=>some (.int (i+j))
 | .str a,.str b=>gd (a.length+b.length<=big) (.str (a++b))
 | .l _ xs,.l _ ys=>gd (D.imms xs=true/\D.imms ys=true/\xs.length+ys.length<=big) (.l false (xs++ys))
 | _,_=>none
def rAddA:R2:=λ x y H Q=>rI0 (λ i j=>.int (i+j)) x y H Q∨(∃ i j,x=.str i/\y=.str j/\i.length+j.length<=Lr/\Q (.str (i++j)) H)∨rCat x y H Q
theorem qf0{X:Cx}:OpR X (Mf .Add) rAddA:=qaQ7.or (qY2.or qaQ6)
theorem qe9:A4 true rAddA Jw:=by
 intro F H v w x y B d Q r h q;cases r with | @cons _ _ A _ _ _ e t=>cases t with | @cons _ _ A2 _ _ _ f _ =>
 cases x with
 | int i =>
   cases y with
   | int j=>cases h;cases e;cases f;exact .inl ⟨i,j,rfl,rfl,q _ H [] (.int _) (λ _ _ z=>z) New.nil⟩
   | _=>cases h
 | str a =>
   cases y with
   | str b =>
     obtain⟨c,rfl⟩:=qn4 h;cases e;cases f;exact .inr (.inl ⟨a,b,rfl,rfl,zAn c qg3,q _ H [] (.str _) (λ _ _ z=>z) New.nil⟩)
   | _=>cases h
 | l z s =>
   cases y with
   | l u C =>
     obtain⟨c,rfl⟩:=qn4 h;obtain⟨a,l,_,rfl,m,k,_⟩:=e.lst_inv;obtain⟨b,n,_,rfl,o,q2,_⟩:=f.lst_inv;refine .inr (.inr ⟨a,b,l,n,rfl,rfl,m,o,by rw[k.len,q2.len];exact zAn c.2.2 qg3,λ p g=>?_⟩);exact q _ _ [p] (qq1 g ((k.imms0 c.1).append (q2.imms0 c.2.1))) (Same.new g) (qf3 g)
   | _=>cases h
 | _=>cases h
noncomputable def small(i:Int):Bool:=decide (-(2 ^ 64) < i)&&decide (i < 2 ^ 64)
theorem qM4{i:Int}(h:small i=true):-(2 ^ 64) < i/\i < 2 ^ 64:=by
 have:=zAi.mp h
 exact⟨zAa this.1,zAa this.2⟩
def Jx:D->D->Option D
 | .int i,.int j=>gd ((small i||small j)=true) (.int (i * j))
 | .l _ xs,.int k=>gd (D.imms xs=true/\xs.length * k.toNat<=big/\k < 1000000/\-1000000 < k) (.l false (List.replicate k.toNat xs).flatten)
 | _,_=>none
def rMulA:R2:=λ x y H Q=>rI CMul (λ i j=>.int (i * j)) x y H Q∨rRep x y H Q
theorem qw7{X:Cx}:OpR X (Mf .Mult) rMulA:=qaQ0.or qaP8
theorem qw6:A4 true rMulA Jx:=by
 intro F H v w x y B d Q r h q;cases r with | @cons _ _ A _ _ _ e t=>cases t with | @cons _ _ A2 _ _ _ f _ =>
 cases x with
 | int i =>
   cases y with
   | int j =>
     obtain⟨b,rfl⟩:=qn4 h;cases e;cases f;refine .inl ⟨i,j,rfl,rfl,?_,q _ H [] (.int _) (λ _ _ z=>z) New.nil⟩;rcases Bool.or_eq_true_iff.mp b with h | h
     . exact .inl (qM4 h)
     exact .inr (qM4 h)
   | _=>cases h
 | l z n =>
   cases y with
   | int k =>
     obtain⟨b,rfl⟩:=qn4 h;obtain⟨a,l,_,rfl,m,g,_⟩:=e.lst_inv;cases f;refine .inr ⟨a,k,l,rfl,rfl,m,by lia,by lia,by rw[g.len];exact zAn b.2.1 qg3,λ p c=>?_⟩;exact q _ _ [p] (qq1 c ((g.imms0 b.1).rep _)) (Same.new c) (qf3 c)
   | _=>cases h
 | _=>cases h
def gI(p:Int->Int->Bool)(f:Int->Int->D):D->D->Option D
 | .int i,.int j=>gd (p i j=true) (f i j)
 | _,_=>none
theorem os_I{C:Int->Int->Prop}{p:Int->Int->Bool}{f:Int->Int->D}{fv:Int->Int->V}(a:∀ i j,p i j=true->C i j)(b:∀ F H i j,M3 F H (fv i j) (f i j) []):A4 true (rI C fv) (gI p f):=by
 intro F H v w x y B d Q r h q;cases r with | @cons _ _ A _ _ _ c t=>cases t with | @cons _ _ A2 _ _ _ e _ =>
 cases x with
 | int i =>
   cases y with
   | int j =>
     obtain⟨g,rfl⟩:=qn4 h;cases c;cases e;exact⟨i,j,rfl,rfl,a i j g,q _ H [] (b F H i j) (λ _ _ z=>z) New.nil⟩
   | _=>cases h
 | _=>cases h
theorem Hx{f:Int->Int->D}{fv:Int->Int->V}(a:∀ F H i j,M3 F H (fv i j) (f i j) []):A4 true (rI0 fv) (gI (λ _ _=>true) f):=by
 intro F H v w x y B d Q r h q;obtain⟨i,j,b,c,_,e⟩:=os_I (C:=λ _ _=>True) (fv:=fv) (λ _ _ _=>trivial) a F H v w x y B d Q r h q;exact⟨i,j,b,c,e⟩
def gSub:=gI (λ _ _=>true) λ i j=>.int (i - j)
def gDiv:=gI (λ _ j=>decide (0 < j)&&decide (j < 2 ^ 200)) λ i j=>.int (i / j)
def Jy:=gI (λ _ j=>decide (0 < j)) λ i j=>.int (i % j)
def gLt:=gI (λ _ _=>true) λ i j=>.bl (decide (i < j))
def gLe:=gI (λ _ _=>true) λ i j=>.bl (decide (i<=j))
def gGt:=gI (λ _ _=>true) λ i j=>.bl (decide (j < i))
def gGe:=gI (λ _ _=>true) λ i j=>.bl (decide (j<=i))
theorem qm6:A4 true (rI0 λ i j=>.int (i - j)) gSub:=Hx λ _ _ _ _=>.int _
theorem qav9:A4 true (rI CDivB λ i j=>.int (i / j)) gDiv:=os_I (λ i j h=>by
 have:=zAi.mp h
 exact⟨zAa this.1,zAa this.2⟩) λ _ _ _ _=>.int _
theorem qj4:A4 true (rI (λ _ j=>0 < j) λ i j=>.int (i % j)) Jy:=os_I (λ i j h=>zAa h) λ _ _ _ _=>.int _
theorem Kw:A4 true (rI0 λ i j=>.bl (decide (i < j))) gLt:=Hx λ _ _ _ _=>.bl _
theorem Kx:A4 true (rI0 λ i j=>.bl (decide (i<=j))) gLe:=Hx λ _ _ _ _=>.bl _
theorem Bz:A4 true (rI0 λ i j=>.bl (decide (j < i))) gGt:=Hx λ _ _ _ _=>.bl _
theorem Hy:A4 true (rI0 λ i j=>.bl (decide (j<=i))) gGe:=Hx λ _ _ _ _=>.bl _
noncomputable def D.isN:D->Option Bool
 | .non=>some true
 | .u=>none
 | .hole _=>none
 | _=>some false
theorem M3.isN{F:γ->Prop}{H:Hp}{d:D}{B:List γ}{b:Bool}(r:M3 F H v d B)(h:d.isN=some b):decide (v=.non)=b:=by
 cases r<;>cases h<;>rfl
def gIs:D->D->Option D
 | x,.non=>x.isN.map .bl
 | .bl a,.bl b=>some (.bl (a == b))
 | _,_=>none
def rIs:R2:=λ x y H Q=>(y=.non/\Q (.bl (decide (x=.non))) H)∨(∃ b c,x=.bl b/\y=.bl c/\Q (.bl (b == c)) H)
theorem Fp:A4 true rIs gIs:=by
 intro F H v w x y B d Q r h q;cases r with | @cons _ _ A _ _ _ c t=>cases t with | @cons _ _ A2 _ _ _ f _ =>
 cases y with
 | non =>
   cases f;have h:x.isN.map D.bl=some d:=by cases x<;>exact h
   cases e:x.isN with
   | none=>rw[e] at h;cases h
   | some b =>
     rw[e] at h;cases h;refine .inl ⟨rfl,?_⟩;rw[c.isN e];exact q _ H [] (.bl _) (λ _ _ z=>z) New.nil
 | bl b =>
   cases x with
   | bl a=>cases h;cases c;cases f;exact .inr ⟨a,b,rfl,rfl,q _ H [] (.bl _) (λ _ _ z=>z) New.nil⟩
   | _=>cases h
 | _=>cases x<;>cases h
theorem Fc{X:Cx}:OpR X (Ls .Is) rIs:=qaQ1.or qaQ2
theorem qaG9{X:Cx}:OpR X (Ls .IsNot) (λ x y H Q=>∃ b c,x=.bl b/\y=.bl c/\Q (.bl (b != c)) H):=by
 intro Fb s σ H x y v u Q I a d ⟨b,c,e,e2,q⟩;subst e;subst e2;cases a;cases d;exact PyProof.Rows.isnot_bool ⟨.bl (b != c),H,I,rfl,q⟩
def gIsn:D->D->Option D
 | x,.non=>x.isN.map λ b=>.bl (!b)
 | .bl a,.bl b=>some (.bl (a != b))
 | _,_=>none
def rIsn:R2:=λ x y H Q=>(y=.non/\Q (.bl (!decide (x=.non))) H)∨(∃ b c,x=.bl b/\y=.bl c/\Q (.bl (b != c)) H)
theorem qu0:A4 true rIsn gIsn:=by
 intro F H v w x y B d Q r h q;cases r with | @cons _ _ A _ _ _ c t=>cases t with | @cons _ _ A2 _ _ _ f _ =>
 cases y with
 | non =>
   cases f;have h:x.isN.map (λ b=>D.bl (!b))=some d:=by cases x<;>exact h
   cases e:x.isN with
   | none=>rw[e] at h;cases h
   | some b =>
     rw[e] at h;cases h;refine .inl ⟨rfl,?_⟩;rw[c.isN e];exact q _ H [] (.bl _) (λ _ _ z=>z) New.nil
 | bl b =>
   cases x with
   | bl a=>cases h;cases c;cases f;exact .inr ⟨a,b,rfl,rfl,q _ H [] (.bl _) (λ _ _ z=>z) New.nil⟩
   | _=>cases h
 | _=>cases x<;>cases h
theorem qr2{X:Cx}:OpR X (Ls .IsNot) rIsn:=qaG8.or qaG9
noncomputable def Fh(f:D->D->Option Bool):List D->List D->Option Bool
 | [],[]=>some true
 | x::xs,y::ys=>(f x y).bind λ a=>(Fh f xs ys).bind λ b=>some (a&&b)
 | _,_=>some false
def eqF(x y:D):Option Bool:=match x.flat,y.flat with
 | some v,some w=>some (eqV v w)
 | _,_=>none
noncomputable def D.d0:D->Bool
 | .dct _ []=>true
 | _=>false
def eqZ(x y:D):Option Bool:=if (x.d0&&y.d0)=true then some true else eqF x y
def eqN:Nat->D->D->Option Bool
 | n+1,.l _ xs,.l _ ys=>Fh (eqN n) xs ys
 | n+1,.q xs,.q ys=>Fh (eqN n) xs ys
 | _,x,y=>eqZ x y
theorem qv2{f:D->D->Option Bool}:∀{xs ys:List D}{b:Bool},Fh f xs ys=some b->∃ e:Nat->Bool,(∀ i x y,xs[i]? = some x->ys[i]? = some y->f x y=some (e i))/\b=((List.range (min xs.length ys.length)).all e&&xs.length == ys.length)
 | [],[],b,h=>by cases h;exact⟨λ _=>true,λ i x y h=>by simp at h,by simp⟩
 | [],y::ys,b,h=>by cases h;exact⟨λ _=>true,λ i x y h=>by simp at h,by simp⟩
 | x::xs,[],b,h=>by cases h;exact⟨λ _=>true,λ i x y _ h=>by simp at h,by simp⟩
 | x::xs,y::ys,b,h=>by
   obtain⟨a,k,h⟩:=zA1.mp h;obtain⟨o,l,h⟩:=zA1.mp h;cases h;obtain⟨e,m,q2⟩:=qv2 l;refine⟨λ i=>match i with | 0=>a | i+1=>e i,λ i c d g j=>?_,?_⟩
   . cases i with
     | zero =>
       have n:x=c:=by simpa using g
       have e2:y=d:=by simpa using j
       subst n;subst e2;exact k
     | succ i=>exact m i c d (by simpa using g) (by simpa using j)
   rw[q2,zAg,zAg,Nat.add_min_add_right,List.range_succ_eq_map,List.all_cons,List.all_map];show _=(_&&_&&_)
   have:(xs.length+1 == ys.length+1)=(xs.length == ys.length):=by
     by_cases h:xs.length=ys.length
     . simp[h]
     simp[h]
   rw[this,<- Bool.and_assoc];rfl
section
variable{F:γ->Prop}{H:Hp}
theorem M3.eqF{x y:D}{A B:List γ}{b:Bool}(r1:M3 F H v x A)(c:M3 F H w y B)(h:LV.eqF x y=some b):flatV v=true/\flatV w=true/\eqV v w=b:=by
 unfold LV.eqF at h;cases a:x.flat with
 | none=>rw[a] at h;cases h
 | some d =>
   cases e2:y.flat with
   | none=>rw[a,e2] at h;cases h
   | some e =>
     rw[a,e2] at h;obtain⟨rfl,f1⟩:=r1.flat a;obtain⟨rfl,f2⟩:=c.flat e2;exact⟨f1,f2,Option.some.inj h⟩
theorem M3.d0{x:D}{A:List γ}(r:M3 F H v x A)(h:x.d0=true):∃ a,v=.ref a/\H a=some (.dK []):=by
 cases x with
 | dct z b =>
   cases b with
   | nil =>
     cases r with
     | dct e q _=>exact⟨_,rfl,by rw[e,List.map_eq_nil_iff.mp q]⟩
     | dctZ e _ q _=>exact⟨_,rfl,by rw[e,List.map_eq_nil_iff.mp q]⟩
   | cons=>cases h
 | _=>cases h
theorem M3.eqZ{x y:D}{A B:List γ}{b:Bool}(r1:M3 F H v x A)(d:M3 F H w y B)(h:LV.eqZ x y=some b):(flatV v=true/\flatV w=true/\eqV v w=b)∨(b=true/\∃ a c,v=.ref a/\w=.ref c/\H a=some (.dK [])/\H c=some (.dK [])):=by
 unfold LV.eqZ at h;split at h
 . rename_i hd
   obtain⟨e,f⟩:=zAi.mp hd;obtain⟨a,g,i⟩:=r1.d0 e;obtain⟨c,e2,q2⟩:=d.d0 f;cases h;exact .inr ⟨rfl,a,c,g,e2,i,q2⟩
 exact .inl (r1.eqF d h)
theorem qP5(n:Nat)(x y:D):(eqN (n+1) x y=LV.eqZ x y)∨(∃ z xs z' ys,x=.l z xs/\y=.l z' ys)∨∃ xs ys,x=.q xs/\y=.q ys:=by
 cases x with
 | l z xs=>cases y with
   | l z' ys=>exact .inr (.inl ⟨_,_,_,_,rfl,rfl⟩)
   | _=>exact .inl rfl
 | q xs=>cases y with
   | q ys=>exact .inr (.inr ⟨_,_,rfl,rfl⟩)
   | _=>exact .inl rfl
 | _=>exact .inl rfl
theorem qad1(x y:D):eqN 0 x y=LV.eqZ x y:=by cases x<;>cases y<;>rfl
theorem qP6(f:∀{v:V}{x y:D}{A B:List γ}{b:Bool},M3 F H v x A->M3 F H v y B->eqN n x y=some b->b=true):∀{vs:List V}{xs ys:List D}{A B:List γ}{b:Bool},Mr F H vs xs A->Mr F H vs ys B->Fh (eqN n) xs ys=some b->b=true:=by
 intro vs
 induction vs with
 | nil=>intro xs ys A B b c d h;cases c;cases d;cases h;rfl
 | cons v vs e =>
   intro xs ys A B b c d h;cases c with | cons g t1=>cases d with | cons i t2 =>
   obtain⟨a,j,h⟩:=zA1.mp h;obtain⟨l,k,h⟩:=zA1.mp h;cases h;rw[f g i j,e t1 t2 k];rfl
theorem qad2:∀{n:Nat}{v:V}{x y:D}{A B:List γ}{b:Bool},M3 F H v x A->M3 F H v y B->eqN n x y=some b->b=true:=by
 intro n
 induction n with
 | zero =>
   intro v x y A B b c d h;rw[qad1] at h;rcases c.eqZ d h with⟨f1,f2,rfl⟩ | ⟨rfl,_⟩
   . exact qad0 f1
   rfl
 | succ n k =>
   intro v x y A B b c d h;rcases qP5 n x y with e | ⟨z,l,q,m,rfl,rfl⟩ | ⟨l,m,rfl,rfl⟩
   . rw[e] at h
     rcases c.eqZ d h with⟨f1,f2,rfl⟩ | ⟨rfl,_⟩
     . exact qad0 f1
     rfl
   . obtain⟨a,o,_,rfl,g,i,_⟩:=c.lst_inv
     obtain⟨p,j,_,e,f,q2,_⟩:=d.lst_inv;cases e;rw[g] at f;cases f;exact qP6 k i q2 h
   obtain⟨a,o,rfl,g,i⟩:=c.tup_inv;obtain⟨p,j,e,f,q2⟩:=d.tup_inv;cases e;rw[g] at f;cases f;exact qP6 k i q2 h
theorem Mr.getV{ds:List D}{A:List γ}(r:Mr F H vs ds A)(h:vs[n]? = some w):∃ d B,ds[n]? = some d/\M3 F H w d B:=by
 have c:=r.len;have e:n < vs.length:=(zA6.mp h).1;obtain⟨f,B,a,b,_⟩:=r.get (n:=n) (d:=ds[n]'(by lia)) (by simp);rw[h] at a;cases a;exact⟨_,B,by simp,b⟩
theorem qP3{x y:D}{A B:List γ}{b:Bool}(r1:M3 F H v x A)(d:M3 F H w y B)(h:LV.eqZ x y=some b):EqD H n v w b:=by
 rcases r1.eqZ d h with⟨f1,f2,rfl⟩ | ⟨rfl,a,a',rfl,rfl,q1,q2⟩
 . exact .flat f1 f2
 by_cases c:a=a'
 . subst c;exact .same a
 exact .dcts c q1 q2
theorem qP4:∀{n:Nat}{v w:V}{x y:D}{A B:List γ}{b:Bool},M3 F H v x A->M3 F H w y B->eqN n x y=some b->EqD H n v w b:=by
 intro n
 induction n with
 | zero =>
   intro v w x y A B b c d h;rw[qad1] at h;exact qP3 c d h
 | succ n I =>
   intro v w x y A B b c d h;rcases qP5 n x y with e | ⟨z,J,L,K,rfl,rfl⟩ | ⟨J,K,rfl,rfl⟩
   . rw[e] at h
     exact qP3 c d h
   . obtain⟨a,m,_,rfl,k,g,_⟩:=c.lst_inv
     obtain⟨o,r,_,rfl,l,q2,_⟩:=d.lst_inv;by_cases f:a=o
     . subst f
       cases qad2 (n:=n+1) c d h;exact .same a
     obtain⟨e,s,rfl⟩:=qv2 h;rw[<- g.len,<- q2.len];by_cases j:m.length=r.length
     . rw[j,Nat.min_self,zAv,Bool.and_true,<- j]
       refine .lsts f k l j λ i p q t e2=>?_
       obtain⟨x,_,u,C⟩:=g.getV t;obtain⟨y,_,E,G⟩:=q2.getV e2;exact I C G (s i x y u E)
     have:(m.length == r.length)=false:=by simpa using j
     rw[this,Bool.and_false];exact .lens f k l j
   obtain⟨a,m,rfl,k,g⟩:=c.tup_inv;obtain⟨o,r,rfl,l,q2⟩:=d.tup_inv;by_cases f:a=o
   . subst f
     cases qad2 (n:=n+1) c d h;exact .same a
   obtain⟨e,s,rfl⟩:=qv2 h;rw[<- g.len,<- q2.len];refine .tups f k l λ i p q t e2=>?_
   obtain⟨x,_,u,C⟩:=g.getV t;obtain⟨y,_,E,G⟩:=q2.getV e2;exact I C G (s i x y u E)
end
def eqT:D->D->Option Bool
 | .l _ xs,.l _ ys=>Fh (eqN 20) xs ys
 | .q xs,.q ys=>Fh (eqN 20) xs ys
 | .l _ _,.q _=>some false
 | .q _,.l _ _=>some false
 | .l _ _,y=>y.flat.map λ _=>false
 | .q _,y=>y.flat.map λ _=>false
 | x,.l _ _=>x.flat.map λ _=>false
 | .dct _ _,.q _=>some false
 | x,.q _=>x.flat.map λ _=>false
 | x,y=>eqZ x y
theorem M3.flatV{F:γ->Prop}{H:Hp}{d:D}{B:List γ}{b:Bool}(r:M3 F H v d B)(h:(d.flat.map λ _=>false)=some b):L2.flatV v=true/\b=false:=by
 cases e:d.flat with
 | none=>rw[e] at h;cases h
 | some w=>rw[e] at h;cases h;exact⟨(r.flat e).2,rfl⟩
theorem M3.rc{F:γ->Prop}{H:Hp}{x y:D}{A B:List γ}{b:Bool}(r1:M3 F H v x A)(d:M3 F H w y B)(h:eqT x y=some b):RcD H v w b:=by
 have flat:LV.eqZ x y=some b->RcD H v w b:=λ h=>by
   rcases r1.eqZ d h with⟨f1,f2,rfl⟩ | ⟨rfl,a,k,rfl,rfl,l,q2⟩
   . exact .flat f1 f2
   exact .dcts l q2
 cases x with
 | l z G =>
   obtain⟨a,o,_,rfl,g,l,_⟩:=r1.lst_inv;cases y with
   | l J m =>
     obtain⟨k,j,_,rfl,c,q2,_⟩:=d.lst_inv;obtain⟨e,r,rfl⟩:=qv2 h;rw[<- l.len,<- q2.len];by_cases n:o.length=j.length
     . rw[n,Nat.min_self,zAv,Bool.and_true,<- n]
       refine .lsts g c n λ i p q s e2=>?_
       obtain⟨x,_,t,u⟩:=l.getV s;obtain⟨y,_,C,E⟩:=q2.getV e2;exact qP4 u E (r i x y t C)
     have:(o.length == j.length)=false:=by simpa using n
     rw[this,Bool.and_false];exact .lens g c n
   | q m=>obtain⟨k,j,rfl,c,q2⟩:=d.tup_inv;cases h;exact .lt g c
   | _=>obtain⟨f,rfl⟩:=d.flatV h;exact .lf g f
 | q G =>
   obtain⟨a,o,rfl,g,l⟩:=r1.tup_inv;cases y with
   | q m =>
     obtain⟨k,j,rfl,c,q2⟩:=d.tup_inv;obtain⟨e,r,rfl⟩:=qv2 h;rw[<- l.len,<- q2.len];refine .tups g c λ i p q s e2=>?_
     obtain⟨x,_,t,u⟩:=l.getV s;obtain⟨y,_,C,E⟩:=q2.getV e2;exact qP4 u E (r i x y t C)
   | l z m=>obtain⟨k,j,_,rfl,c,q2,_⟩:=d.lst_inv;cases h;exact .tl g c
   | _=>obtain⟨f,rfl⟩:=d.flatV h;exact .tf g f
 | dct z I =>
   cases y with
   | l z m=>cases h
   | q m =>
     obtain⟨k,j,rfl,c,q2⟩:=d.tup_inv;cases h;cases r1 with
     | dct e _ _=>exact .dt e c
     | dctZ e _ _ _=>exact .dt e c
   | _=>exact flat h
 | _ =>
   cases y with
   | l z m=>obtain⟨k,j,_,rfl,c,q2,_⟩:=d.lst_inv;obtain⟨f,rfl⟩:=r1.flatV h;exact .fl c f
   | q m=>obtain⟨k,j,rfl,c,q2⟩:=d.tup_inv;obtain⟨f,rfl⟩:=r1.flatV h;exact .ft c f
   | _=>exact flat h
def gEq(x y:D):Option D:=(eqT x y).map .bl
def gNe(x y:D):Option D:=(eqT x y).map λ b=>.bl (!b)
theorem Bf:A4 true rEqD gEq:=by
 intro F H v w x y B d Q r h q;cases r with | @cons _ _ A _ _ _ a t=>cases t with | @cons _ _ A2 _ _ _ c _ =>
 obtain⟨b,e,rfl⟩:=zAk.mp h;exact⟨b,a.rc c e,q _ H [] (.bl _) (λ _ _ z=>z) New.nil⟩
theorem Ia:A4 true rNeD gNe:=by
 intro F H v w x y B d Q r h q;cases r with | @cons _ _ A _ _ _ a t=>cases t with | @cons _ _ A2 _ _ _ c _ =>
 obtain⟨b,e,rfl⟩:=zAk.mp h;exact⟨b,a.rc c e,q _ H [] (.bl _) (λ _ _ z=>z) New.nil⟩
def flats:List D->Option (List V)
 | []=>some []
 | d::r=>d.flat.bind λ v=>(flats r).bind λ vs=>some (v::vs)
theorem Mr.flats{F:γ->Prop}{H:Hp}:∀{vs a:List V}{ds:List D}{A:List γ},Mr F H vs ds A->LV.flats ds=some a->vs=a/\vs.all L2.flatV=true
 | _,_,_,_,.nil,h=>by cases h;exact⟨rfl,rfl⟩
 | _,_,_,_,.cons r t,h=>by
   obtain⟨v,b,h⟩:=zA1.mp h;obtain⟨vs,c,h⟩:=zA1.mp h;cases h;obtain⟨rfl,f⟩:=r.flat b;obtain⟨rfl,g⟩:=t.flats c;exact⟨rfl,by rw[List.all_cons,f,g];rfl⟩
def Ky(neg:Bool)(x y:D):Option D:=x.flat.bind λ v=>y.elems.bind λ ys=>(flats ys).bind λ a=>some (.bl (if neg then !inV v a else inV v a))
theorem Jf{K:W.Frag}{neg:Bool}:A4 true (rIn K neg) (Ky neg):=by
 intro F H v w x y B d Q r h q;cases r with | @cons _ _ A _ _ _ b t=>cases t with | @cons _ _ A2 _ _ _ c _ =>
 obtain⟨n,e,h⟩:=zA1.mp h;obtain⟨o,i,h⟩:=zA1.mp h;obtain⟨p,j,h⟩:=zA1.mp h;cases h;obtain⟨rfl,f⟩:=b.flat e;obtain⟨a,k,A3,rfl,l,m,_⟩:=c.elems (K:=K) i;obtain⟨rfl,g⟩:=m.flats j;exact⟨a,k,rfl,l,f,g,q _ H [] (.bl _) (λ _ _ z=>z) New.nil⟩
def gIx(x y:D):Option D:=match y with
 | .int i=>x.elems.bind λ ys=>atI ys i
 | _=>none
theorem Am{K:W.Frag}:A4 false (rIx K) gIx:=by
 intro F H v w x y B d Q r h q;cases r with | @cons _ _ A _ _ _ l t=>cases t with | @cons _ _ A2 _ _ _ m _ =>
 cases y with
 | int i =>
   obtain⟨u,n,h⟩:=zA1.mp h;cases m;obtain⟨a,j,A3,rfl,c,o,p⟩:=l.elems (K:=K) n;obtain⟨f,B',k,g,s⟩:=o.atI h;have e:=q f H B' g (λ _ _ z=>z) (by
     rw[if_neg (by decide)];exact λ b=>.inl (by rw[zA0];have:=s b;have:=p b;lia))
   rcases c with c | c
   . exact .inl ⟨a,j,i,f,rfl,rfl,c,k,e⟩
   exact .inr (.inl ⟨a,j,i,f,rfl,rfl,c,k,e⟩)
 | _=>cases h
section
variable{F:γ->Prop}{H:Hp}
theorem Mr.one_inv{x:D}{B:List γ}(r:Mr F H vs [x] B):∃ v,vs=[v]/\M3 F H v x B:=by
 cases r with | cons h t=>cases t;exact⟨_,rfl,by rw[zAf];exact h⟩
theorem Mr.two_inv{x y:D}{B:List γ}(r:Mr F H vs [x,y] B):∃ v w A C,vs=[v,w]/\M3 F H v x A/\M3 F H w y C/\∀ b,B.count b=A.count b+C.count b:=by
 cases r with | cons h t=>cases t with | cons a t=>cases t;exact⟨_,_,_,_,rfl,h,a,λ b=>by simp[zA0]⟩
end
noncomputable def fx1(g:D->Option D):Ds->Option D
 | [x]=>g x
 | _=>none
noncomputable def fx2(g:D->D->Option D):Ds->Option D
 | [x,y]=>g x y
 | _=>none
def CS1(nw:Bool)(r:List V->Hp->VK->Prop)(g:D->Option D):Prop:=∀ F H v x B d (Q:VK),M3 F H v x B->g x=some d ->
 (∀ v H' B',M3 F H' v d B'->Same H H'->(if nw=true then New H B' else Sub H B B')->Q v H')->r [v] H Q
theorem CS1.ops{nw:Bool}{r:List V->Hp->VK->Prop}{g:D->Option D}(h:CS1 nw r g):OpS nw r (fx1 g):=by
 intro F H c a B d Q r e q
 match a,e with
 | [x],e =>
   obtain⟨v,rfl,b⟩:=r.one_inv;exact h F H v x B d Q b e q
def Im(x:D):Option D:=match x with
 | .str z=>gd (z.length<=big) (.int z.length)
 | .dct _ kvs=>some (.int kvs.length)
 | x=>x.elems.map λ ys=>.int ys.length
def Kz(K:W.Frag):List V->Hp->VK->Prop:=λ xs H Q=>(∃ p ys,xs=[.ref p]/\(SqL K H p ys∨SqT K H p ys)/\Q (.int ys.length) H)∨(∃ z,xs=[.str z]/\z.length<=Lr/\Q (.int z.length) H)∨(∃ a kvs,xs=[V.ref a]/\H a=some (.dK kvs)/\Q (.int kvs.length) H)
theorem qr9{X:Cx}:CallR X (.builtin "len") (Kz X.K):=qL9.or (qL8.or qam7)
theorem qr8{K:W.Frag}:CS1 true (Kz K) Im:=by
 intro F H v x B d Q r h q;have seq:∀ b,x.elems=some b->d=.int b.length->Kz K [v] H Q:=λ b e j=>by
   subst j;obtain⟨a,k,A,rfl,f,i,_⟩:=r.elems (K:=K) e;refine .inl ⟨a,k,rfl,f,?_⟩;rw[i.len];exact q _ H [] (.int _) (λ _ _ z=>z) New.nil
 cases x with
 | str z=>obtain⟨l,rfl⟩:=qn4 h;cases r;exact .inr (.inl ⟨z,rfl,zAn l qg3,q _ H [] (.int _) (λ _ _ z=>z) New.nil⟩)
 | dct z g =>
   cases h;obtain⟨a,c,A,rfl,f,e,i,_⟩:=r.dct_inv;refine .inr (.inr ⟨a,c,rfl,f,?_⟩)
   have:c.length=g.length:=by have:=congrArg List.length e;simpa using this
   rw[this];exact q _ H [] (.int _) (λ _ _ z=>z) New.nil
 | l z b=>cases h;exact seq b rfl rfl
 | q b=>cases h;exact seq b rfl rfl
 | _=>cases h
noncomputable def gInt:D->Option D
 | .int i=>some (.int i)
 | .bl b=>some (.int (if b then 1 else 0))
 | _=>none
theorem qaU1:CS1 true (λ xs H Q=>(∃ i,xs=[.int i]/\Q (.int i) H)∨∃ k,xs=[.bl k]/\Q (.int (if k then 1 else 0)) H) gInt:=by
 intro F H v x B d Q r h q;cases x with
 | int i=>cases h;cases r;exact .inl ⟨i,rfl,q _ H [] (.int _) (λ _ _ z=>z) New.nil⟩
 | bl i=>cases h;cases r;exact .inr ⟨i,rfl,q _ H [] (.int _) (λ _ _ z=>z) New.nil⟩
 | _=>cases h
def K4(x:D):Option D:=x.elems.bind λ ys=>gd (D.imms ys=true) (.l false ys)
theorem qP8{K:W.Frag}:CS1 true (λ xs H Q=>∃ p ys,xs=[.ref p]/\(SqL K H p ys∨SqT K H p ys)/\∀ l,H l=none->Q (.ref l) (upd H l (.l ys))) K4:=by
 intro F H v x B d Q r h q;obtain⟨ys,e,h⟩:=zA1.mp h;obtain⟨c,rfl⟩:=qn4 h;obtain⟨a,f,A,rfl,g,i,_⟩:=r.elems (K:=K) e;exact⟨a,f,rfl,g,λ p b=>q _ _ [p] (qq1 b (i.imms0 c)) (Same.new b) (qf3 b)⟩
noncomputable def D.intO:D->Option Int
 | .int k=>some k
 | _=>none
def pairK:D->Option (Key×D)
 | .q [a,x]=>a.intO.bind λ k=>if x.imm=true then some (.inl k,x) else none
 | _=>none
def qS2:List D->Option (List (Key×D))
 | []=>some []
 | d::r=>(pairK d).bind λ p=>(qS2 r).bind λ ps=>some (p::ps)
noncomputable def Gv(kvs:List (Key×D))(k:Key)(v:D):List (Key×D) :=
 if (kvs.any λ a=>decide (a.1=k))=true then kvs.map (λ a=>if a.1=k then (a.1,v) else a) else kvs++[(k,v)]
def qq2(kvs more:List (Key×D)):List (Key×D):=more.foldl (λ acc a=>Gv acc a.1 a.2) kvs
abbrev KP(F:γ->Prop)(H:Hp)(kvs:List (Key×V))(a:List (Key×D)):Prop:=Paired (λ(p:Key×V)(q:Key×D)=>p.1=q.1/\M3 F H p.2 q.2 []) kvs a
section
variable{F:γ->Prop}{H:Hp}
theorem KP.maps{b:List (Key×D)}(h:KP F H kvs b):kvs.map (·.1)=b.map (·.1)/\Mr F H (kvs.map (·.2)) (b.map (·.2)) []:=by
 induction h with
 | nil=>exact⟨rfl,.nil⟩
 | cons a _ c=>exact⟨by rw[zAx,zAx,a.1,c.1],.cons (A:=[]) (B:=[]) a.2 c.2⟩
theorem KP.any{b:List (Key×D)}(h:KP F H kvs b)(k:Key):(kvs.any λ c=>decide (c.1=k))=b.any λ c=>decide (c.1=k):=by
 induction h with
 | nil=>rfl
 | cons a _ d=>rw[zCc,zCc,a.1,d]
theorem KP.append{kvs':List (Key×V)}{b kds':List (Key×D)}(h:KP F H kvs b)(h':KP F H kvs' kds'):KP F H (kvs++kvs') (b++kds'):=by
 induction h with
 | nil=>exact h'
 | cons a _ c=>exact .cons a c
theorem KP.mapk{c:List (Key×D)}(h:KP F H kvs c){k:Key}{d:D}(r:M3 F H v d []):KP F H (kvs.map λ b=>if b.1=k then (b.1,v) else b) (c.map λ b=>if b.1=k then (b.1,d) else b):=by
 induction h with
 | nil=>exact .nil
 | @cons p q _ _ a _ ih =>
   refine .cons ?_ ih;show (if p.1=k then (p.1,v) else p).1=(if q.1=k then (q.1,d) else q).1/\M3 F H (if p.1=k then (p.1,v) else p).2 (if q.1=k then (q.1,d) else q).2 [];rw[<- a.1];split
   . exact⟨rfl,r⟩
   exact a
theorem KP.put{a:List (Key×D)}(h:KP F H kvs a){k:Key}{d:D}(r:M3 F H v d []):KP F H (putK kvs k v) (Gv a k d):=by
 unfold putK Gv;rw[h.any k];split
 . exact h.mapk r
 exact h.append (.cons ⟨rfl,r⟩ .nil)
theorem KP.merge{more:List (Key×V)}{mored:List (Key×D)}(h:KP F H more mored):∀{kvs:List (Key×V)}{b:List (Key×D)},KP F H kvs b->KP F H (qx3 kvs more) (qq2 b mored):=by
 induction h with
 | nil=>exact λ h=>h
 | @cons p q _ _ a _ ih =>
   intro kvs b h
   have:=ih (h.put (k:=p.1) a.2)
   rw[a.1] at this;show KP F H (qx3 (putK kvs p.1 p.2) _) (qq2 (Gv b q.1 q.2) _);rw[a.1];exact this
theorem qav6{ds:Ds}{A:List γ}{ps:List (Key×D)}(r:Mr F H vs ds A)(h:qS2 ds=some ps):∃ kvs,qar7 H vs kvs/\KP F H kvs ps:=by
 induction ds generalizing vs A ps with
 | nil=>cases r;cases h;exact⟨[],.nil,.nil⟩
 | cons d ds l =>
   cases r with
   | cons m t =>
     obtain⟨p,b,h⟩:=zA1.mp h;obtain⟨ps,n,h⟩:=zA1.mp h;cases h;obtain⟨kvs,o,q2⟩:=l t n;unfold pairK at b;split at b
     . rename_i k x
       obtain⟨i,g,b⟩:=zA1.mp b;split at b
       . rename_i hm
         cases b;obtain⟨a,u,rfl,q,e⟩:=m.tup_inv;obtain⟨v,s,A1,A2,rfl,f,c,_⟩:=e.two_inv;cases k with
         | int j =>
           cases g;cases f
           have:=c.imm hm
           subst this;exact⟨(.inl i,s)::kvs,.cons ⟨a,rfl,q⟩ o,.cons ⟨rfl,c⟩ q2⟩
         | _=>cases g
       cases b
     cases b
theorem qaH6{p:γ}{a:List (Key×D)}(b:H p=none)(r:KP F H kvs a):M3 F (upd H p (.dK kvs)) (.ref p) (.dct false a) [p]:=.dct qb3 r.maps.1 (r.maps.2.same (Same.new b))
end
def Jg(x:D):Option D:=match x with
 | .l _ ys=>(qS2 ys).map λ ps=>.dct false (qq2 [] ps)
 | _=>none
theorem qar0:CS1 true qaD3 Jg:=by
 intro F H v x B d Q r h q;cases x with
 | l z k =>
   obtain⟨l,e,rfl⟩:=zAk.mp h;obtain⟨a,f,A,rfl,g,i,_⟩:=r.lst_inv;obtain⟨b,j,q2⟩:=qav6 i e;exact⟨a,f,b,rfl,g,j,λ p c=>q _ _ [p] (qaH6 c (q2.merge .nil)) (Same.new c) (qf3 c)⟩
 | _=>cases h
noncomputable def D.kind:D->Option String
 | .non=>some "NoneType" | .bl _=>some "bool" | .int _=>some "int" | .str _=>some "str" | .l _ _=>some "list" | .q _=>some "tuple" | .dct _ _=>some "dict"
 | _=>none
theorem M3.kind{F:γ->Prop}{H:Hp}{d:D}{B:List γ}{t:String}(r:M3 F H v d B)(h:d.kind=some t):B9 H v=some t:=by
 cases r with
 | q e _=>cases h;exact qax7 e
 | l e _=>cases h;exact qaa0 e
 | lstZ e _ _=>cases h;exact qaa0 e
 | dct e _ _=>cases h;exact qap8 e
 | dctZ e _ _ _=>cases h;exact qap8 e
 | _=>cases h<;>rfl
noncomputable def Jz(n:String):Bool:=n == "bool" || n == "int" || n == "str" || n == "list" || n == "tuple" || n == "dict"
def gIsi(x y:D):Option D:=match y with
 | .ty n=>if Jz n=true then x.kind.map λ t=>.bl (Ht t n) else none
 | _=>none
def CS2(nw:Bool)(r:List V->Hp->VK->Prop)(g:D->D->Option D):Prop:=∀ F H v w x y A B d (Q:VK),M3 F H v x A->M3 F H w y B->g x y=some d ->
 (∀ v H' B',M3 F H' v d B'->Same H H'->(if nw=true then New H B' else Sub H (A++B) B')->Q v H')->r [v,w] H Q
theorem CS2.ops{nw:Bool}{r:List V->Hp->VK->Prop}{g:D->D->Option D}(h:CS2 nw r g):OpS nw r (fx2 g):=by
 intro F H l c B d Q r e q
 match c,e with
 | [x,y],e =>
   obtain⟨v,w,A,C,rfl,f,i,j⟩:=r.two_inv;refine h F H v w x y A C d Q f i e λ u H' B' k s a=>q u H' B' k s ?_
   cases nw with
   | true=>exact a
   | false =>
     rw[if_neg (by decide)] at a ⊢;exact λ b=>(a b).imp (λ z=>by rw[zA0] at z;have:=j b;lia) id
theorem qv4:CS2 true rIsi gIsi:=by
 intro F H v w x y A B d Q b c e q;cases y with
 | ty n =>
   cases c;have e:(if Jz n=true then x.kind.map λ t=>D.bl (Ht t n) else none)=some d:=e;by_cases a:Jz n=true
   . rw[if_pos a] at e
     obtain⟨t,f,rfl⟩:=zAk.mp e;refine⟨v,n,t,rfl,b.kind f,?_,q _ H [] (.bl _) (λ _ _ z=>z) New.nil⟩;simp only[Jz,Bool.or_eq_true,zBp] at a;simp only[zAm,zBs,or_false];rcases a with ((((h | h) | h) | h) | h) | h
     . exact .inl h
     . exact .inr (.inl h)
     . exact .inr (.inr (.inl h))
     . exact .inr (.inr (.inr (.inl h)))
     . exact .inr (.inr (.inr (.inr (.inl h))))
     exact .inr (.inr (.inr (.inr (.inr h))))
   rw[if_neg a] at e;cases e
 | _=>cases e
def D.isC(C:γ)(x:D):Option D:=match x with
 | .ins _ C' _=>if C'=C then some (.bl true) else none
 | x=>x.kind.map λ _=>.bl false
def gIsO(C:γ)(x y:D):Option D:=match y with
 | .adr a=>if a=C then x.isC C else none
 | _=>none
theorem qaU0{C:γ}:CS2 true (rIsO C) (gIsO C):=by
 intro F H v w x y A B d Q f g e q;cases y with
 | adr a =>
   cases g;have e:(if a=C then x.isC C else none)=some d:=e;by_cases b:a=C
   . rw[if_pos b] at e
     subst b;have kind:(x.kind.map λ _=>D.bl false)=some d->rIsO a [v,.ref a] H Q:=λ e=>by
       obtain⟨t,i,rfl⟩:=zAk.mp e;exact⟨_,rfl,.inr ⟨t,f.kind i,q _ H [] (.bl _) (λ _ _ z=>z) New.nil⟩⟩
     cases x with
     | ins z C' k =>
       have e2:(if C'=a then some (D.bl true) else none)=some d:=e;by_cases b:C'=a
       . rw[if_pos b] at e2
         cases e2;subst b;obtain⟨p,j,c,_,rfl,h,_,_,_⟩:=f.ins_inv;exact⟨_,rfl,.inl ⟨p,j,c,rfl,h,q _ H [] (.bl _) (λ _ _ z=>z) New.nil⟩⟩
       rw[if_neg b] at e2;cases e2
     | _=>exact kind e
   rw[if_neg b] at e;cases e
 | _=>cases e
noncomputable def gMax2:D->D->Option D
 | .int i,.int j=>some (.int (if j > i then j else i))
 | _,_=>none
noncomputable def gMin2:D->D->Option D
 | .int i,.int j=>some (.int (if j < i then j else i))
 | _,_=>none
theorem qaq9:CS2 true (λ xs H Q=>∃ i j,xs=[.int i,.int j]/\Q (.int (if j > i then j else i)) H) gMax2:=by
 intro F H v w x y A B d Q a b e q;cases x with
 | int i=>cases y with
   | int j=>cases e;cases a;cases b;exact⟨i,j,rfl,q _ H [] (.int _) (λ _ _ z=>z) New.nil⟩
   | _=>cases e
 | _=>cases e
theorem qad4:CS2 true (λ xs H Q=>∃ i j,xs=[.int i,.int j]/\Q (.int (if j < i then j else i)) H) gMin2:=by
 intro F H v w x y A B d Q a b e q;cases x with
 | int i=>cases y with
   | int j=>cases e;cases a;cases b;exact⟨i,j,rfl,q _ H [] (.int _) (λ _ _ z=>z) New.nil⟩
   | _=>cases e
 | _=>cases e
noncomputable def bools:List D->Option (List Bool)
 | []=>some []
 | .bl b::r=>(bools r).map λ a=>b::a
 | _=>none
theorem Mr.bools{F:γ->Prop}{H:Hp}:∀{vs:List V}{ds:List D}{A:List γ}{a:List Bool},Mr F H vs ds A->LV.bools ds=some a->vs=a.map V.bl:=by
 intro vs ds
 induction ds generalizing vs with
 | nil=>intro A a r h;cases r;cases h;rfl
 | cons d ds c =>
   intro A a r h;cases r with
   | cons e t =>
     cases d with
     | bl b =>
       obtain⟨f,g,rfl⟩:=zAk.mp h;cases e;rw[c t g];rfl
     | _=>cases h
def gAll(x:D):Option D:=match x with
 | .l _ ys=>(bools ys).map λ a=>.bl (a.all id)
 | _=>none
theorem qaL5{K:W.Frag}:CS1 true (λ xs H Q=>∃(a:γ)(b:List Bool),xs=[.ref a]/\SqL K H a (b.map V.bl)/\Q (.bl (b.all id)) H) gAll:=by
 intro F H v x B d Q r h q;cases x with
 | l z g =>
   obtain⟨b,c,rfl⟩:=zAk.mp h;obtain⟨a,i,A,rfl,e,f,_⟩:=r.lst_inv;cases f.bools c;exact⟨a,b,rfl,.inl (.inl e),q _ H [] (.bl _) (λ _ _ z=>z) New.nil⟩
 | _=>cases h
noncomputable def intsD:List D->Option (List Int)
 | []=>some []
 | .int i::r=>(intsD r).map λ is=>i::is
 | _=>none
theorem Mr.intsD{F:γ->Prop}{H:Hp}:∀{vs:List V}{ds:List D}{A:List γ}{a:List Int},Mr F H vs ds A->LV.intsD ds=some a->vs=a.map V.int:=by
 intro vs ds
 induction ds generalizing vs with
 | nil=>intro A a r h;cases r;cases h;rfl
 | cons d ds c =>
   intro A a r h;cases r with
   | cons e t =>
     cases d with
     | int b =>
       obtain⟨f,g,rfl⟩:=zAk.mp h;cases e;rw[c t g];rfl
     | _=>cases h
def Gd(xs:List D)(lo hi:Option Int):List D:=(xs.drop (HT.sIx xs.length 0 lo)).take (HT.sIx xs.length xs.length hi - HT.sIx xs.length 0 lo)
def gSl(x:D)(lo hi:Option Int):Option D:=match x with
 | .l _ ys=>gd (D.imms (Gd ys lo hi)=true) (.l false (Gd ys lo hi))
 | .scr ns=>some (.l false ((ns.drop (HT.sIx ns.length 0 lo)).take (HT.sIx ns.length ns.length hi - HT.sIx ns.length 0 lo) |>.map .int))
 | .q ys=>gd (D.imms (Gd ys lo hi)=true/\(Gd ys lo hi).length < ys.length) (.q (Gd ys lo hi))
 | _=>none
theorem qA6{F:γ->Prop}{H:Hp}:∀ ns:List Int,Mr F H (ns.map V.int) (ns.map D.int) []
 | []=>.nil
 | n::r=>.cons (A:=[]) (B:=[]) (.int n) (qA6 r)
theorem os_sl{K:W.Frag}{F:γ->Prop}{H:Hp}{x d:D}{lo hi:Option Int}{B:List γ}(r:M3 F H v x B)(h:gSl x lo hi=some d)(f:∀ ys,x≠.q ys)(q:∀ v H' B',M3 F H' v d B'->Same H H'->New H B'->Q v H'):rSlL K v lo hi H Q:=by
 cases x with
 | l z ys =>
   obtain⟨g,rfl⟩:=qn4 h;obtain⟨a,i,A,rfl,j,c,_⟩:=r.lst_inv;refine⟨a,i,rfl,.inl (.inl j),λ p b=>q _ _ [p] (qq1 b ?_) (Same.new b) (qf3 b)⟩;obtain⟨B',k,l⟩:=c.sub (HT.sIx ys.length 0 lo) (HT.sIx ys.length ys.length hi - HT.sIx ys.length 0 lo);unfold Hs;rw[c.len];exact k.imms0 g
 | scr m =>
   cases h;cases r with
   | scr e =>
     refine⟨_,_,rfl,.inl (.inr ⟨_,e⟩),λ p b=>q _ _ [p] (qq1 b ?_) (Same.new b) (qf3 b)⟩;unfold Hs;rw[<- List.map_drop,<- List.map_take,zA8];exact qA6 _
 | q ys=>exact absurd rfl (f ys)
 | _=>cases h
def D.fld(C:γ)(f:Str):D->Option D
 | .ins _ C' fs=>if C'=C then fs.lookup f else none
 | _=>none
theorem qZ3{F:γ->Prop}{H:Hp}:∀{c:List (Str×V)}{a:List (Str×D)}{A:List γ}{f:Str}{d:D},c.map (·.1)=a.map (·.1)->Mr F H (c.map (·.2)) (a.map (·.2)) A->a.lookup f=some d->∃ v B,c.lookup f=some v/\M3 F H v d B/\∀ b,B.count b<=A.count b:=by
 intro c
 induction c with
 | nil=>intro a A f d e r h;cases a with
   | nil=>cases h
   | cons _ _=>simp at e
 | cons p c i =>
   intro a A f d e r h;cases a with
   | nil=>simp at e
   | cons q a =>
     obtain⟨k,v⟩:=p;obtain⟨j,s⟩:=q;have l:k=j:=by simp at e;exact e.1
     have e2:c.map (·.1)=a.map (·.1):=by simp at e;simpa using e.2
     subst l;cases r with
     | @cons _ _ A1 _ _ A2 r1 t =>
       rw[zAu] at h ⊢;cases g:f == k with
       | true=>rw[g] at h;cases h;exact⟨v,A1,rfl,r1,λ b=>by rw[zA0];lia⟩
       | false =>
         rw[g] at h;obtain⟨w,B,m,n,o⟩:=i e2 t h;exact⟨w,B,m,n,λ b=>by rw[zA0];have:=o b;lia⟩
theorem qaP6{K:W.Frag}{C:γ}{f:Str}(c:Cls K C)(n:qc8 K C f):OpS1 false (λ x H Q=>∃ a C dx fs v,x=.ref a/\H a=some (.ins C dx fs)/\Cls K C/\qc8 K C f/\fs.lookup f=some v/\Q v H) (D.fld C f):=by
 intro F H v x B d Q r h q;cases x with
 | ins z C' fs =>
   have i:(if C'=C then fs.lookup f else none)=some d:=h;by_cases j:C'=C
   . rw[if_pos j] at i
     subst j;obtain⟨a,dx,k,A,rfl,l,e,m,g⟩:=r.ins_inv;obtain⟨w,B',o,p,s⟩:=qZ3 e m i;refine⟨a,C',dx,k,w,rfl,l,c,n,o,q w H B' p (λ _ _ z=>z) ?_⟩;rw[if_neg (by decide)];exact λ b=>.inl (by have:=s b;have:=g b;lia)
   rw[if_neg j] at i;cases i
 | _=>cases h
noncomputable def D.key:D->Option Key
 | .int i=>some (.inl i)
 | .str x=>some (.inr x)
 | _=>none
noncomputable def Fi(a:List (Key×D))(k:Key):Option D:=(a.find? λ b=>decide (b.1=k)).map (·.2)
theorem M3.key{F:γ->Prop}{H:Hp}{x:D}{B:List γ}{k:Key}(r:M3 F H v x B)(h:x.key=some k):v=kV k:=by
 cases r<;>cases h<;>rfl
theorem qaB0{F:γ->Prop}{H:Hp}:∀{kvs:List (Key×V)}{a:List (Key×D)}{A:List γ}(k:Key),kvs.map (·.1)=a.map (·.1)->Mr F H (kvs.map (·.2)) (a.map (·.2)) A ->
   (Fi a k=none/\Gm kvs k=none)∨∃ v d B,Fi a k=some d/\Gm kvs k=some v/\M3 F H v d B/\∀ b,B.count b<=A.count b:=by
 intro kvs
 induction kvs with
 | nil=>intro a A k e r;cases a with
   | nil=>exact .inl ⟨rfl,rfl⟩
   | cons _ _=>simp at e
 | cons p kvs g =>
   intro a A k e r;cases a with
   | nil=>simp at e
   | cons q a =>
     obtain⟨c,v⟩:=p;obtain⟨i,d⟩:=q;have j:c=i:=by simp at e;exact e.1
     have e2:kvs.map (·.1)=a.map (·.1):=by simp at e;simpa using e.2
     subst j;cases r with
     | @cons _ _ A1 _ _ A2 r1 t =>
       by_cases f:c=k
       . exact .inr ⟨v,d,A1,by simp[Fi,f],qH2 f,r1,λ b=>by rw[zA0];lia⟩
       have l:Fi ((c,d)::a) k=Fi a k:=by simp[Fi,zBv,f]
       rw[l,qH3 (p:=(c,v)) f];rcases g k e2 t with h | ⟨w,m,B,n,o,s,u⟩
       . exact .inl h
       exact .inr ⟨w,m,B,n,o,s,λ b=>by rw[zA0];have:=u b;lia⟩
section
variable{c:Vc}{X:Cx}{a b e:Expr}{oa ob own nw:Bool}{fa fb f:FV}{r:R2}{g:D->D->Option D}{ta tb t:VT}{pos:Pos}
theorem vnm(i:Nat){x:Str}(b:X.N[i]? = some x:=by rfl)(d:Vis X.env.scope x:=by first | exact Or.inl rfl | exact Or.inr (Or.inl rfl) | exact Or.inr (Or.inr rfl))(e:N' x:=by decide)(a:(x == ("__classdict__" : Str))=false:=by decide) :
   VV c X (.Name x pos) false (rdN i):=qaA9 (qp1 b d e a) (qm9 b)
noncomputable def kC(d:D):FV:=λ _=>some d
theorem Af{i:Int}:VV c X (.Constant (.int i) j pos) true (kC (.int i)):=Hw qJ5 λ _ _=>.int _
theorem vbl{i:Bool}:VV c X (.Constant (.bool i) j pos) true (kC (.bl i)):=Hw pe_bl λ _ _=>.bl _
theorem A7:VV c X (.Constant .none j pos) true (kC .non):=Hw qaP3 λ _ _=>.non
theorem Bk{i:Str}:VV c X (.Constant (.str i) j pos) true (kC (.str i)):=Hw qaP0 λ _ _=>.str _
theorem vgi{x:Str}{n:Int}{k:Tok}(hm:X.mg x=some (.int n k))(a:Gl X x:=by rfl)(b:N' x:=by decide):VV c X (.Name x pos) true (kC (.int n)):=Hw (qaF6 hm a b) λ _ _=>.int _
theorem vcls{x:Str}(C:γ)(hm:X.mg x=some (.ref C))(a:Gl X x:=by rfl)(b:N' x:=by decide):VV c X (.Name x pos) true (kC (.adr C)):=Hw (qaP1 C hm a b) λ _ _=>.adr _
theorem vty{x:Str}(n:String)(hm:X.mg x=none)(a:Gl X x:=by rfl)(b:Lw x=some (.type n):=by rfl)(d:x ≠ "__name__" := by decide)(e:N' x:=by decide):VV c X (.Name x pos) true (kC (.ty n)):=Hw (qaG0 n hm a b d e) λ _ _=>.ty _
theorem vpow{i j:Int}(k:Int){m:Nat}{p q:Pos}(a:i ^ j.toNat=k:=by decide)(b:0<=j:=by decide)(h1:j<=1000000:=by decide)(h2:i.natAbs < 2 ^ 64:=by decide):VV c X (.BinOp (.Constant (.int i) m p) .Pow (.Constant (.int j) n q) pos) true (kC (.int k)):=Hw (qaF2 k a b h1 h2) λ _ _=>.int _
def P2(X:Cx)(e a b:Expr)(r:R2):Prop:=∀ ta tb,PE X a ta->PE X b tb->PE X e (tOp r ta tb)
def T2(X:Cx)(e a b:Expr)(r:R2):Prop:=∀ ta tb,PE X a ta->PE X b tb->PT X e (Kg (tOp r ta tb))
theorem Aj{op:Operator}(c:OpR X (Mf op) r):P2 X (.BinOp a op b pos) a b r:=λ _ _ d e=>pe_op c d e
theorem Ax(c:OpR X (Ls op) r)(hm:behindInMarks op b=false):P2 X (.Compare a [op] [b] pos) a b r:=λ _ _ d e=>qaF9 c d e hm
theorem Aq(c:OpR X (Ls op) r)(hm:behindInMarks op b=false):T2 X (.Compare a [op] [b] pos) a b r:=λ _ _ d e=>qaD8 c d e hm
theorem Au(c:IxR X r)(d:qae9 b:=by exact λ _ _=>rfl):P2 X (.Subscript a b pos) a b r:=λ _ _ e f=>pe_ix c e f d
theorem v2(p:P2 X e a b r)(h:A4 nw r g)(d:VV c X a oa fa)(f:VV c X b ob fb):VV c X e (nw||(oa&&ob)) (f2 g fa fb):=⟨PE.mono (p _ _ d.h f.h) (op_vv h)⟩
theorem e2(p:P2 X e a b r)(h:A4 true r g)(d:VE c X a ta)(f:VE c X b tb):VE c X e (t2 g ta tb):=⟨PE.mono (p _ _ d.h f.h) (op_ee d f h),qan3 d f⟩
theorem e2v(p:P2 X e a b r)(h:A4 true r g)(d:VE c X a ta)(f:VV c X b ob fb):VE c X e (t2v g ta fb):=⟨PE.mono (p _ _ d.h f.h) (op_ev d h),qas7 d⟩
theorem e2P(p:P2 X e a b r)(h:A4 false r g)(d:VE c X a ta)(f:VE c X b tb):VE c X e (t2 g ta tb):=⟨PE.mono (p _ _ d.h f.h) (qaQ5 d f h),qan3 d f⟩
theorem e2vP(p:P2 X e a b r)(h:A4 false r g)(d:VE c X a ta)(f:VV c X b ob fb):VE c X e (Kv g ta fb):=⟨PE.mono (p _ _ d.h f.h) (qaQ4 d h),qaf9 d⟩
theorem e2n(i:Nat){x:Str}{p0:Pos}(p:P2 X e (.Name x p0) b r)(h:A4 true r g)(a:VE c X b tb)(f:X.N[i]? = some x:=by rfl)(j:Vis X.env.scope x:=by first | exact Or.inl rfl | exact Or.inr (Or.inl rfl) | exact Or.inr (Or.inr rfl))(k:N' x:=by decide)(d:(x == ("__classdict__" : Str))=false:=by decide) :
   VE c X e (t2n g i tb):=⟨λ Fb s σ H Q I q=>p _ _ (qp1 f j k d) a.h Fb s σ H Q I (op_ne a h (qm9 f Fb σ H s I) q),qas8 a⟩
noncomputable def D.asB:D->Option Bool
 | .bl b=>some b
 | _=>none
theorem M3.asB{F:γ->Prop}{H:Hp}{d:D}{B:List γ}{k:Bool}(r:M3 F H v d B)(h:d.asB=some k):v=.bl k:=by
 cases r<;>cases h<;>rfl
def ttV(f:FV):VTT:=λ ds Q _=>orF ((f ds).bind D.asB) λ b=>Q b ds
def ttE(t:VT):VTT:=λ ds Q xe=>t ds (λ d a=>orF d.asB λ b=>Q b a) xe
theorem qas3:∀ σ H Q,Fo c (ttV f) σ H Q->liftV c own f σ H (λ x H'=>∃ k,x=.bl k/\Q k H'):=by
 rintro σ H Q ⟨F,a,A,h,S,x,q⟩;obtain⟨b,e,q⟩:=qa7.mp q;obtain⟨d,g,e2⟩:=zA1.mp e;exact⟨F,a,A,d,S,g,λ v H' B r s _=>⟨b,r.asB e2,q H' F A (S.same s) (.same s)⟩⟩
theorem qaB3(h:VE c X e t):∀ σ H Q,Fo c (ttE t) σ H Q->Bd c t σ H (λ x H'=>∃ k,x=.bl k/\Q k H'):=by
 rintro σ H Q ⟨F,a,A,f,S,x,q⟩;refine⟨F,a,A,f,S,x,h.m _ _ _ _ _ (λ d g q v H1 F1 T A1 i S1 l j=>?_) (λ _ _ z=>z) q⟩;obtain⟨b,e,q⟩:=qa7.mp q;exact⟨b,i.asB e,q H1 F1 A1 S1 (j.count λ b=>by rw[zA0];lia)⟩
theorem qH4:∀ ds (Q Q':Bool->Ds->Prop) (xe b:XKd),(∀ d a,Q d a->Q' d a)->(∀ x a,xe x a->b x a)->ttV f ds Q xe->ttV f ds Q' b:=λ ds Q Q' xe b c _=>qa5 λ d=>c d ds
theorem qU5(h:VE c X e t):∀ ds (Q Q':Bool->Ds->Prop) (xe b:XKd),(∀ d a,Q d a->Q' d a)->(∀ x a,xe x a->b x a)->ttE t ds Q xe->ttE t ds Q' b:=λ ds Q Q' xe b f g=>h.m _ _ _ _ _ (λ d a=>qa5 λ z=>f z a) g
theorem tv(h:VV c X e own f)(a:∀ whole,isTrue e X.env whole=(do let v <- whole;standAt e.pos;holding [v] (truthy v)):=by intro _;rfl):VTe c X e (ttV f):=⟨PT.mono (qaD7 h.h a) qas3,qH4⟩
theorem te(h:VE c X e t)(a:∀ whole,isTrue e X.env whole=(do let v <- whole;standAt e.pos;holding [v] (truthy v)):=by intro _;rfl):VTe c X e (ttE t):=⟨PT.mono (qaD7 h.h a) (qaB3 h),qU5 h⟩
theorem q2(p:T2 X e a b r)(h:A4 nw r g)(d:VV c X a oa fa)(f:VV c X b ob fb):VTe c X e (ttV (f2 g fa fb)):=⟨PT.mono (p _ _ d.h f.h) λ σ H Q q=>op_vv h σ H _ (qas3 σ H Q q),qH4⟩
theorem q2v(p:P2 X e a b r)(i:T2 X e a b r)(h:A4 true r g)(d:VE c X a ta)(f:VV c X b ob fb):VTe c X e (ttE (t2v g ta fb)):=⟨PT.mono (i _ _ d.h f.h) λ σ H Q q=>op_ev d h σ H _ (qaB3 (e2v p h d f) σ H Q q),qU5 (e2v p h d f)⟩
variable{qa qb:VTT}{rest:List Expr}
def Hb(t:VTT):VTT:=λ ds Q xe=>t ds (λ b a=>Q (!b) a) xe
theorem Bh(h:VTe c X a qa):VTe c X (.UnaryOp .Not a pos) (Hb qa):=by
 refine⟨PT.mono (qaO1 h.h) λ σ H Q ⟨F,e,A,f,S,x,q⟩=>⟨F,e,A,f,S,x,q⟩,λ e Q Q' f g i j=>h.m _ _ _ _ _ (λ b d=>i _ d) j⟩
structure VTw(c:Vc)(X:Cx)(e:Expr)(t:VTT):Prop where
 h:PW X e (Fo c t)
 m:∀ ds (Q Q':Bool->Ds->Prop) (xe xe':XKd),(∀ d ds',Q d ds'->Q' d ds')->(∀ x ds',xe x ds'->xe' x ds')->t ds Q xe->t ds Q' xe'
theorem VTw.te(h:VTw c X e qa):VTe c X e qa:=⟨h.h.pt,h.m⟩
theorem K5(h:VTe c X a qa):VTw c X (.BoolOp .And [a] pos) qa:=⟨qaD5 h.h,h.m⟩
theorem Ib(h:VTe c X a qa):VTw c X (.BoolOp .Or [a] pos) qa:=⟨qaN9 h.h,h.m⟩
def ttAnd(t u:VTT):VTT:=λ ds Q xe=>t ds (λ k ds1=>if k=true then u ds1 Q xe else Q false ds1) xe
def ttOr(t u:VTT):VTT:=λ ds Q xe=>t ds (λ k ds1=>if k=true then Q true ds1 else u ds1 Q xe) xe
theorem qN4{k:Bool->St->Hp->(Bool->Hp->Prop)->Prop}{K:Bool->Ds->(Bool->Ds->Prop)->XKd->Prop}(h:VTe c X a qa)(i:∀(b:Bool) F ds A xe σ H (Q:Bool->Hp->Prop),M6 c F H σ ds A->Xc c xe F H A->K b ds (λ f e=>∀ H' F' A',M6 c F' H' σ e A'->M5 F H A F' H' A'->Q f H') xe->k b σ H Q)(hm:∀(b:Bool) ds (Q Q':Bool->Ds->Prop) (xe:XKd),(∀ d e,Q d e->Q' d e)->K b ds Q xe->K b ds Q' xe):∀ σ H Q,Fo c (λ ds Q xe=>qa ds (λ b ds1=>K b ds1 Q xe) xe) σ H Q->Fo c qa σ H (λ b H1=>k b σ H1 Q):=by
 rintro σ H Q ⟨F,ds,A,xe,S,x,q⟩;refine⟨F,ds,A,xe,S,x,h.m _ _ _ _ _ (λ b ds1 q H1 F1 A1 S1 g=>?_) (λ _ _ z=>z) q⟩;exact i b F1 ds1 A1 xe σ H1 Q S1 (x.step g) (hm b ds1 _ _ xe (λ f e q H' F' A' S' j=>q H' F' A' S' (g.trans j)) q)
theorem tand(g:VTe c X a qa)(i:VTw c X (.BoolOp .And (b::rest) pos) qb):VTw c X (.BoolOp .And (a::b::rest) pos) (ttAnd qa qb):=by
 refine⟨PW.mono (qaO0 g.h i.h) ?_,λ d Q Q' e l f j=>g.m _ _ _ _ _ (λ k n q=>?_) j⟩
 . refine qN4 (k:=λ b σ H Q=>if b=true then Fo c qb σ H Q else Q false H) (K:=λ b d Q e=>if b=true then qb d Q e else Q false d) g ?_ ?_
   . intro b F d A e σ H Q S x q
     cases b with
     | true=>rw[if_pos rfl] at q ⊢;exact⟨F,d,A,e,S,x,q⟩
     | false=>rw[if_neg (by decide)] at q ⊢;exact q H F A S M5.refl
   intro b d Q Q' e f;cases b with
   | true=>rw[if_pos rfl,if_pos rfl];exact i.m _ _ _ _ _ f λ _ _ z=>z
   | false=>rw[if_neg (by decide),if_neg (by decide)];exact f _ _
 cases k with
 | true=>rw[if_pos rfl] at q ⊢;exact i.m _ _ _ _ _ f j q
 | false=>rw[if_neg (by decide)] at q ⊢;exact f _ _ q
theorem tor(g:VTe c X a qa)(i:VTw c X (.BoolOp .Or (b::rest) pos) qb):VTw c X (.BoolOp .Or (a::b::rest) pos) (ttOr qa qb):=by
 refine⟨PW.mono (pw_or g.h i.h) ?_,λ d Q Q' e l f j=>g.m _ _ _ _ _ (λ k n q=>?_) j⟩
 . refine qN4 (k:=λ b σ H Q=>if b=true then Q true H else Fo c qb σ H Q) (K:=λ b d Q e=>if b=true then Q true d else qb d Q e) g ?_ ?_
   . intro b F d A e σ H Q S x q
     cases b with
     | false=>rw[if_neg (by decide)] at q ⊢;exact⟨F,d,A,e,S,x,q⟩
     | true=>rw[if_pos rfl] at q ⊢;exact q H F A S M5.refl
   intro b d Q Q' e f;cases b with
   | false=>rw[if_neg (by decide),if_neg (by decide)];exact i.m _ _ _ _ _ f λ _ _ z=>z
   | true=>rw[if_pos rfl,if_pos rfl];exact f _ _
 cases k with
 | false=>rw[if_neg (by decide)] at q ⊢;exact i.m _ _ _ _ _ f j q
 | true=>rw[if_pos rfl] at q ⊢;exact f _ _ q
end
section
variable{c:Vc}{X:Cx}{a b e:Expr}{oa ob own nw:Bool}{fa fb f:FV}{ta tb t:VT}{pos:Pos}{rest:List Expr}
def tSeqE(ta:VT)(k:D->VT):VT:=λ ds Q xe=>ta ds (λ x ds1=>k x ds1 Q xe) xe
theorem qax3{k:V->St->Hp->VK->Prop}{K:D->VT}(i:VE c X a ta)(hm:∀ x ds (Q Q':DK) (xe f:XKd),(∀ d e,Q d e->Q' d e)->(∀ x e,xe x e->f x e)->K x ds Q xe->K x ds Q' f)(j:∀ F H σ v x T,M3 F H v x T->∀ Q,(∃ ds A xe,M6 c F H σ ds A/\Xc c xe F H A/\K x ds (λ d e=>∀ v H' F' T A',M3 F' H' v d T->M6 c F' H' σ e A'->Ok F' H' (T++A')->M5 F H A F' H' (T++A')->Q v H') xe)->k v σ H Q) :
   ∀ σ H Q,Bd c (tSeqE ta K) σ H Q->Bd c ta σ H (λ x H1=>k x σ H1 Q):=by
 rintro σ H Q ⟨F,ds,A,xe,S,x,q⟩;refine⟨F,ds,A,xe,S,x,i.m _ _ _ _ _ (λ d g q v H1 F1 T A1 l S1 p n=>?_) (λ _ _ z=>z) q⟩;have h:M5 F H A F1 H1 A1:=n.count λ b=>by rw[zA0];lia
 exact j F1 H1 σ v d T l Q ⟨g,A1,xe,S1,x.step h,hm d g _ _ _ _ (λ t e q w H' F' T' A' r S' o s=>q w H' F' T' A' r S' o (h.trans s)) (λ _ _ z=>z) q⟩
def Jh(ta tb:VT):VT:=tSeqE ta λ x ds Q xe=>orF x.asB λ k=>if k=true then tb ds Q xe else Q (.bl false) ds
theorem qy5{k:Bool}{p q a b:Prop}(h1:p->a)(h2:q->b):(if k=true then p else q)->(if k=true then a else b):=by
 cases k with
 | true=>rw[if_pos rfl,if_pos rfl];exact h1
 | false=>rw[if_neg (by decide),if_neg (by decide)];exact h2
theorem qae7(g:VE c X e tb):∀(x:D) ds (Q Q':DK) (xe b:XKd),(∀ d a,Q d a->Q' d a)->(∀ x a,xe x a->b x a)->(orF x.asB λ k=>if k=true then tb ds Q xe else Q (.bl false) ds)->(orF x.asB λ k=>if k=true then tb ds Q' b else Q' (.bl false) ds) :=
 λ x ds Q Q' xe b f h=>qa5 λ k=>qy5 (g.m _ _ _ _ _ f h) (f _ _)
theorem Ic{op:PySem.BoolOp}(h:VE c X a ta):VE c X (.BoolOp op [a] pos) ta:=⟨qaF3 h.h,h.m⟩
theorem Gw(e:VE c X a ta)(f:VE c X (.BoolOp .And (b::rest) pos) tb):VE c X (.BoolOp .And (a::b::rest) pos) (Jh ta tb):=by
 refine⟨PE.mono (qaG2 e.h f.h) ?_,λ l Q Q' g i p n=>e.m _ _ _ _ _ (λ d j=>qae7 f d j Q Q' g i p n) n⟩;refine qax3 (k:=λ v σ H Q=>∃ o,v=.bl o/\if o=true then Bd c tb σ H Q else Q (.bl false) H) e (qae7 f) ?_;rintro F H σ v x T r Q ⟨l,A,g,S,s,q⟩;obtain⟨k,t,q⟩:=qa7.mp q;refine⟨k,r.asB t,?_⟩;cases k with
 | true=>rw[if_pos rfl] at q ⊢;exact⟨F,l,A,g,S,s,q⟩
 | false=>rw[if_neg (by decide)] at q ⊢;exact q _ H F [] A (.bl _) S S.ok M5.refl
variable{qc:VTT}
def tIfE(qc:VTT)(ta tb:VT):VT:=λ ds Q xe=>qc ds (λ k ds1=>if k=true then ta ds1 Q xe else tb ds1 Q xe) xe
theorem eif(i:VTe c X cd qc)(j:VE c X a ta)(l:VE c X b tb):VE c X (.IfExp cd a b pos) (tIfE qc ta tb):=by
 refine⟨PE.mono (qav2 i.h j.h l.h) ?_,λ t Q Q' f w u n=>i.m _ _ _ _ _ (λ k e=>qy5 (j.m _ _ _ _ _ u n) (l.m _ _ _ _ _ u n)) n⟩;rintro σ H Q ⟨F,t,A,f,S,x,q⟩;refine⟨F,t,A,f,S,x,i.m _ _ _ _ _ (λ k e q H1 F1 A1 S1 g=>?_) (λ _ _ z=>z) q⟩;cases k with
 | true=>rw[if_pos rfl] at q ⊢;exact⟨F1,e,A1,f,S1,x.step g,j.m _ _ _ _ _ (λ d p q v H' F' T A' r S' o s=>q v H' F' T A' r S' o (g.trans s)) (λ _ _ z=>z) q⟩
 | false=>rw[if_neg (by decide)] at q ⊢;exact⟨F1,e,A1,f,S1,x.step g,l.m _ _ _ _ _ (λ d p q v H' F' T A' r S' o s=>q v H' F' T A' r S' o (g.trans s)) (λ _ _ z=>z) q⟩
def fAnd(fa fb:FV):FV:=λ ds=>(fa ds).bind λ x=>x.asB.bind λ k=>if k=true then fb ds else some (.bl false)
def fOr(fa fb:FV):FV:=λ ds=>(fa ds).bind λ x=>x.asB.bind λ k=>if k=true then some (.bl true) else fb ds
def fNot(fa:FV):FV:=λ ds=>(fa ds).bind λ x=>x.asB.map λ k=>.bl (!k)
theorem Iq{op:PySem.BoolOp}(h:VV c X a oa fa):VV c X (.BoolOp op [a] pos) oa fa:=⟨qaF3 h.h⟩
theorem K6(m:VV c X a oa fa)(n:VV c X (.BoolOp .And (b::rest) pos) ob fb):VV c X (.BoolOp .And (a::b::rest) pos) ob (fAnd fa fb):=by
 refine⟨PE.mono (qaG2 m.h n.h) λ σ H Q g=>?_⟩;obtain⟨F,i,A,d,S,e,q⟩:=g;obtain⟨x,p,e⟩:=zA1.mp e;obtain⟨k,r,e⟩:=zA1.mp e;refine⟨F,i,A,x,S,p,λ v H1 B1 s f y=>⟨k,s.asB r,?_⟩⟩;cases k with
 | true=>rw[if_pos rfl] at e ⊢;exact⟨F,i,A,d,S.same f,e,λ w H2 B2 t u j=>q w H2 B2 t (f.trans u) λ l=>⟨(j l).one,λ b o e=>(j l).new b o (f b o e)⟩⟩
 | false=>rw[if_neg (by decide)] at e ⊢;cases e;exact q _ H1 [] (.bl _) f λ _=>New.nil
theorem vor(m:VV c X a oa fa)(n:VV c X (.BoolOp .Or (b::rest) pos) ob fb):VV c X (.BoolOp .Or (a::b::rest) pos) ob (fOr fa fb):=by
 refine⟨PE.mono (pe_or m.h n.h) λ σ H Q g=>?_⟩;obtain⟨F,i,A,d,S,e,q⟩:=g;obtain⟨x,p,e⟩:=zA1.mp e;obtain⟨k,r,e⟩:=zA1.mp e;refine⟨F,i,A,x,S,p,λ v H1 B1 s f y=>⟨k,s.asB r,?_⟩⟩;cases k with
 | false=>rw[if_neg (by decide)] at e ⊢;exact⟨F,i,A,d,S.same f,e,λ w H2 B2 t u j=>q w H2 B2 t (f.trans u) λ l=>⟨(j l).one,λ b o e=>(j l).new b o (f b o e)⟩⟩
 | true=>rw[if_pos rfl] at e ⊢;cases e;exact q _ H1 [] (.bl _) f λ _=>New.nil
theorem vnot(f:VV c X a oa fa):VV c X (.UnaryOp .Not a pos) true (fNot fa):=by
 refine⟨PE.mono (qaP2 f.h) λ σ H Q b=>?_⟩;obtain⟨F,g,A,d,S,e,q⟩:=b;obtain⟨x,i,e⟩:=zA1.mp e;obtain⟨k,j,rfl⟩:=zAk.mp e;exact⟨F,g,A,x,S,i,λ v H1 B1 l m n=>⟨k,l.asB j,q _ H1 [] (.bl _) m λ _=>New.nil⟩⟩
noncomputable def gNeg:D->Option D
 | .int i=>some (.int (-i))
 | _=>none
theorem qaP4:OpS1 true (rU λ i=>.int (-i)) gNeg:=by
 intro F H v x B d Q r h q;cases x with
 | int i=>cases h;cases r;exact⟨i,rfl,q _ H [] (.int _) (λ _ _ z=>z) New.nil⟩
 | _=>cases h
theorem vneg(b:VV c X a oa fa):VV c X (.UnaryOp .USub a pos) true (f1 gNeg fa):=⟨PE.mono (pe_un qaM8 b.h) (op_v (nw:=true) qaP4)⟩
theorem Bn{f:Str}{C:γ}{K:W.Frag}(b:X.K=K)(d:VV c X a oa fa)(e:Cls K C)(n:qc8 K C f)(g:Ly a f X.env (eval a X.env)=eval a X.env:=by rfl):VV c X (.Attribute a f pos) oa (f1 (D.fld C f) fa):=by
 subst b;exact⟨PE.mono (qaF7 d.h g) (op_v (nw:=false) (qaP6 e n))⟩
variable{rc:List V->Hp->VK->Prop}{gc:Ds->Option D}{x:Str}{p:Pos}{es:List Expr}{fs:Ds->Option Ds}{tos:VTA}
def Ba(gc:Ds->Option D)(fs:Ds->Option Ds):FV:=λ ds=>(fs ds).bind gc
theorem vbi{id:String}(d:CallR X (.builtin id) rc)(h:OpS nw rc gc)(hm:X.mg x=none)(f:VVs c X (e::es) own fs)(g:Gl X x:=by rfl)(i:Lw x=some (.builtin id):=by rfl)(j:x ≠ "__name__" := by decide)(a:N' x:=by decide)(k:Lq (e::es) X.env=(false,eval e X.env)::Lq es X.env:=by rfl)(b:((backTo pos (Lq es X.env)).any λ x=>x.1)=false:=by rfl) :
   VV c X (.Call (.Name x p) (e::es) [] pos) (nw||own) (Ba gc fs):=⟨PE.mono (cbi d hm f.h g i j a k b) (qaG7 h)⟩
theorem Ir{id:String}(d:CallR X (.type id) rc)(h:OpS nw rc gc)(hm:X.mg x=none)(f:VVs c X (e::es) own fs)(g:Gl X x:=by rfl)(i:Lw x=some (.type id):=by rfl)(j:x ≠ "__name__" := by decide)(a:N' x:=by decide)(k:Lq (e::es) X.env=(false,eval e X.env)::Lq es X.env:=by rfl)(b:((backTo pos (Lq es X.env)).any λ x=>x.1)=false:=by rfl) :
   VV c X (.Call (.Name x p) (e::es) [] pos) (nw||own) (Ba gc fs):=⟨PE.mono (cty d hm f.h g i j a k b) (qaG7 h)⟩
theorem ebi{id:String}(f:CallR X (.builtin id) rc)(h:OpS true rc gc)(hm:X.mg x=none)(a:VOs c X (e::es) tos)(g:Gl X x:=by rfl)(i:Lw x=some (.builtin id):=by rfl)(j:x ≠ "__name__" := by decide)(b:N' x:=by decide)(k:Lq (e::es) X.env=(false,eval e X.env)::Lq es X.env:=by rfl)(d:((backTo pos (Lq es X.env)).any λ x=>x.1)=false:=by rfl) :
   VE c X (.Call (.Name x p) (e::es) [] pos) (tcO gc tos):=⟨PE.mono (cbi f hm a.h g i j b k d) (opc_o a h),qas4 a⟩
def gLst(xs:Ds):Option D:=gd (D.imms xs=true/\xs.length<=big) (.l false xs)
def gTup(xs:Ds):Option D:=gd (D.imms xs=true/\xs.length<=big) (.q xs)
theorem B8(k:VVs c X es own fs):VV c X (.List es pos) true (Ba gLst fs):=by
 refine⟨PE.mono (qav1 k.h) λ σ H Q f=>?_⟩;obtain⟨F,l,A,d,S,e,q⟩:=f;obtain⟨m,n,e2⟩:=zA1.mp e;obtain⟨g,rfl⟩:=qn4 e2;refine⟨F,l,A,m,S,n,λ r H1 B1 i j s=>⟨by rw[i.len];exact zAn g.2 qg3,λ p a=>?_⟩⟩;exact q _ _ [p] (qq1 a (i.imms0 g.1)) (j.trans (Same.new a)) λ _=>⟨(qf3 a).one,λ b o e=>(qf3 a).new b o (j b o e)⟩
theorem Fx{k:Nat}(i:VVs c X es own fs):VV c X (.Tuple es k pos) true (Ba gTup fs):=by
 refine⟨PE.mono (qaF1 i.h) λ σ H Q a=>?_⟩;obtain⟨F,j,A,d,S,e,q⟩:=a;obtain⟨l,m,e2⟩:=zA1.mp e;obtain⟨b,rfl⟩:=qn4 e2;refine⟨F,j,A,l,S,m,λ o H1 B1 f n r=>⟨by rw[f.len];exact zAn b.2 qg3,λ p g=>?_⟩⟩;exact q _ _ [] (qY5 g (f.imms0 b.1)) (n.trans (Same.new g)) λ _=>New.nil
def FO:=Ds->Option (Option Int)
inductive qaM4(c:Vc)(f:FO)(σ:St)(H:Hp)(Q:Option Int->Hp->Prop):Prop
 | mk (F:γ->Prop) (ds:Ds) (A:List γ) (i:Option Int) (S:M6 c F H σ ds A) (e:f ds=some i) (q:∀ H',Same H H'->Q i H'):qaM4 c f σ H Q
def qaR4(c:Vc)(f:FO):TO:=qaM4 c f
structure VPO(c:Vc)(X:Cx)(e:Option Expr)(f:FO):Prop where
 h:PO X e (qaR4 c f)
theorem PO.mono{X:Cx}{e:Option Expr}{t t':TO}(h:PO X e t)(i:∀ σ H Q,t' σ H Q->t σ H Q):PO X e t':=λ Fb s σ H Q I q=>h Fb s σ H Q I (i σ H Q q)
noncomputable def foN:FO:=λ _=>some none
noncomputable def D.asI:D->Option Int
 | .int i=>some i
 | _=>none
theorem M3.asI{F:γ->Prop}{H:Hp}{d:D}{B:List γ}{k:Int}(r:M3 F H v d B)(h:d.asI=some k):v=.int k:=by
 cases r<;>cases h<;>rfl
def foS(f:FV):FO:=λ ds=>(f ds).bind λ d=>d.asI.map some
theorem vpo_n:VPO c X none foN:=⟨PO.mono qao9 λ σ H Q ⟨F,a,A,i,S,e,q⟩=>by cases e;exact q H λ _ _ z=>z⟩
theorem vpo_s(h:VV c X e own f):VPO c X (some e) (foS f):=by
 refine⟨PO.mono (qao8 h.h) λ σ H Q a=>?_⟩;obtain⟨F,b,A,i,S,e,q⟩:=a;obtain⟨d,g,e2⟩:=zA1.mp e;obtain⟨j,k,rfl⟩:=zAk.mp e2;exact⟨F,b,A,d,S,g,λ v H' B r s _=>⟨j,r.asI k,q H' s⟩⟩
noncomputable def noT:D->Bool
 | .q _=>false
 | _=>true
def fsl(fa:FV)(lo hi:FO):FV:=λ ds=>(fa ds).bind λ x=>(lo ds).bind λ l=>(hi ds).bind λ h=>if noT x=true then gSl x l h else none
theorem vsl{lo hi:Option Expr}{fl n:FO}{p2:Pos}(s:VV c X a oa fa)(t:VPO c X lo fl)(u:VPO c X hi n):VV c X (.Subscript a (.Slice lo hi none p2) pos) true (fsl fa fl n):=by
 refine⟨PE.mono (qX4 qan6 s.h t.h u.h) λ σ H Q g=>?_⟩;obtain⟨F,i,A,d,S,e,q⟩:=g;obtain⟨x,y,e⟩:=zA1.mp e;obtain⟨l,e2,e⟩:=zA1.mp e;obtain⟨h,B,e⟩:=zA1.mp e;by_cases j:noT x=true
 . rw[if_pos j] at e
   refine⟨F,i,A,x,S,y,λ v H1 B1 C k _=>⟨F,i,A,l,S.same k,e2,λ H2 m=>⟨F,i,A,h,(S.same k).same m,B,λ H3 p=>?_⟩⟩⟩;have f:=(k.trans m).trans p;refine os_sl ((C.same m).same p) e (λ G z=>by subst z;cases j) λ w H' B' D E r=>q w H' B' D (f.trans E) λ _=>⟨r.one,λ b o e=>r.new b o (f b o e)⟩
 rw[if_neg j] at e;cases e
def fget(fa a b:FV):FV:=λ ds=>(fa ds).bind λ x=>(a ds).bind λ y=>(b ds).bind λ z=>match x with
 | .dct _ kvs=>y.key.bind λ k=>gd (((Fi kvs k).getD z).imm=true) ((Fi kvs k).getD z)
 | _=>none
theorem vget{k z:Expr}{D E:Bool}{s t:FV}{apos cpos:Pos}(G:X.A.units+1 < cLine)(I:VV c X a oa fa)(J:VV c X k D s)(K:VV c X z E t)(m:M2 X a "get" apos k z cpos):VV c X (.Call (.Attribute a "get" apos) [k,z] [] cpos) true (fget fa s t):=by
 refine⟨PE.mono (qav3 G I.h J.h K.h m) λ σ H Q j=>?_⟩;obtain⟨F,l,A,d,S,e,q⟩:=j;obtain⟨x,L,e⟩:=zA1.mp e;obtain⟨y,e2,e⟩:=zA1.mp e;obtain⟨w,M,e⟩:=zA1.mp e;cases x with
 | dct z N =>
   obtain⟨n,O,e⟩:=zA1.mp e;obtain⟨g,rfl⟩:=qn4 e;refine⟨F,l,A,_,S,L,λ v H1 B1 P o _=>?_⟩;obtain⟨a,b,A2,rfl,B,R,T,_⟩:=P.dct_inv;refine⟨a,rfl,.inl ⟨b,.inl B⟩,F,l,A,y,S.same o,e2,λ u H2 B2 U i _=>⟨F,l,A,w,(S.same o).same i,M,λ V H3 B3 C p _=>?_⟩⟩;have r:=p _ _ (i _ _ B);refine⟨Gm b n,.inl ⟨b,n,.inl r,(U.key O),rfl⟩,?_⟩;have f:=(o.trans i).trans p;rcases qaB0 n R T with⟨n1,n2⟩ | ⟨vv,dd,BB,n1,n2,n3,n4⟩
   . rw[n1] at g q;rw[n2]
     have:=C.imm g
     subst this;exact q _ H3 [] C f λ _=>New.nil
   rw[n1] at g q;rw[n2]
   have:=n3.imm g
   subst this;exact q _ H3 [] ((n3.same i).same p) f λ _=>New.nil
 | _=>cases e
end
section
variable{c:Vc}{X:Cx}{a b e:Expr}{pos:Pos}{F F':γ->Prop}{H H':Hp}{σ:St}{ds:Ds}{A:List γ}
theorem M6.put1{d:D}(S:M6 c F H σ ds A)(h:ds[i]? = some d)(e:d≠.u):∃(v:V)(B C:List γ),(σ++c.gv)[i]? = some (some v)/\M3 F H v d B/\(∀ b,A.count b=B.count b+C.count b) /\
   ∀{F':γ->Prop}{H':Hp}{W:γ->Prop}(d':D)(B':List γ),Kp F H W F' H'->(∀ b∈C,¬ W b)->M3 F' H' v d' B'->∃ A':List γ,Locs F' H' (σ++c.gv) (ds.set i d') A'/\∀ b,A'.count b=B'.count b+C.count b:=by
 have f:A5 ds i []=some d:=by unfold A5;rw[h];rfl
 obtain⟨u,w,B,C,g,j,l,m,n⟩:=S.loc.place f e;cases j;refine⟨u,B,C,g,l,m,λ{F' H' W} d' B' k o r=>?_⟩;obtain⟨A',a,q2⟩:=n d' B' k o r;refine⟨A',?_,q2⟩;unfold Bb at a;rw[h] at a;exact a
theorem qp6{d:D}(h:d.known=true):d≠.u:=λ z=>by subst z;cases h
def tMv(i:Nat):VT:=λ ds Q _=>orF (rdN i ds) λ d=>Q d (ds.set i .u)
theorem emv(i:Nat){x:Str}(k:X.N[i]? = some x:=by rfl)(m:Vis X.env.scope x:=by first | exact Or.inl rfl | exact Or.inr (Or.inl rfl) | exact Or.inr (Or.inr rfl))(n:N' x:=by decide)(a:(x == ("__classdict__" : Str))=false:=by decide) :
   VE c X (.Name x pos) (tMv i):=by
 refine⟨λ Fb s σ H Q I g=>?_,λ p Q Q' r t u _=>qa5 λ d=>u _ _⟩;obtain⟨F,p,A,r,S,x,q⟩:=g;refine qp1 k m n a Fb s σ H Q I ?_;obtain⟨d,h,q⟩:=qa7.mp q;obtain⟨h,w⟩:=qj3.mp h;obtain⟨v,B,C,l,y,j,D⟩:=S.put1 h (qp6 w);have E:=qm9 k Fb σ H s I;rw[zAt E] at l;obtain⟨A',G,q2⟩:=D .u [] (Kp.same (λ _ _ z=>z)) (λ _ _ z=>z) (.u v);refine⟨v,l,q v H F B A' y ⟨G,S.ok.count λ b=>by rw[q2,j];simp,S.len,S.ag⟩ (S.ok.count λ b=>by rw[zA0,q2,j];simp) ?_⟩;exact⟨λ _ _ e _=>e,λ b o e z=>by rw[zA0,q2];have:=j b;simp;lia,λ _ f=>f,λ _ _ _ _ f=>f⟩
def tFz(i:Nat):VT:=λ ds Q _=>orF (rdN i ds) λ d=>Q d.fz (ds.set i d.fz)
theorem share{B C:List γ}(o:Ok F H A)(a:∀ b,A.count b=B.count b+C.count b)(d:∀ b∈B,∃ o,H b=some o/\Fw o=true){A':List γ}(c:∀ b,A'.count b=C.count b) :
   Ok (λ b=>F b∨b∈B) H A'/\M5 F H A (λ b=>F b∨b∈B) H A':=by
 refine⟨⟨λ b=>by rw[c];have:=o.sep b;have:=a b;lia,λ b f=>?_,λ b f=>?_⟩,λ _ _ e _=>e,λ b o e z=>by rw[c];have:=a b;lia,λ b f=>.inl f,λ b u e z f=>?_⟩
 . rw[c]
   rcases f with f | f
   . have:=o.fro b f;have:=a b;lia
   have:=qa8.mp f;have:=o.sep b;have:=a b;lia
 . rcases f with f | f
   . exact o.ex b f
   exact let ⟨u,e,_⟩:=d b f;⟨u,e⟩
 rcases f with f | f
 . exact f
 have:=qa8.mp f;have:=a b;lia
theorem efz(i:Nat){x:Str}(h:X.N[i]? = some x:=by rfl)(n:Vis X.env.scope x:=by first | exact Or.inl rfl | exact Or.inr (Or.inl rfl) | exact Or.inr (Or.inr rfl))(o:N' x:=by decide)(a:(x == ("__classdict__" : Str))=false:=by decide) :
   VE c X (.Name x pos) (tFz i):=by
 refine⟨λ Fb s σ H Q I e=>?_,λ p Q Q' r t u _=>qa5 λ d=>u _ _⟩;obtain⟨F,p,A,r,S,x,q⟩:=e;refine qp1 h n o a Fb s σ H Q I ?_;obtain⟨d,g,q⟩:=qa7.mp q;obtain⟨g,w⟩:=qj3.mp g;obtain⟨v,B,C,j,k,y,D⟩:=S.put1 g (qp6 w);have E:=qm9 h Fb σ H s I;rw[zAt E] at j;have l:=k.fz (F':=λ b=>F b∨b∈B) (λ b f=>.inl f) λ b G=>.inr G
 obtain⟨A',J,q2⟩:=D d.fz [] (Kp.more (H:=H) λ b f=>Or.inl f) (λ _ _ z=>z) l;obtain⟨m,K⟩:=share S.ok y k.cells (A':=A') (λ b=>by rw[q2];simp);exact⟨v,j,q v H _ [] A' l ⟨J,m,S.len,S.ag⟩ m K⟩
abbrev PF:=Ds->Option (Nat×List Nat)
inductive LiftP(c:Vc)(pf:PF)(σ:St)(H:Hp)(Q:VK):Prop
 | mk (F:γ->Prop) (ds:Ds) (A:List γ) (i:Nat) (p:List Nat) (d:D) (S:M6 c F H σ ds A) (e:pf ds=some (i,p)) (g:A5 ds i p=some d) (n:d≠.u) (q:∀ u w H',(σ++c.gv)[i]? = some (some u)->Walk H' u p w->Same H H'->Q w H'):LiftP c pf σ H Q
def Ji(c:Vc)(pf:PF):TE:=LiftP c pf
structure VP(c:Vc)(X:Cx)(e:Expr)(pf:PF):Prop where
 h:PE X e (Ji c pf)
theorem vpn(i:Nat){x:Str}(h:X.N[i]? = some x:=by rfl)(l:Vis X.env.scope x:=by first | exact Or.inl rfl | exact Or.inr (Or.inl rfl) | exact Or.inr (Or.inr rfl))(m:N' x:=by decide)(b:(x == ("__classdict__" : Str))=false:=by decide) :
   VP c X (.Name x pos) (λ _=>some (i,[])):=by
 refine⟨λ Fb s σ H Q I f=>?_⟩;obtain⟨F,t,A,j,p,d,S,e,n,g,q⟩:=f;refine qp1 h l m b Fb s σ H Q I ?_;cases e;obtain⟨u,w,B,C,k,o,v,y,D⟩:=S.loc.place n g;cases o;have r:=qm9 h Fb σ H s I;have a:=k;rw[zAt r] at a;exact⟨u,a,q u u H k rfl λ _ _ z=>z⟩
theorem qF5:∀{p:List Nat}{d x:D}{q:List Nat},d.getP (p++q)=some x->∃ e,d.getP p=some e/\e.getP q=some x
 | [],d,x,q,h=>⟨d,rfl,h⟩
 | n::p,d,x,q,h=>by
   have h:D.getP d (n::(p++q))=some x:=h;unfold D.getP at h;cases a:d.kids[n]? with
   | none=>rw[a] at h;cases h
   | some y =>
     rw[a] at h;obtain⟨e,b,c⟩:=qF5 (p:=p) h;exact⟨e,by unfold D.getP;rw[a];exact b,c⟩
theorem qac3{p q:List Nat}{x:D}(h:A5 ds i (p++q)=some x):∃ e,A5 ds i p=some e/\e.getP q=some x:=by
 unfold A5 at h ⊢;cases a:ds[i]? with
 | none=>rw[a] at h;cases h
 | some d=>rw[a] at h;exact qF5 h
theorem Walk.snoc:∀{p:List Nat}{u v w:V}{n:Nat},Walk H u p v->Lnk H v n w->Walk H u (p++[n]) w
 | [],_,_,w,n,h,l=>by cases h;exact⟨w,l,rfl⟩
 | m::p,_,_,_,_,⟨x,h1,h2⟩,l=>⟨x,h1,h2.snoc l⟩
theorem qaR6{d e:D}(h:d.getP [n]=some e):d≠.u:=λ z=>by subst z;cases (show (none:Option D)=some _ from h)
theorem M6.place{p:List Nat}{d:D}{u:V}(S:M6 c F H σ ds A)(h:A5 ds i p=some d)(e:d≠.u)(f:(σ++c.gv)[i]? = some (some u))(g:Walk H u p w):∃(B C:List γ),M3 F H w d B/\(∀ b,A.count b=B.count b+C.count b) /\
   ∀{F':γ->Prop}{H':Hp}{W:γ->Prop}(d':D)(B':List γ),Kp F H W F' H'->(∀ b∈C,¬ W b)->M3 F' H' w d' B'->∃ A':List γ,Locs F' H' (σ++c.gv) (Bb ds i p d') A'/\∀ b,A'.count b=B'.count b+C.count b:=by
 obtain⟨n,o,B,C,a,j,k,l,m⟩:=S.loc.place h e;rw[f] at a;cases a;cases g.fn j;exact⟨B,C,k,l,m⟩
def D.fidx(C:γ)(f:Str):D->Option Nat
 | .ins _ C' fs=>if C'=C then fs.findIdx? (λ q=>f == q.1) else none
 | _=>none
theorem qy9{α:Type}:∀{fs:List (Str×α)}{f:Str}{n:Nat},fs.findIdx? (λ q=>f == q.1)=some n->∃ v,fs.lookup f=some v/\(fs.map (·.2))[n]? = some v
 | [],f,n,h=>by simp at h
 | (k,v)::r,f,n,h=>by
   rw[zC9] at h;rw[zAu];cases a:f == k with
   | true=>simp[a] at h;subst h;exact⟨v,rfl,rfl⟩
   | false =>
     simp[a] at h;obtain⟨m,b,rfl⟩:=h;obtain⟨w,c,d⟩:=qy9 (fs:=r) b;exact⟨w,c,by simpa using d⟩
theorem qO8{α β:Type}:∀{fs:List (Str×α)}{a:List (Str×β)}{f:Str},fs.map (·.1)=a.map (·.1)->fs.findIdx? (λ q=>f == q.1)=a.findIdx? (λ q=>f == q.1)
 | [],[],_,_=>rfl
 | [],_::_,_,h=>by simp at h
 | _::_,[],_,h=>by simp at h
 | (k,_)::r,(k',_)::r',f,h=>by
   have b:k=k':=by simp at h;exact h.1
   have c:r.map (·.1)=r'.map (·.1):=by simp at h;simpa using h.2
   subst b;rw[zC9,zC9,qO8 c]
def pfFld(C:γ)(f:Str)(pf:PF):PF:=λ ds=>(pf ds).bind λ q=>(A5 ds q.1 q.2).bind λ d=>(d.fidx C f).map λ n=>(q.1,q.2++[n])
theorem K7{f:Str}{C:γ}{K:W.Frag}{pf:PF}(I:X.K=K)(l:VP c X a pf)(J:Cls K C)(L:qc8 K C f)(M:Ly a f X.env (eval a X.env)=eval a X.env:=by rfl):VP c X (.Attribute a f pos) (pfFld C f pf):=by
 subst I;refine⟨PE.mono (qaF7 l.h M) λ σ H Q m=>?_⟩;obtain⟨F,N,A,i,p,d,S,e,O,hd,q⟩:=m;obtain⟨⟨j,P⟩,R,e⟩:=zA1.mp e;obtain⟨t,e2,e⟩:=zA1.mp e;obtain⟨n,x,e⟩:=zAk.mp e;cases e;obtain⟨T,y,U⟩:=qac3 O;rw[e2] at y;cases y;have b:=qaR6 U;refine⟨F,N,A,j,P,t,S,R,e2,b,λ u w H' D E s=>?_⟩;obtain⟨B,C0,r,_,_⟩:=(S.same s).place e2 b D E;cases t with
 | ins z C' V =>
   have g:(if C'=C then V.findIdx? (λ q=>f == q.1) else none)=some n:=x;by_cases o:C'=C
   . rw[if_pos o] at g
     obtain⟨a,G,k,_,rfl,l,Y,rs,_⟩:=r.ins_inv;rw[<- qO8 Y] at g;obtain⟨v,Z,l2⟩:=qy9 g;subst o;exact⟨a,C',G,k,v,rfl,l,J,L,Z,q u v H' D (E.snoc ⟨a,rfl,.inr (.inr (.inr ⟨C',G,k,l,l2⟩))⟩) s⟩
   rw[if_neg o] at g;cases g
 | _=>cases x
end
inductive Pl where
 | no
 | sl (i:Nat)
 | pl (i:Nat) (p:List Nat) (w:V)
abbrev VTB:=Ds->(Ds->List Pl->Ds->Prop)->XKd->Prop
inductive G6(τ:List (Option V)):List V->List Pl->Prop
 | nil:G6 τ [] []
 | no {v:V} {vs:List V} {ps:List Pl} (t:G6 τ vs ps):G6 τ (v::vs) (.no::ps)
 | sl {v:V} {vs:List V} {ps:List Pl} {i:Nat} (h:τ[i]? = some (some v)) (t:G6 τ vs ps):G6 τ (v::vs) (.sl i::ps)
 | so {v:V} {vs:List V} {ps:List Pl} {i:Nat} {p:List Nat} (t:G6 τ vs ps):G6 τ (v::vs) (.pl i p v::ps)
inductive LiftA(c:Vc)(t:VTB)(σ:St)(H:Hp)(Q:List V->Hp->Prop):Prop
 | mk (F:γ->Prop) (ds:Ds) (A:List γ) (xe:XKd) (S:M6 c F H σ ds A) (x:Xc c xe F H A) (q:t ds (λ xs pls ds'=>∀ vs H' F' T A',Mr F' H' vs xs T->G6 (σ++c.gv) vs pls->M6 c F' H' σ ds' A'->Ok F' H' (T++A')->M5 F H A F' H' (T++A')->Q vs H') xe):LiftA c t σ H Q
def Hc(c:Vc)(t:VTB):TA:=LiftA c t
structure VAs(c:Vc)(X:Cx)(es:List Expr)(t:VTB):Prop where
 h:PA X es (Hc c t)
 m:∀ ds (Q Q':Ds->List Pl->Ds->Prop) (xe xe':XKd),(∀ d p ds',Q d p ds'->Q' d p ds')->(∀ x ds',xe x ds'->xe' x ds')->t ds Q xe->t ds Q' xe'
section
variable{c:Vc}{X:Cx}{e:Expr}{es:List Expr}{ta:VT}{tr:VTB}{pf:PF}{F F':γ->Prop}{H H':Hp}{σ:St}{ds:Ds}{A:List γ}
def Ay:VTB:=λ ds Q _=>Q [] [] ds
theorem Ac:VAs c X [] Ay:=⟨PA.mono qt9 λ σ H Q ⟨F,a,A,b,S,x,q⟩=>q [] H F [] A .nil .nil S S.ok M5.refl,λ a Q Q' b d e _=>e _ _ _⟩
def tbV(ta:VT)(tr:VTB):VTB:=λ ds Q xe=>ta ds (λ x ds1=>tr ds1 (λ xs ps a=>Q (x::xs) (.no::ps) a) xe) xe
theorem vaV(f:VE c X e ta)(g:VAs c X es tr)(w:Lq (e::es) X.env=(false,eval e X.env)::Lq es X.env:=by rfl):VAs c X (e::es) (tbV ta tr):=by
 refine⟨PA.mono (qe6 f.h g.h w) λ σ H Q i=>?_,λ o Q Q' j y B p=>f.m _ _ _ _ _ (λ d a=>g.m _ _ _ _ _ (λ C D k=>B _ _ _) p) p⟩;obtain⟨F,o,A,j,S,x,q⟩:=i;refine⟨F,o,A,j,S,x,f.m _ _ _ _ _ (λ E a q v H1 F1 T A1 r S1 s t=>?_) (λ _ _ z=>z) q⟩;have l:M5 F H A F1 H1 A1:=t.count λ b=>by rw[zA0];lia
 refine⟨F1,a,A1,j,S1,x.step l,g.m _ _ _ _ _ (λ C D k q G H2 F2 T2 A2 I J S2 K u=>?_) (λ _ _ z=>z) q⟩;have n:M3 F2 H2 v E T:=r.keep (u.kp S1.ok S1.loc.cells) λ b L O=>by
   have:=s.sep b
   rw[zA0] at this
   have:=qa8.mp L
   lia
 obtain⟨M,N⟩:=u.frame s r.cells K;exact q (v::G) H2 F2 (T++T2) A2 (.cons n I) (.no J) S2 (by rw[zAq];exact M) (by rw[zAq];exact t.trans N)
def tbB(pf:PF)(tr:VTB):VTB:=λ ds Q xe=>orF (pf ds) λ q=>orF (A5 ds q.1 q.2) λ d=>d.known=true/\∀ w,tr (Bb ds q.1 q.2 (.hole w)) (λ xs ps a=>Q (d::xs) (.pl q.1 q.2 w::ps) a) xe
theorem vaB(I:VP c X e pf)(a:VAs c X es tr)(J:Lq (e::es) X.env=(false,eval e X.env)::Lq es X.env:=by rfl):VAs c X (e::es) (tbB pf tr):=by
 refine⟨PA.mono (qe6 I.h a.h J) λ σ H Q g=>?_,λ j Q Q' v K L M=>qa5 λ z=>qa5 λ d=>And.imp_right λ h w=>a.m _ _ _ _ _ (λ N O k=>L _ _ _) M (h w)⟩;obtain⟨F,j,A,v,S,x,q⟩:=g;obtain⟨⟨i,p⟩,P,q⟩:=qa7.mp q;obtain⟨d,e2,y,q⟩:=qa7.mp q;refine⟨F,j,A,i,p,d,S,P,e2,qp6 y,λ u w H1 R T s=>?_⟩;obtain⟨B,C,r,D,U⟩:=(S.same s).place e2 (qp6 y) R T;obtain⟨A1,V,q2⟩:=U (.hole w) [] (Kp.same (F:=F) λ _ _ z=>z) (λ _ _ z=>z) (.hole w);have l:Ok F H1 (B++A1):=(S.same s).ok.count λ b=>by rw[zA0,q2,D];simp
 have E:M5 F H A F H1 (B++A1):=⟨λ b o e _=>s b o e,λ b o e z=>by rw[zA0,q2];have:=D b;simp;lia,λ _ f=>f,λ _ _ _ _ f=>f⟩
 have S1:M6 c F H1 σ (Bb j i p (.hole w)) A1:=⟨V,l.right,S.len,S.ag⟩
 have n:M5 F H A F H1 A1:=E.count λ b=>by rw[zA0];lia
 refine⟨F,_,A1,v,S1,x.step n,a.m _ _ _ _ _ (λ N O k q W H2 F2 T2 A2 Y Z S2 o2 G=>?_) (λ _ _ z=>z) (q w)⟩;have t:M3 F2 H2 w d B:=r.keep (G.kp S1.ok S1.loc.cells) λ b hb hc=>by
   have:=l.sep b
   rw[zA0] at this
   have:=qa8.mp hb
   lia
 obtain⟨o3,s3⟩:=G.frame l r.cells o2;exact q (w::W) H2 F2 (B++T2) A2 (.cons t Y) (.so Z) S2 (by rw[zAq];exact o3) (by rw[zAq];exact E.trans s3)
def tbN(i:Nat)(tr:VTB):VTB:=λ ds Q xe=>(rdN i ds).isSome=true/\tr ds (λ xs ps ds1=>orF (rdN i ds1) λ d=>Q (d::xs) (.sl i::ps) (ds1.set i .u)) xe
theorem vaN(i:Nat){x:Str}{p:Pos}(e:VAs c X es tr)(E:Lq (.Name x p::es) X.env=(false,eval (.Name x p) X.env)::Lq es X.env:=by rfl)(t:X.N[i]? = some x:=by rfl)(G:Vis X.env.scope x:=by first | exact Or.inl rfl | exact Or.inr (Or.inl rfl) | exact Or.inr (Or.inr rfl))(J:N' x:=by decide)(f:(x == ("__classdict__" : Str))=false:=by decide) :
   VAs c X (.Name x p::es) (tbN i tr):=by
 refine⟨λ pos Fb s σ H Q I g=>?_,λ u Q Q' w K L M=>And.imp_right (e.m _ _ _ _ _ (λ O P j=>qa5 λ d=>L _ _ _) M)⟩;obtain⟨F,u,A,w,S,x,k,q⟩:=g;refine qe6 (qp1 t G J f) e.h E pos Fb s σ H Q I ?_;have y:=qm9 t Fb σ H s I;obtain⟨d0,R⟩:=zB5.mp k;obtain⟨v,B0,a,_,_⟩:=S.name y R;refine⟨v,a,F,u,A,w,S,x,e.m _ _ _ _ _ (λ O P j q T H2 F2 T2 A2 U V S2 D W=>?_) (λ _ _ z=>z) q⟩;obtain⟨d,l,q⟩:=qa7.mp q;obtain⟨l,Y⟩:=qj3.mp l;obtain⟨v',B,C,n,Z,h3,h4⟩:=S2.put1 l (qp6 Y);have o:=n;rw[zAt y,a] at n;cases n;obtain⟨A3,q1,q2⟩:=h4 .u [] (Kp.same (F:=F2) λ _ _ z=>z) (λ _ _ z=>z) (.u v);have r:∀ b,((B++T2)++A3).count b<=(T2++A2).count b:=λ b=>by simp only[zA0,q2,h3];simp;lia
 exact q (v::T) H2 F2 (B++T2) A3 (.cons Z U) (.sl o V) ⟨q1,(D.count r).right,S.len,S.ag⟩ (D.count r) (W.count r)
def Ap:List Pl->Ds->Ds->Option Ds
 | [],_,ds=>some ds
 | .no::ps,_::ys,ds=>Ap ps ys ds
 | .sl i::ps,y::ys,ds=>Ap ps ys (ds.set i y)
 | .pl i p v::ps,y::ys,ds=>match A5 ds i p with
   | some (.hole w)=>if w=v then Ap ps ys (Bb ds i p y) else none
   | _=>none
 | _::_,[],_=>none
theorem qz6{τ:List (Option V)}{ds:Ds}{C B:List γ}{y:D}(L:Locs F H τ ds C)(hi:τ[i]? = some (some v))(r:M3 F H v y B):∃ A':List γ,Locs F H τ (ds.set i y) A'/\∀ b,A'.count b<=B.count b+C.count b:=by
 have s:=L.len;have g:i < τ.length:=(zA6.mp hi).1;obtain⟨d,h⟩:∃ d,ds[i]? = some d:=⟨_,List.getElem?_eq_getElem (by lia)⟩
 obtain⟨σ1,o,σ2,a,c,A1,B0,A2,e,e2,j,k,m,n,t,p⟩:=L.split h;have f:τ[i]? = some o:=by rw[e];exact qy7 j
 rw[hi] at f;cases f;have q:ds.set i y=a++y::c:=by
   have:=congrArg (λ l=>l.set i y) e2
   rw[this,qm4 k]
 exact⟨A1++(B++A2),by rw[e,q];exact n.append (.so r p),λ b=>by rw[m];simp only[zA0];lia⟩
theorem qq7{pls:List Pl}{ys ds a:Ds}{σ:List (Option V)}{B C:List γ}{more:List V}(e:G6 σ vs pls)(r:Mr F H (vs++more) ys B)(L:Locs F H σ ds C)(h:Ap pls ys ds=some a):∃ A':List γ,Locs F H σ a A'/\∀ b,A'.count b<=B.count b+C.count b:=by
 induction e generalizing ys ds B C with
 | nil =>
   have h:some ds=some a:=by cases ys<;>exact h
   cases h;exact⟨C,L,λ b=>by lia⟩
 | no e c =>
   cases r with
   | @cons _ _ A1 _ _ B1 r1 t =>
     obtain⟨A',d,q2⟩:=c t L h;exact⟨A',d,λ b=>by rw[zA0];have:=q2 b;lia⟩
 | sl k e c =>
   cases r with
   | @cons _ _ A1 _ _ B1 r1 t =>
     obtain⟨A2,d,q2⟩:=qz6 L k r1;obtain⟨A',f,g⟩:=c t d h;exact⟨A',f,λ b=>by rw[zA0];have:=g b;have:=q2 b;lia⟩
 | @so v _ _ i p e c =>
   cases r with
   | @cons _ y A1 _ _ B1 r1 t =>
     unfold Ap at h;split at h
     . rename_i w hg
       by_cases j:w=v
       . rw[if_pos j] at h
         subst j;obtain⟨u,o,B2,C2,q,s,l,m,n⟩:=L.place hg (by intro z;cases z);cases l;obtain⟨A2,d,q2⟩:=n y A1 (Kp.same (F:=F) λ _ _ z=>z) (λ _ _ z=>z) r1;obtain⟨A',f,g⟩:=c t d h;refine⟨A',f,λ b=>?_⟩
         have:=g b
         have:=q2 b
         have:=m b
         simp only[List.count_nil,zA0] at *
         lia
       rw[if_neg j] at h;cases h
     cases h
abbrev VSp:=Ds->DK->XKd->Prop
inductive LiftF(s:VSp)(vs:List V)(H:Hp)(Q:VK)(E:XK):Prop
 | mk (F:γ->Prop) (ds:Ds) (A:List γ) (r:Mr F H vs ds A) (o:Ok F H A) (q:s ds (λ d ys=>∀ v H' F' T A',M3 F' H' v d T->Mr F' H' vs ys A'->Ok F' H' (T++A')->M5 F H A F' H' (T++A')->Q v H')
   (λ x ys=>∀ e H' F' A',RepX F' H' e x->Mr F' H' vs ys A'->Ok F' H' A'->M5 F H A F' H' A'->E (.ref e) none H')):LiftF s vs H Q E
def Ie(s:VSp):Sp:=LiftF s
def Bp(s:VSp):Prop:=∀ ds (Q Q':DK) (xe xe':XKd),(∀ d a,Q d a->Q' d a)->(∀ x a,xe x a->xe' x a)->s ds Q xe->s ds Q' xe'
def qi0(s:VSp)(dv:Ds)(tr:VTB):VT:=λ ds Q xe=>tr ds (λ xs ps ds1=>s (xs++dv) (λ d ys=>orF (Ap ps ys ds1) λ a=>Q d a) (λ x ys=>orF (Ap ps ys ds1) λ a=>xe x a)) xe
theorem qam5{s:VSp}{dv:Ds}(f:Bp s)(g:VAs c X es tr):∀ ds (Q Q':DK) (xe b:XKd),(∀ d a,Q d a->Q' d a)->(∀ x a,xe x a->b x a)->qi0 s dv tr ds Q xe->qi0 s dv tr ds Q' b :=
 λ ds Q Q' xe b h e=>g.m _ _ _ _ _ (λ k l i=>f _ _ _ _ _ (λ d j=>qa5 λ z=>h _ _) (λ x j=>qa5 λ z=>e _ _)) e
def J0(dvs:List V)(dv:Ds):Prop:=∀ F H,Mr F H dvs dv []
theorem qC3:J0 [] []:=λ _ _=>.nil
theorem qam0:J0 [.non] [.non]:=λ _ _=>.cons (A:=[]) (B:=[]) .non .nil
theorem qaL7{s:VSp}{dvs:List V}{dv:Ds}(G:J0 dvs dv)(I:Bp s)(J:VAs c X es tr):∀ σ H Q,Bd c (qi0 s dv tr) σ H Q->Ki (Ie s) dvs c.E (Hc c tr) σ H Q:=by
 rintro σ H Q ⟨F,K,A,L,S,x,q⟩;refine⟨F,K,A,L,S,x,J.m _ _ _ _ _ (λ B U h q M H1 F1 T A1 N C S1 a D=>?_) (λ _ _ z=>z) q⟩;have rall:Mr F1 H1 (M++dvs) (B++dv) (T++[]):=N.append (G F1 H1);rw[zAf] at rall;refine⟨F1,B++dv,T,rall,a.left,I _ _ _ _ _ (λ d O q v H2 F2 T2 A2 P l n i=>?_) (λ y O q e H2 F2 A2 R l n i=>?_) q⟩
 . obtain⟨j,o,q⟩:=qa7.mp q
   have f:Ok F1 H1 (A1++T):=a.count λ b=>by simp only[zA0];lia
   obtain⟨p,r⟩:=i.frame f S1.loc.cells n;have L1:Locs F2 H2 (σ++c.gv) h A1:=S1.loc.keep (i.kp a.left rall.cells) λ b t g=>by
     have:=a.sep b
     rw[zA0] at this
     have:=qa8.mp t
     lia
   obtain⟨A3,u,q2⟩:=qq7 C l L1 o;have g:∀ b,(T2++A3).count b<=(A1++(T2++A2)).count b:=λ b=>by simp only[zA0];have:=q2 b;lia
   have k:Ok F2 H2 (T2++A3):=p.count g;have w:M5 F H A F2 H2 (T2++A3):=(D.trans (r.pre λ b=>by simp only[zA0];lia)).count g;exact q v H2 F2 T2 A3 P ⟨u,k.right,S.len,S.ag⟩ k w
 obtain⟨j,o,q⟩:=qa7.mp q;have f:Ok F1 H1 (A1++T):=a.count λ b=>by simp only[zA0];lia
 obtain⟨p,r⟩:=i.frame f S1.loc.cells n;have L1:Locs F2 H2 (σ++c.gv) h A1:=S1.loc.keep (i.kp a.left rall.cells) λ b t g=>by
   have:=a.sep b
   rw[zA0] at this
   have:=qa8.mp t
   lia
 obtain⟨A3,u,q2⟩:=qq7 C l L1 o;have g:∀ b,A3.count b<=(A1++A2).count b:=λ b=>by simp only[zA0];have:=q2 b;lia
 have k:Ok F2 H2 A3:=p.count g;have w:M5 F H A F2 H2 A3:=(D.trans (r.pre λ b=>by simp only[zA0];lia)).count g;exact x y j σ e H2 F2 A3 q R ⟨u,k,S.len,S.ag⟩ w
end
structure G7(cm:Bool)(P:Program)(w:World)(K:W.Frag)(mg:Str->Option V')(base:Heap)(k:Nat)(f:γ)(fd:δ)(ps:List Str)(s:VSp):Prop where
 ok:Fl cm P w K mg base (CX1 P w) k f fd ps (Ie s)
 m:Bp s
abbrev VFn:=G7 true
section
variable{c:Vc}{X:Cx}{a e:Expr}{es:List Expr}{tr:VTB}{F F1:γ->Prop}{H H1:Hp}{σ:St}{ds ds1:Ds}{A A1 T:List γ}{pos p apos:Pos}{x qual m:Str}{st:Stmt}{f C:γ}{fd:δ}{ps:List Str}{k:Nat}{s:VSp}{dvs:List V}{dv:Ds}
theorem Ah(D:Df X.K X.mg x qual st f fd ps)(G:G7 cm X.prog X.w X.K X.mg X.base k f fd ps s)(i:Lands X c.E)(j:M7 cm k X.A)(a:VAs c X (e::es) tr)(l:Gl X x:=by rfl)(d:N' x:=by decide)(n:Lq (e::es) X.env=(false,eval e X.env)::Lq es X.env:=by rfl)(g:(backTo pos (Lq es X.env)).any (·.1)=false:=by rfl):VE c X (.Call (.Name x p) (e::es) [] pos) (qi0 s [] tr) :=
 ⟨PE.mono (qap2 G.ok j l D.m D.F.kp D.b .nil i.passes a.h d n g) (qaL7 qC3 G.m a),qam5 G.m a⟩
theorem qaL8{xs:Ds}{pls:List Pl}{xe:XKd}{K:DK}(B:J0 dvs dv)(C:Bp s)(S:M6 c F H σ ds A)(x:Xc c xe F H A)(r1:Mr F1 H1 vs xs T)(w:G6 (σ++c.gv) vs pls)(S1:M6 c F1 H1 σ ds1 A1)(f:Ok F1 H1 (T++A1))(z:M5 F H A F1 H1 (T++A1))(D:∀ d i,K d i->∀ v H' F' T A',M3 F' H' v d T->M6 c F' H' σ i A'->Ok F' H' (T++A')->M5 F H A F' H' (T++A')->Q v H')(q:s (xs++dv) (λ d ys=>orF (Ap pls ys ds1) λ a=>K d a) (λ x ys=>orF (Ap pls ys ds1) λ a=>xe x a)):Ie s (vs++dvs) H1 Q (c.E σ):=by
 have rall:Mr F1 H1 (vs++dvs) (xs++dv) (T++[]):=r1.append (B F1 H1);rw[zAf] at rall;refine⟨F1,xs++dv,T,rall,f.left,C _ _ _ _ _ (λ d ys q v H2 F2 T2 A2 G l m j=>?_) (λ y ys q e H2 F2 A2 I l m j=>?_) q⟩
 . obtain⟨a,n,q⟩:=qa7.mp q
   have g:Ok F1 H1 (A1++T):=f.count λ b=>by simp only[zA0];lia
   obtain⟨o,p⟩:=j.frame g S1.loc.cells m;have L1:Locs F2 H2 (σ++c.gv) ds1 A1:=S1.loc.keep (j.kp f.left rall.cells) λ b r h=>by
     have:=f.sep b
     rw[zA0] at this
     have:=qa8.mp r
     lia
   obtain⟨A3,t,q2⟩:=qq7 w l L1 n;have h:∀ b,(T2++A3).count b<=(A1++(T2++A2)).count b:=λ b=>by simp only[zA0];have:=q2 b;lia
   have k:Ok F2 H2 (T2++A3):=o.count h;have u:M5 F H A F2 H2 (T2++A3):=(z.trans (p.pre λ b=>by simp only[zA0];lia)).count h;exact D d a q v H2 F2 T2 A3 G ⟨t,k.right,S.len,S.ag⟩ k u
 obtain⟨a,n,q⟩:=qa7.mp q;have g:Ok F1 H1 (A1++T):=f.count λ b=>by simp only[zA0];lia
 obtain⟨o,p⟩:=j.frame g S1.loc.cells m;have L1:Locs F2 H2 (σ++c.gv) ds1 A1:=S1.loc.keep (j.kp f.left rall.cells) λ b r h=>by
   have:=f.sep b
   rw[zA0] at this
   have:=qa8.mp r
   lia
 obtain⟨A3,t,q2⟩:=qq7 w l L1 n;have h:∀ b,A3.count b<=(A1++A2).count b:=λ b=>by simp only[zA0];have:=q2 b;lia
 have k:Ok F2 H2 A3:=o.count h;have u:M5 F H A F2 H2 A3:=(z.trans (p.pre λ b=>by simp only[zA0];lia)).count h;exact x y a σ e H2 F2 A3 q I ⟨t,k,S.len,S.ag⟩ u
def D.isM(C:γ)(m:Str):D->Bool
 | .ins _ C' fs=>decide (C'=C)&&(fs.lookup m).isNone
 | _=>false
theorem qy3{α β:Type}:∀{fs:List (Str×α)}{a:List (Str×β)}{f:Str},fs.map (·.1)=a.map (·.1)->(fs.lookup f).isNone=(a.lookup f).isNone
 | [],[],_,_=>rfl
 | [],_::_,_,h=>by simp at h
 | _::_,[],_,h=>by simp at h
 | (k,_)::r,(k',_)::r',f,h=>by
   have b:k=k':=by simp at h;exact h.1
   have c:r.map (·.1)=r'.map (·.1):=by simp at h;simpa using h.2
   subst b;rw[zAu,zAu];cases f == k with
   | true=>rfl
   | false=>exact qy3 c
theorem M3.isM{d:D}{B:List γ}(r:M3 F H v d B)(h:d.isM C m=true):∃ a dx fs,v=.ref a/\H a=some (.ins C dx fs)/\fs.lookup m=none:=by
 cases d with
 | ins z C' f =>
   have h:=zAi.mp h;obtain⟨a,dx,b,A,rfl,g,e,i,_⟩:=r.ins_inv
   have:=zAa h.1
   subst this;refine⟨a,dx,b,rfl,g,?_⟩;have c:=h.2;rw[<- qy3 e] at c;exact Option.isNone_iff_eq_none.mp c
 | _=>cases h
def qv7(C:γ)(m:Str)(s:VSp)(dv:Ds)(i:Nat)(tr:VTB):VT:=λ ds Q xe=>(orF (rdN i ds) λ d=>d.isM C m=true)/\tr ds (λ xs ps ds1=>orF (rdN i ds1) λ d=>s (d::(xs++dv)) (λ r ys=>orF (Ap (.sl i::ps) ys (ds1.set i .u)) λ a=>Q r a) (λ x ys=>orF (Ap (.sl i::ps) ys (ds1.set i .u)) λ a=>xe x a)) xe
theorem qE8(f:Bp s)(g:VAs c X es tr):∀ ds (Q Q':DK) (xe b:XKd),(∀ d a,Q d a->Q' d a)->(∀ x a,xe x a->b x a)->qv7 C m s dv i tr ds Q xe->qv7 C m s dv i tr ds Q' b :=
 λ ds Q Q' xe b h e=>And.imp_right (g.m _ _ _ _ _ (λ l n j=>qa5 λ d=>f _ _ _ _ _ (λ d k=>qa5 λ z=>h _ _) (λ x k=>qa5 λ z=>e _ _)) e)
theorem qY8{σ:St}{H:Hp}(w:J0 dvs dv)(y:Bp s)(D:VAs c X es tr)(hi:i < σ.length)(q:Bd c (qv7 C m s dv i tr) σ H Q):Kj C m (Ie s) dvs c.E (Hl i) (Hc c tr) σ H Q:=by
 obtain⟨F,G,A,I,S,x,f,q⟩:=q;obtain⟨Z,J,f⟩:=qa7.mp f;obtain⟨v,B0,e,K,_⟩:=S.name hi J;obtain⟨a,L,M,rfl,g,j⟩:=K.isM f;refine⟨.ref a,e,a,L,M,rfl,g,j,F,G,A,I,S,x,D.m _ _ _ _ _ (λ r ps N q t H2 F2 T2 A2 O P S2 u R=>?_) (λ _ _ z=>z) q⟩;obtain⟨d,k,q⟩:=qa7.mp q;obtain⟨k,l⟩:=qj3.mp k;obtain⟨v',B,C0,n,T,U,V⟩:=S2.put1 k (qp6 l);have o:=n;rw[zAt hi,e] at n;cases n;obtain⟨A3,W,q2⟩:=V .u [] (Kp.same (F:=F2) λ _ _ z=>z) (λ _ _ z=>z) (.u _);have p:∀ b,((B++T2)++A3).count b<=(T2++A2).count b:=λ b=>by simp only[zA0,q2,U];simp;lia
 exact qaL8 (vs:=.ref a::t) (xs:=d::r) w y S x (.cons T O) (.sl o P) ⟨W,(u.count p).right,S.len,S.ag⟩ (u.count p) (R.count p) (λ d Y h=>h) q
theorem qp9{pl:Sem Bool}(i:Nat){xn:Str}{p0:Pos}(D:Md X.K C m qual st f fd ps)(n:Cls X.K C)(G:G7 cm X.prog X.w X.K X.mg X.base k f fd ps s)(o:Lands X c.E)(p:M7 cm k X.A)(a:VAs c X (e::es) tr)(l:X.N[i]? = some xn:=by rfl)(r:Vis X.env.scope xn:=by first | exact Or.inl rfl | exact Or.inr (Or.inl rfl) | exact Or.inr (Or.inr rfl))(t:N' xn:=by decide)(d:(xn == ("__classdict__" : Str))=false:=by decide)(g:Lq (e::es) X.env=(false,eval e X.env)::Lq es X.env:=by rfl)(j:(backTo pos (Lq es X.env)).any (·.1)=false:=by rfl)(u:eval (.Call (.Attribute (.Name xn p0) m apos) (e::es) [] pos) X.env=(do
     let ov <- eval (.Name xn p0) X.env
     standAt apos.atName
     let (f,first) <- holding [ov] (getMethod ov m pl)
     callWith pos f first (backTo pos (Lq (e::es) X.env)) (backToKw pos (L8 [] X.env))):=by rfl):VE c X (.Call (.Attribute (.Name xn p0) m apos) (e::es) [] pos) (qv7 C m s [] i tr) :=
 ⟨λ Fb s σ H Q I q=>qaF4 (qp1 l r t d) n D.me G.ok p D.b .nil o.passes a.h g j u Fb s σ H Q I (qY8 qC3 G.m a (qm9 l Fb σ H s I) q),qE8 G.m a⟩
theorem qv3{pl:Sem Bool}(i:Nat){xn:Str}{p0:Pos}(D:Md X.K C m qual st f fd ps)(j:Cls X.K C)(G:G7 cm X.prog X.w X.K X.mg X.base k f fd ps s)(l:Lands X c.E)(n:M7 cm k X.A)(g:X.N[i]? = some xn:=by rfl)(d:Vis X.env.scope xn:=by first | exact Or.inl rfl | exact Or.inr (Or.inl rfl) | exact Or.inr (Or.inr rfl))(o:N' xn:=by decide)(e:(xn == ("__classdict__" : Str))=false:=by decide)(p:eval (.Call (.Attribute (.Name xn p0) m apos) [] [] pos) X.env=(do
     let ov <- eval (.Name xn p0) X.env
     standAt apos.atName
     let (f,first) <- holding [ov] (getMethod ov m pl)
     callWith pos f first (backTo pos (Lq [] X.env)) (backToKw pos (L8 [] X.env))):=by rfl):VE c X (.Call (.Attribute (.Name xn p0) m apos) [] [] pos) (qv7 C m s [] i Ay) :=
 ⟨λ Fb h σ H Q I q=>qav0 (qp1 g d o e) j D.me G.ok n D.b .nil l.passes p Fb h σ H Q I (by
   obtain⟨v,d,a,r,t,u,x,y,F2,z,A2,B,S2,F,q2⟩:=qY8 (c:=c) (X:=X) qC3 G.m Ac (qm9 g Fb σ H h I) q;exact⟨v,d,a,r,t,u,x,y,q2 [] H F2 [] A2 .nil .nil S2 S2.ok M5.refl⟩),qE8 (c:=c) G.m (X:=X) Ac⟩
def qR2(C:γ)(s:VSp)(dv:Ds)(tr:VTB):VT:=λ ds Q xe=>tr ds (λ xs ps ds1=>s (.ins false C []::(xs++dv)) (λ d ys=>d.isN=some true/\orF ys.head? λ self=>orF (Ap ps ys.tail ds1) λ a=>Q self a) (λ x ys=>orF (Ap ps ys.tail ds1) λ a=>xe x a)) xe
theorem qN3(f:Bp s)(g:VAs c X es tr):∀ ds (Q Q':DK) (xe b:XKd),(∀ d a,Q d a->Q' d a)->(∀ x a,xe x a->b x a)->qR2 C s dv tr ds Q xe->qR2 C s dv tr ds Q' b :=
 λ ds Q Q' xe b h e=>g.m _ _ _ _ _ (λ k l i=>f _ _ _ _ _ (λ d j=>And.imp_right (qa5 λ z=>qa5 λ w=>h _ _)) (λ x j=>qa5 λ z=>e _ _)) e
theorem qap6(O:J0 dvs dv)(P:Bp s)(R:VAs c X es tr):∀ σ H Q,Bd c (qR2 C s dv tr) σ H Q->tMake C (Ie s) dvs c.E (Hc c tr) σ H Q:=by
 rintro σ H Q ⟨F,U,A,V,S,x,q⟩;refine⟨F,U,A,V,S,x,R.m _ _ _ _ _ (λ W ps i q Y H1 F1 T A1 L M S1 Z s1=>?_) (λ _ _ z=>z) q⟩;intro y a o p r;have same:Same H1 (upd (upd H1 a (.own y)) y (.ins C a [])):=(Same.new p).trans (Same.new (by rw[qb4 (Ne.symm r)];exact o));have rall:Mr F1 (upd (upd H1 a (.own y)) y (.ins C a [])) (.ref y::(Y++dvs)) (.ins false C []::(W++dv)) ([y]++(T++[])) :=
   .cons (.ins qb3 rfl .nil) ((L.append (O F1 H1)).same same)
 rw[zAf] at rall;have j:Ok F1 (upd (upd H1 a (.own y)) y (.ins C a [])) ([y]++(T++A1)):=(qf3 o).ok Z (λ b f=>by
   rcases zAe.mp f with f | f
   . exact L.cells b f
   exact S1.loc.cells b f) same
 have t:Ok F1 (upd (upd H1 a (.own y)) y (.ins C a [])) ([y]++T):=j.count λ b=>by simp only[zA0];lia
 have N:M5 F H A F1 (upd (upd H1 a (.own y)) y (.ins C a [])) ([y]++(T++A1)):=s1.trans ((qf3 o).stp same);have S1':=S1.same same;refine⟨F1,_,[y]++T,rall,t,P _ _ _ _ _ (λ d ys q v H2 F2 T2 A2 r2 u w k=>?_) (λ ex ys q e H2 F2 A2 rx u w k=>?_) q⟩
 . obtain⟨hn,q⟩:=q
   have hv:v=.non:=by
     cases d with
     | non=>cases r2;rfl
     | _=>cases hn
   refine⟨hv,?_⟩;obtain⟨self,eh,q⟩:=qa7.mp q;obtain⟨l,B,D⟩:=qa7.mp q;have h:Ok F1 _ (A1++([y]++T)):=j.count λ b=>by simp only[zA0];lia
   obtain⟨G,I⟩:=k.frame h S1'.loc.cells w;have L1:Locs F2 H2 (σ++c.gv) i A1:=S1'.loc.keep (k.kp t rall.cells) λ b f g=>by
     have:=j.sep b
     simp only[zA0] at this g
     have:=qa8.mp f
     lia
   cases u with
   | @cons _ d0 Aself _ ys' B' rself rrest =>
     cases eh;obtain⟨A3,J,q2⟩:=qq7 M rrest L1 B;have g:∀ b,(Aself++A3).count b<=(A1++(T2++(Aself++B'))).count b:=λ b=>by simp only[zA0];have:=q2 b;lia
     have n:=G.count g;have K:M5 F H A F2 H2 (Aself++A3):=(N.trans (I.pre λ b=>by simp only[zA0];lia)).count g;exact D (.ref y) H2 F2 Aself A3 rself ⟨J,n.right,S.len,S.ag⟩ n K
 obtain⟨l,B,D⟩:=qa7.mp q;have h:Ok F1 _ (A1++([y]++T)):=j.count λ b=>by simp only[zA0];lia
 obtain⟨G,I⟩:=k.frame h S1'.loc.cells w;have L1:Locs F2 H2 (σ++c.gv) i A1:=S1'.loc.keep (k.kp t rall.cells) λ b f g=>by
   have:=j.sep b
   simp only[zA0] at this g
   have:=qa8.mp f
   lia
 cases u with
 | @cons _ d0 Aself _ ys' B' rself rrest =>
   obtain⟨A3,J,q2⟩:=qq7 M rrest L1 B;have g:∀ b,A3.count b<=(A1++(Aself++B')).count b:=λ b=>by simp only[zA0];have:=q2 b;lia
   have n:=G.count g;have K:M5 F H A F2 H2 A3:=(N.trans (I.pre λ b=>by simp only[zA0];lia)).count g;exact x ex l σ e H2 F2 A3 D rx ⟨J,n,S.len,S.ag⟩ K
theorem emake(i:Cl X.K X.mg x C)(M:Mk X.K C f)(D:Md X.K C m qual st f fd ps)(G:G7 cm X.prog X.w X.K X.mg X.base k f fd ps s)(j:Lands X c.E)(l:M7 cm (k+1) X.A)(a:VAs c X (e::es) tr)(n:Gl X x:=by rfl)(d:N' x:=by decide)(o:Lq (e::es) X.env=(false,eval e X.env)::Lq es X.env:=by rfl)(g:(backTo pos (Lq es X.env)).any (·.1)=false:=by rfl):VE c X (.Call (.Name x p) (e::es) [] pos) (qR2 C s [] tr) :=
 ⟨PE.mono (qap1 M G.ok l n i.m D.b .nil j.passes a.h d o g) (qap6 qC3 G.m a),qN3 G.m a⟩
theorem qaT6{ndv:List V'}(i:Cl X.K X.mg x C)(M:Mk X.K C f)(b:Binds X.K fd ps [.none])(G:G7 cm X.prog X.w X.K X.mg X.base k f fd ps s)(j:Lands X c.E)(l:M7 cm (k+1) X.A)(a:VAs c X (e::es) tr)(n:Gl X x:=by rfl)(d:N' x:=by decide)(o:Lq (e::es) X.env=(false,eval e X.env)::Lq es X.env:=by rfl)(g:(backTo pos (Lq es X.env)).any (·.1)=false:=by rfl):VE c X (.Call (.Name x p) (e::es) [] pos) (qR2 C s [.non] tr) :=
 ⟨PE.mono (qap1 M G.ok l n i.m b (dvs:=[.non]) (.cons rfl .nil) j.passes a.h d o g) (qap6 qam0 G.m a),qN3 G.m a⟩
def tLstV(tr:VTB):VT:=λ ds Q xe=>tr ds (λ xs ps ds1=>xs.length<=big/\Q (.l false xs) ds1) xe
def Jj(tr:VTB):VT:=λ ds Q xe=>tr ds (λ xs ps ds1=>xs.length<=big/\Q (.q xs) ds1) xe
theorem Iu(d:VAs c X es tr):VE c X (.List es pos) (tLstV tr):=by
 refine⟨PE.mono (qav1 d.h) λ σ H Q e=>?_,λ j Q Q' k l n o=>d.m _ _ _ _ _ (λ p r f=>And.imp_right (n _ _)) o⟩;obtain⟨F,j,A,k,S,x,q⟩:=e;refine⟨F,j,A,k,S,x,d.m _ _ _ _ _ (λ p r f q s H1 F1 T A1 g B S1 t v=>⟨by rw[g.len];exact zAn q.1 qg3,λ y i=>?_⟩) (λ _ _ z=>z) q⟩;have same:=Same.new (u:=.l s) i;have w:=(qf3 i).ok t (λ b a=>by
   rcases zAe.mp a with a | a
   . exact g.cells b a
   exact S1.loc.cells b a) same
 exact q.2 (.ref y) _ F1 (y::T) A1 (.l qb3 (g.same same)) (S1.same same) w (v.trans ((qf3 i).stp same))
theorem Iv(a:VAs c X es tr):VE c X (.Tuple es n pos) (Jj tr):=by
 refine⟨PE.mono (qaF1 a.h) λ σ H Q b=>?_,λ e Q Q' f j k l=>a.m _ _ _ _ _ (λ o p d=>And.imp_right (k _ _)) l⟩;obtain⟨F,e,A,f,S,x,q⟩:=b;refine⟨F,e,A,f,S,x,a.m _ _ _ _ _ (λ o p d q r H1 F1 T A1 g v S1 s t=>⟨by rw[g.len];exact zAn q.1 qg3,λ y i=>?_⟩) (λ _ _ z=>z) q⟩;have same:=Same.new (u:=.q r) i;exact q.2 (.ref y) _ F1 T A1 (qY5 i g) (S1.same same) (s.same same) (t.trans (.same same))
end
structure VEnds where
 nx:Ds->Prop
 rt:DK
 bk:Ds->Prop
 ct:Ds->Prop
 xe:XKd
abbrev VTS:=VEnds->Ds->Prop
structure VEnds.Le(e e':VEnds):Prop where
 nx:∀ ds,e.nx ds->e'.nx ds
 rt:∀ d ds,e.rt d ds->e'.rt d ds
 bk:∀ ds,e.bk ds->e'.bk ds
 ct:∀ ds,e.ct ds->e'.ct ds
 xe:∀ x ds,e.xe x ds->e'.xe x ds
structure Lk(c:Vc)(E:Bm)(F:γ->Prop)(H:Hp)(A:List γ)(e:VEnds):Prop where
 nx:∀ ds' σ' H' F' A',e.nx ds'->M6 c F' H' σ' ds' A'->M5 F H A F' H' A'->E.nx σ' H'
 rt:∀ d ds' v σ' H' F' T A',e.rt d ds'->M3 F' H' v d T->M6 c F' H' σ' ds' A'->Ok F' H' (T++A')->M5 F H A F' H' (T++A')->E.rt v H'
 bk:∀ ds' σ' H' F' A',e.bk ds'->M6 c F' H' σ' ds' A'->M5 F H A F' H' A'->E.bk σ' H'
 ct:∀ ds' σ' H' F' A',e.ct ds'->M6 c F' H' σ' ds' A'->M5 F H A F' H' A'->E.ct σ' H'
 xe:Xc c e.xe F H A
theorem Lk.step{c:Vc}{E:Bm}{F F1:γ->Prop}{H H1:Hp}{A A1:List γ}{e:VEnds}(l:Lk c E F H A e)(s:M5 F H A F1 H1 A1):Lk c E F1 H1 A1 e :=
 ⟨λ a σ' H' F' A' h S t=>l.nx a σ' H' F' A' h S (s.trans t),λ d a v σ' H' F' T A' h r S o t=>l.rt d a v σ' H' F' T A' h r S o (s.trans t),λ a σ' H' F' A' h S t=>l.bk a σ' H' F' A' h S (s.trans t),λ a σ' H' F' A' h S t=>l.ct a σ' H' F' A' h S (s.trans t),l.xe.step s⟩
inductive LiftS(c:Vc)(t:VTS)(E:Bm)(σ:St)(H:Hp):Prop
 | mk (F:γ->Prop) (ds:Ds) (A:List γ) (e:VEnds) (S:M6 c F H σ ds A) (l:Lk c E F H A e) (q:t e ds):LiftS c t E σ H
def Fy(c:Vc)(t:VTS):TS:=LiftS c t
structure VS(c:Vc)(X:Cx)(st:Stmt)(t:VTS):Prop where
 h:PS X st (Fy c t)
 m:∀(e e':VEnds) ds,e.Le e'->t e ds->t e' ds
structure VSs(c:Vc)(X:Cx)(st:List Stmt)(t:VTS):Prop where
 h:PSs X st (Fy c t)
 m:∀(e e':VEnds) ds,e.Le e'->t e ds->t e' ds
section
variable{c:Vc}{X:Cx}{a b e:Expr}{st:Stmt}{rest:List Stmt}{t u:VTS}{te:VT}{pos:Pos}
def Ig:VTS:=λ e ds=>e.nx ds
def G8(t u:VTS):VTS:=λ e ds=>t { e with nx:=u e } ds
theorem At:VSs c X [] Ig:=⟨PSs.mono qaD9 λ E σ H ⟨F,a,A,e,S,l,q⟩=>l.nx a σ H F A q S M5.refl,λ e b a h=>h.nx a⟩
theorem Ab(h1:VS c X st t)(h2:VSs c X rest u):VSs c X (st::rest) (G8 t u):=by
 refine⟨PSs.mono (qX1 h1.h h2.h) λ E σ H a=>?_,λ e f b h=>h1.m _ _ _ ⟨λ b=>h2.m _ _ _ h,h.rt,h.bk,h.ct,h.xe⟩⟩;obtain⟨F,b,A,e,S,l,q⟩:=a;exact⟨F,b,A,{ e with nx:=u e },S,⟨λ d σ' H' F' A' q S' s=>⟨F',d,A',e,S',l.step s,q⟩,l.rt,l.bk,l.ct,l.xe⟩,q⟩
theorem Ag(h1:VS c X st t):VSs c X [st] t:=⟨qM8 h1.h,h1.m⟩
def sRet(te:VT):VTS:=λ e ds=>te ds e.rt e.xe
theorem An(h:VE c X e te):VS c X (.Return (some e) pos) (sRet te):=by
 refine⟨PS.mono (qaE1 h.h) λ E σ H ⟨F,b,A,e,S,l,q⟩=>⟨F,b,A,e.xe,S,l.xe,h.m _ _ _ _ _ (λ d a q v H' F' T A' r S' o s=>l.rt d a v σ H' F' T A' q r S' o s) (λ _ _ z=>z) q⟩,λ e g b f=>h.m _ _ _ _ _ f.rt f.xe⟩
def K8(te:VT):VTS:=λ e ds=>te ds (λ _ a=>e.nx a) e.xe
theorem B6(h:VE c X e te)(i:swapsWith e none pos.line X.env=pure false:=by rfl):VS c X (.Expr e pos) (K8 te):=by
 refine⟨PS.mono (qaE2 h.h i) λ E σ H ⟨F,f,A,e,S,l,q⟩=>⟨F,f,A,e.xe,S,l.xe,h.m _ _ _ _ _ (λ d a q v H' F' T A' r S' o s=>l.nx a σ H' F' A' q S' (s.count λ b=>by rw[zA0];lia)) (λ _ _ z=>z) q⟩,λ e j f g=>h.m _ _ _ _ _ (λ _=>g.nx) g.xe⟩
def sIf(qc:VTT)(t u:VTS):VTS:=λ e ds=>qc ds (λ k a=>if k=true then t e a else u e a) e.xe
theorem sif{x y:List Stmt}{qc:VTT}(b:VTe c X cd qc)(g:VSs c X x t)(i:VSs c X y u):VS c X (.If cd x y pos) (sIf qc t u):=by
 refine⟨PS.mono (ps_if b.h g.h i.h) λ E σ H d=>?_,λ e n j f=>b.m _ _ _ _ _ (λ k a=>qy5 (g.m _ _ _ f) (i.m _ _ _ f)) f.xe⟩;obtain⟨F,j,A,e,S,l,q⟩:=d;refine⟨F,j,A,e.xe,S,l.xe,b.m _ _ _ _ _ (λ k a q H' F' A' S' s=>?_) (λ _ _ z=>z) q⟩;cases k with
 | true=>rw[if_pos rfl] at q ⊢;exact⟨F',a,A',e,S',l.step s,q⟩
 | false=>rw[if_neg (by decide)] at q ⊢;exact⟨F',a,A',e,S',l.step s,q⟩
def qaN8:VTS:=λ _ _=>False
theorem qo0:VS c X st qaN8:=⟨λ _ _ _ _ _ _ ⟨_,_,_,_,_,_,q⟩=>q.elim,λ _ _ _ _ q=>q.elim⟩
abbrev VTG:=D->Ds->(Ds->Prop)->Prop
inductive LiftG(c:Vc)(g:VTG)(v:V)(σ:St)(H:Hp)(Q:St->Hp->Prop):Prop
 | mk (F:γ->Prop) (ds:Ds) (A T:List γ) (d:D) (r:M3 F H v d T) (S:M6 c F H σ ds A) (o:Ok F H (T++A)) (q:g d ds (λ ds'=>∀ σ' H' F' A',M6 c F' H' σ' ds' A'->M5 F H (T++A) F' H' A'->Q σ' H')):LiftG c g v σ H Q
def Hd(c:Vc)(g:VTG):TG:=LiftG c g
structure VG(c:Vc)(X:Cx)(e:Expr)(g:VTG):Prop where
 h:PG X e (Hd c g)
 m:∀ d ds (Q Q':Ds->Prop),(∀ ds',Q ds'->Q' ds')->g d ds Q->g d ds Q'
theorem PG.mono{g g':TG}(h:PG X e g)(i:∀ v σ H Q,g' v σ H Q->g v σ H Q):PG X e g':=λ Fb s σ H v u Q I r q=>h Fb s σ H v u Q I r (i v σ H Q q)
theorem M6.store{F:γ->Prop}{H:Hp}{σ:St}{ds:Ds}{A T:List γ}{d:D}(S:M6 c F H σ ds A)(m:c.W i=false)(hi:i < σ.length)(r:M3 F H v d T)(o:Ok F H (T++A)) :
   ∃ A',M6 c F H (σ.set i (some v)) (ds.set i d) A'/\M5 F H (T++A) F H A':=by
 have n:=S.loc.len;rw[zAd] at n;obtain⟨σ1,x,σ2,e,f,A1,B,A2,p,e2,q,s,t,u,y,w⟩:=S.loc.split (i:=i) (d:=ds[i]'(by lia)) (by simp);have hσ:σ.set i (some v)++c.gv=σ1++some v::σ2:=by
   rw[<- List.set_append_left _ _ hi,p,qm4 q]
 have g:ds.set i d=e++d::f:=by
   have:=congrArg (λ l=>l.set i d) e2
   rw[this,qm4 s]
 have a:∀ b,(A1++(T++A2)).count b<=(T++A).count b:=λ b=>by rw[t];simp only[zA0];lia
 refine⟨A1++(T++A2),⟨by rw[hσ,g];exact u.append (.so r w),o.count a,?_,λ j h=>?_⟩,M5.refl.count a⟩
 . rw[S.len,zAd,zAd,List.length_set]
 have k:i≠j:=λ z=>by subst z;rw[m] at h;cases h
 rw[<- S.ag j h,<- List.set_append_left _ _ hi,zBf k]
def gNm(i:Nat):VTG:=λ d ds Q=>Q (ds.set i d)
theorem Bc(i:Nat){x:Str}(b:X.N.Nodup)(e:c.W i=false:=by rfl)(hi:X.N[i]? = some x:=by rfl)(f:Loc X.env.scope x:=by first | exact Or.inl rfl | exact Or.inr rfl)(g:X.fn x=true∨X.env.scope.names.lookup x=some .local:=by first | exact .inl rfl | exact .inr rfl | assumption):VG c X (.Name x pos) (gNm i):=by
 refine⟨λ Fb s σ H v h Q I j a=>?_,λ d k Q Q' l=>l _⟩;obtain⟨F,k,A,T,d,r,S,o,q⟩:=a;refine qap0 b hi f g Fb s σ H v h Q I j ?_;obtain⟨A',S',m⟩:=S.store e (qm9 hi Fb σ H s I) r o;exact q _ H F A' S' m
def Ft(te:VT)(g:VTG):VTS:=λ e ds=>te ds (λ d a=>g d a e.nx) e.xe
theorem qaU7{tg:Expr}{g:VTG}(h:VE c X e te)(f:VG c X tg g):∀ E σ H,Fy c (Ft te g) E σ H->Js (Bd c te) (Hd c g) E σ H:=by
 rintro E σ H ⟨F,i,A,j,S,l,q⟩;refine⟨F,i,A,j.xe,S,l.xe,h.m _ _ _ _ _ (λ d a q v H' F' T A' r S' o s=>?_) (λ _ _ z=>z) q⟩;exact⟨F',a,A',T,d,r,S',o,f.m _ _ _ _ (λ b q σ2 H2 F2 A2 S2 k=>l.nx b σ2 H2 F2 A2 q S2 (s.trans k)) q⟩
theorem qae5{tg:Expr}{g:VTG}(h:VE c X e te)(f:VG c X tg g):∀(en a:VEnds) ds,en.Le a->Ft te g en ds->Ft te g a ds:=λ en a ds b=>h.m _ _ _ _ _ (λ d i=>f.m _ _ _ _ b.nx) b.xe
theorem G9{tg:Expr}{g:VTG}(h:VE c X e te)(a:VG c X tg g)(b:swapsWithSole [tg] e pos.line X.env=pure false:=by rfl)(d:swappedStores [tg] e X.env=pure none:=by rfl)(h1:(Me [tg] X.env).map (·.2)=[assign tg X.env]:=by rfl):VS c X (.Assign [tg] e pos) (Ft te g) :=
 ⟨PS.mono (qaO4 h.h a.h b d h1) (qaU7 h a),qae5 h a⟩
theorem Ak(i:Nat){x:Str}{pos':Pos}(a:X.N.Nodup)(h:VE c X e te)(b:c.W i=false:=by rfl)(hi:X.N[i]? = some x:=by rfl)(f:Loc X.env.scope x:=by first | exact Or.inl rfl | exact Or.inr rfl)(j:swapsWith e (some (.Name x pos')) pos.line X.env=pure false:=by rfl)(g:X.fn x=true∨X.env.scope.names.lookup x=some .local:=by first | exact .inl rfl | exact .inr rfl | assumption) :
   VS c X (.Assign [.Name x pos'] e pos) (Ft te (gNm i)):=by
 have k:VG c X (.Name x pos') (gNm i):=Bc i a b hi f g;refine⟨λ Fb s σ H E I q=>qaE0 a hi f h.h j g Fb s σ H E I ?_,qae5 h k⟩;obtain⟨F,n,A,p,S,l,q⟩:=q;refine⟨F,n,A,p.xe,S,l.xe,h.m _ _ _ _ _ (λ d t q v H' F' T A' r S' o u=>?_) (λ _ _ z=>z) q⟩;obtain⟨A2,S2,w⟩:=S'.store b (qm9 hi Fb σ H s I) r o;exact l.nx _ _ H' F' A2 q S2 (u.trans w)
abbrev Ho:=Ds->Ds->(Ds->Prop)->Prop
inductive qaM6(c:Vc)(g:Ho)(vs:List V)(σ:St)(H:Hp)(Q:St->Hp->Prop):Prop
 | mk (F:γ->Prop) (ds:Ds) (A T:List γ) (xs:Ds) (r:Mr F H vs xs T) (S:M6 c F H σ ds A) (o:Ok F H (T++A)) (q:g xs ds (λ ds'=>∀ σ' H' F' A',M6 c F' H' σ' ds' A'->M5 F H (T++A) F' H' A'->Q σ' H')):qaM6 c g vs σ H Q
def qaR5(c:Vc)(g:Ho):TGs:=qaM6 c g
structure VGs(c:Vc)(X:Cx)(es:List Expr)(g:Ho):Prop where
 h:PGs X es (qaR5 c g)
 m:∀ xs ds (Q Q':Ds->Prop),(∀ ds',Q ds'->Q' ds')->g xs ds Q->g xs ds Q'
theorem PGs.mono{es:List Expr}{g g':TGs}(h:PGs X es g)(i:∀ v σ H Q,g' v σ H Q->g v σ H Q):PGs X es g':=λ Fb s σ H v u Q I r q=>h Fb s σ H v u Q I r (i v σ H Q q)
def gNilV:Ho:=λ xs ds Q=>match xs with | []=>Q ds | _=>False
def qay3(g:VTG)(b:Ho):Ho:=λ xs ds Q=>match xs with | x::r=>g x ds λ a=>b r a Q | []=>False
theorem Jk:VGs c X [] gNilV:=by
 refine⟨PGs.mono qaE9 λ f σ H Q a=>?_,λ b d Q Q' e q=>by cases b with | nil=>exact e _ q | cons _ _=>exact q.elim⟩;obtain⟨F,d,A,T,b,r,S,o,q⟩:=a;cases b with
 | nil=>cases r;exact⟨rfl,q σ H F A S M5.refl⟩
 | cons _ _=>exact q.elim
theorem qF6{tg:Expr}{es:List Expr}{g:VTG}{l:Ho}(h1:VG c X tg g)(h2:VGs c X es l)(s:(Me (tg::es) X.env).map (·.2)=assign tg X.env::(Me es X.env).map (·.2):=by rfl):VGs c X (tg::es) (qay3 g l):=by
 refine⟨PGs.mono (qau9 h1.h h2.h s) λ e σ H Q ⟨F,n,A,T,d,r,S,o,q⟩=>?_,λ d n Q Q' t q=>by
   cases d with
   | nil=>exact q.elim
   | cons x r=>exact h1.m _ _ _ _ (λ u=>h2.m _ _ _ _ t) q⟩
 cases d with
 | nil=>exact q.elim
 | cons x d =>
   cases r with
   | @cons v _ T1 e _ T2 r1 rt =>
     refine⟨v,e,rfl,F,n,A,T1,x,r1,S,o.count λ b=>by simp only[zA0];lia,h1.m _ _ _ _ (λ f q σ1 H1 F1 A1 S1 p=>?_) q⟩;have i:Ok F H (T2++(T1++A)):=o.count λ b=>by simp only[zA0];lia
     obtain⟨w,y⟩:=p.frame i rt.cells S1.ok;have j:Ok F H (T1++A):=i.right;have k:Mr F1 H1 e d T2:=rt.keep (p.kp j λ b a=>by
       rcases zAe.mp a with a | a
       . exact r1.cells b a
       exact S.loc.cells b a) λ b a C=>by
       have:=i.sep b
       rw[zA0] at this
       have:=qa8.mp a
       lia
     exact⟨F1,f,A1,T2,d,k,S1,w,h2.m _ _ _ _ (λ z q σ2 H2 F2 A2 S2 B=>q σ2 H2 F2 A2 S2 ((y.pre λ b=>by simp only[zA0];lia).trans B)) q⟩
def gTupV(n:Nat)(a:Ho):VTG:=λ d ds Q=>match d with | .q xs=>xs.length=n/\a xs ds Q | _=>False
theorem Jl{es:List Expr}{k:Nat}{e:Ho}(j:X.calm=true)(h:VGs c X es e)(l:(Me es X.env).length=n:=by rfl)(b:(Me es X.env).findIdx? (·.1)=none:=by rfl):VG c X (.Tuple es k pos) (gTupV n e):=by
 refine⟨PG.mono (qaO7 j h.h l b) λ v σ H Q ⟨F,f,A,T,d,r,S,o,q⟩=>?_,λ d f Q Q' p q=>by
   cases d with
   | q g=>exact⟨q.1,h.m _ _ _ _ p q.2⟩
   | _=>exact q.elim⟩
 cases d with
 | q g =>
   obtain⟨a,s,rfl,t,i⟩:=r.tup_inv;exact⟨a,s,rfl,.inl (.inl t),by rw[i.len];exact q.1,F,f,A,T,g,i,S,o,q.2⟩
 | _=>exact q.elim
end
section
variable{c:Vc}{F:γ->Prop}{H:Hp}{σ:St}{ds:Ds}{A T:List γ}
theorem qG9{a:γ}{o o':HO}(h:H a=some o)(hm:Fw o=true)(c:¬ F a):Kp F H (λ b=>b=a) F (upd H a o') :=
 ⟨λ b u e w=>by rw[qb4 w];exact e,λ b w=>by subst w;exact⟨o,h,hm⟩,λ b w=>by subst w;exact c,λ _ f=>f⟩
theorem Mr.setAt{ys:List D}{Ael Tv:List γ}{d:D}(r:Mr F H vs ys Ael)(s:n < ys.length)(e:M3 F H v d Tv):∃ B,Mr F H (vs.set n v) (ys.set n d) B/\∀ b,B.count b<=Ael.count b+Tv.count b:=by
 obtain⟨f,w,g,a,c,A1,B,A2,h,e2,j,k,m,o,t,p⟩:=r.split (i:=n) (d:=ys[n]) (by simp);have q:ys.set n d=a++d::c:=by
   have:=congrArg (λ l=>l.set n d) e2
   rw[this,qm4 k]
 rw[h,qm4 j,q];exact⟨A1++(Tv++A2),o.append (.cons e p),λ b=>by rw[m];simp only[zA0];lia⟩
theorem qx4{ys:List D}{B:List γ}(r:M3 F H v (.l false ys) B):∃ a vs Ael,v=.ref a/\H a=some (.l vs)/\Mr F H vs ys Ael/\B=a::Ael:=by
 cases r with
 | l h r=>exact⟨_,_,_,rfl,h,r,rfl⟩
theorem qk3{p:List Nat}{ys:List D}{u:V}(S:M6 c F H σ ds A)(h:A5 ds i p=some (.l false ys))(J:(σ++c.gv)[i]? = some (some u))(K:Walk H u p w) :
   ∃(a:γ)(vs:List V)(Ael:List γ),w=.ref a/\H a=some (.l vs)/\Mr F H vs ys Ael /\
   ∀(g:List V)(m:List D)(B' R T:List γ),Ok F H (T++A)->Mr F H g m B'->(∀ b,B'.count b+R.count b<=Ael.count b+T.count b) ->
     (∃ A',M6 c F (upd H a (.l g)) σ (Bb ds i p (.l false m)) A'/\Ok F (upd H a (.l g)) (R++A')/\M5 F H (T++A) F (upd H a (.l g)) (R++A'))/\∀ v d,M3 F H v d R->M3 F (upd H a (.l g)) v d R:=by
 obtain⟨B,C,r,L,M⟩:=S.place h (by intro z;cases z) J K;obtain⟨a,vs,Ael,rfl,y,N,rfl⟩:=qx4 r;refine⟨a,vs,Ael,rfl,y,N,λ g m B' R T q O E=>?_⟩;have n:∀ b,A.count b=(if b=a then 1 else 0)+Ael.count b+C.count b:=λ b=>by
   rw[L,zAo];by_cases j:b=a
   . subst j;simp;lia
   simp[j,Ne.symm j]
 have s:=n a;rw[if_pos rfl] at s;have P:=q.sep a;rw[zA0] at P;have Q:=E a;have G:¬ F a:=λ f=>by have:=q.fro a f;rw[zA0] at this;lia
 have k:=qG9 (F:=F) (o':=.l g) y rfl G;have rep':M3 F (upd H a (.l g)) (.ref a) (.l false m) (a::B'):=.l qb3 (O.keep k λ b j w=>by subst w;have:=qa8.mp j;lia);obtain⟨A',U,q2⟩:=M _ _ k (λ b j w=>by subst w;have:=qa8.mp j;lia) rep';have t:∀ b,A'.count b=(if b=a then 1 else 0)+B'.count b+C.count b:=λ b=>by
   rw[q2,zAo];by_cases j:b=a
   . subst j;simp;lia
   simp[j,Ne.symm j]
 have l:∀ b,(R++A').count b<=(T++A).count b:=λ b=>by rw[zA0,zA0,t,n];have:=E b;lia
 have W:∀ b,F b->∃ o,upd H a (.l g) b=some o:=λ b f=>by
   obtain⟨x,e⟩:=q.ex b f;exact⟨x,by rw[qb4 (show b≠a from λ w=>G (w ▸ f))];exact e⟩
 have I:Ok F (upd H a (.l g)) (R++A'):=⟨λ b=>zAn (l b) (q.sep b),λ b f=>by have:=q.fro b f;have:=l b;lia,W⟩
 refine⟨⟨A',⟨U,I.right,S.len,S.ag⟩,I,λ b u e z=>?_,λ b u e z=>by have:=l b;lia,λ _ f=>f,λ _ _ _ _ f=>f⟩,λ v d X=>X.keep k λ b j w=>by subst w;have:=qa8.mp j;lia⟩;rw[qb4 λ w=>?_]
 . exact e
 subst w;have:=n b;rw[if_pos rfl] at this;rw[zA0] at z;lia
def J1(r:V->List V->Hp->VK->Prop)(g:Ds->Ds->Option (Ds×D)):Prop:=∀ F H a vs ys Ael f xs T c d (Q:VK),H a=some (.l vs)->Mr F H vs ys Ael->Mr F H f xs T->g ys xs=some (c,d) ->
 (∀ e v B' R,Mr F H e c B'->M3 F H v d R->(∀ b,B'.count b+R.count b<=Ael.count b+T.count b)->Q v (upd H a (.l e)))->r (.ref a) f H Q
def Hq(ys xs:Ds):Option (Ds×D):=match xs with
 | [x]=>if ys.length < big then some (ys++[x],.non) else none
 | _=>none
theorem qx2:J1 qao5 Hq:=by
 intro F H a i c Ael m j T e d Q k r l h q
 match j,h with
 | [x],h =>
   obtain⟨w,rfl,f⟩:=l.one_inv;have h:(if c.length < big then some (c++[x],D.non) else none)=some (e,d):=h;by_cases g:c.length < big
   . rw[if_pos g] at h
     cases h;refine⟨a,i,w,rfl,rfl,k,by rw[r.len];exact zAb g qg3,?_⟩;exact q _ .non (Ael++(T++[])) [] (r.append (.cons f .nil)) .non λ b=>by simp[zA0]
   rw[if_neg g] at h;cases h
def gIns(ys xs:Ds):Option (Ds×D):=match xs with
 | [.int i,x]=>if 0<=i/\i < 1000000/\ys.length < big then some (ys.take i.toNat++x::ys.drop i.toNat,.non) else none
 | _=>none
theorem Mr.cut{ys:Ds}{Ael:List γ}(r:Mr F H vs ys Ael)(n:Nat):∃ B C,Mr F H (vs.take n) (ys.take n) B/\Mr F H (vs.drop n) (ys.drop n) C/\∀ b,Ael.count b=B.count b+C.count b:=by
 induction n generalizing vs ys Ael with
 | zero=>exact⟨[],Ael,.nil,r,λ b=>by simp⟩
 | succ n a =>
   cases r with
   | nil=>exact⟨[],[],.nil,.nil,λ b=>by simp⟩
   | cons h t =>
     obtain⟨B,C,c,q2,d⟩:=a t;exact⟨_++B,C,.cons h c,q2,λ b=>by simp only[zA0,d];lia⟩
theorem qaQ9:J1 qao4 gIns:=by
 intro F H a g c Ael t u T f d Q j r k h q;unfold gIns at h;split at h
 . rename_i i x
   obtain⟨v,l,T1,T2,rfl,m,n,o⟩:=k.two_inv;cases m;have h:(if 0<=i/\i < 1000000/\c.length < big then some (c.take i.toNat++x::c.drop i.toNat,D.non) else none)=some (f,d):=h;by_cases e:0<=i/\i < 1000000/\c.length < big
   . rw[if_pos e] at h
     cases h;obtain⟨B,C,p,q2,s⟩:=r.cut i.toNat;refine⟨a,g,l,i,rfl,rfl,j,e.1,by lia,by rw[r.len];exact zAb e.2.2 qg3,?_⟩;exact q _ .non (B++(T2++C)) [] (p.append (.cons n q2)) .non λ b=>by simp only[zA0,List.count_nil];have:=s b;have:=o b;lia
   rw[if_neg e] at h;cases h
 cases h
end
section
variable{c:Vc}{X:Cx}{a b e o:Expr}{pf:PF}{tr:VTB}{es:List Expr}{r:V->List V->Hp->VK->Prop}{g:Ds->Ds->Option (Ds×D)}
noncomputable def D.own:D->Option Ds
 | .l false ys=>some ys
 | _=>none
theorem qX8{d:D}{ys:Ds}(h:d.own=some ys):d=.l false ys:=by
 cases d with
 | l z a=>cases z with
   | false=>cases h;rfl
   | true=>cases h
 | _=>cases h
def Gg(g:Ds->Ds->Option (Ds×D))(i:Nat)(tr:VTB):VT:=λ ds Q xe=>((rdN i ds).bind D.own).isSome=true/\tr ds (λ xs _ ds1=>orF ((rdN i ds1).bind D.own) λ ys=>orF (g ys xs) λ z=>Q z.2 (ds1.set i (.l false z.1))) xe
theorem qC0{ds:Ds}{d:D}(h:ds[i]? = some d):A5 ds i []=some d:=by unfold A5;rw[h];rfl
theorem qz7{ds:Ds}{d x:D}(h:ds[i]? = some d):Bb ds i [] x=ds.set i x:=by unfold Bb;rw[h];rfl
theorem qaI0{T:String}(t:T = "list"){σ:St}{H:Hp}(hm:J1 r g)(u:VAs c X es tr)(hi:i < σ.length)(q:Bd c (Gg g i tr) σ H Q):tBM X.K T r (Hl i) (Hc c tr) σ H Q:=by
 subst t;obtain⟨F,y,A,B,S,x,C,q⟩:=q;obtain⟨D,b⟩:=zB5.mp C;obtain⟨d0,E,f⟩:=zA1.mp b;cases qX8 f;obtain⟨v,B0,o,G,_⟩:=S.name hi E;obtain⟨a,h,A0,rfl,j,_,_⟩:=G.lst_inv;refine⟨.ref a,o,.inl ⟨rfl,h,.inl (.inl j)⟩,F,y,A,B,S,x,u.m _ _ _ _ _ (λ I ps J q L H1 F1 T A1 M pk S1 N O=>?_) (λ _ _ z=>z) q⟩;obtain⟨P,U,q⟩:=qa7.mp q;obtain⟨d1,e2,V⟩:=zA1.mp U;cases qX8 V;obtain⟨⟨e,d⟩,W,q⟩:=qa7.mp q;obtain⟨s,hk⟩:=qj3.mp e2;have Y:(σ++c.gv)[i]? = some (some (.ref a)):=by rw[zAt hi];exact o
 obtain⟨a2,k,Ael,Z,l,rs,wr⟩:=qk3 S1 (qC0 s) Y (p:=[]) (w:=.ref a) rfl;cases Z;refine hm F1 H1 a k P Ael L I T e d Q l rs M W λ n v B' R h1 h2 h3=>?_
 obtain⟨⟨A',S2,o2,s2⟩,kr⟩:=wr n e B' R T N h1 h3;rw[qz7 s] at S2;exact q v _ F1 R A' (kr v d h2) S2 o2 (O.trans s2)
theorem qaj2(e:VAs c X es tr):∀ ds (Q Q':DK) (xe b:XKd),(∀ d a,Q d a->Q' d a)->(∀ x a,xe x a->b x a)->Gg g i tr ds Q xe->Gg g i tr ds Q' b :=
 λ ds Q Q' xe b f h=>And.imp_right (e.m _ _ _ _ _ (λ k l j=>qa5 λ y=>qa5 λ z=>f _ _) h)
theorem qaf3{F F':γ->Prop}{H H':Hp}{W:γ->Prop}(k:Kp F H W F' H'):∀{p:List Nat}{f:V}{d0 d:D}{B:List γ}{w o:V},(∀ b∈B,¬ W b)->M3 F H f d0 B->d0.getP p=some d->Walk H f p w->Walk H' f p o->o=w:=by
 intro p
 induction p with
 | nil=>intro f d0 d B w o _ _ _ h s;cases h;cases s;rfl
 | cons n p A =>
   intro f d0 d B w o g r i h s;unfold D.getP at i;cases j:d0.kids[n]? with
   | none=>rw[j] at i;cases i
   | some e =>
     rw[j] at i;obtain⟨x,E,G⟩:=h;obtain⟨L,t,u⟩:=s;obtain⟨y,B1,C1,z,I,J,_⟩:=r.kid j;obtain⟨M,B1',C1',l,_,_,_⟩:=(r.keep k g).kid j;cases E.fn z;cases t.fn l;have v:Lnk H' f n x:=by
       obtain⟨a,rfl,q⟩:=z;refine⟨a,rfl,?_⟩;cases r with
       | q c _ =>
         rcases q with⟨vs,e,h⟩ | ⟨vs,e,h⟩ | ⟨vs,e,h⟩ | ⟨C,dx,vs,e,h⟩
         . exact .inl ⟨vs,k.q e,h⟩
         . rw[c] at e;cases e
         . rw[c] at e;cases e
         rw[c] at e;cases e
       | l c _ =>
         have m:=k.fr _ _ c (g _ zAc);rcases q with⟨vs,e,h⟩ | ⟨vs,e,h⟩ | ⟨vs,e,h⟩ | ⟨C,dx,vs,e,h⟩
         . rw[c] at e;cases e
         . rw[c] at e;cases e;exact .inr (.inl ⟨_,m,h⟩)
         . rw[c] at e;cases e
         rw[c] at e;cases e
       | dct c _ _ =>
         have m:=k.fr _ _ c (g _ zAc);rcases q with⟨vs,e,h⟩ | ⟨vs,e,h⟩ | ⟨vs,e,h⟩ | ⟨C,dx,vs,e,h⟩
         . rw[c] at e;cases e
         . rw[c] at e;cases e
         . rw[c] at e;cases e;exact .inr (.inr (.inl ⟨_,m,h⟩))
         rw[c] at e;cases e
       | ins c _ _ =>
         have m:=k.fr _ _ c (g _ zAc);rcases q with⟨vs,e,h⟩ | ⟨vs,e,h⟩ | ⟨vs,e,h⟩ | ⟨C,dx,vs,e,h⟩
         . rw[c] at e;cases e
         . rw[c] at e;cases e
         . rw[c] at e;cases e
         rw[c] at e;cases e;exact .inr (.inr (.inr ⟨_,_,_,m,h⟩))
       | _=>cases (show (none:Option D)=some _ from j)
     cases v.fn l;exact A (B:=B1) (λ b K=>g b (qa8.mpr (by have:=J b;have:=qa8.mp K;lia))) I i G u
def He(g:Ds->Ds->Option (Ds×D))(pf:PF)(tr:VTB):VT:=λ ds Q xe=>orF (pf ds) λ q=>orF ((A5 ds q.1 q.2).bind D.own) λ ys=>orF ds[q.1]? λ a=>tr (ds.set q.1 .u) (λ xs _ ds1=>orF (g ys xs) λ z=>Q z.2 (Bb (ds1.set q.1 a) q.1 q.2 (.l false z.1))) xe
theorem qaj1(e:VAs c X es tr):∀ ds (Q Q':DK) (xe b:XKd),(∀ d a,Q d a->Q' d a)->(∀ x a,xe x a->b x a)->He g pf tr ds Q xe->He g pf tr ds Q' b :=
 λ ds Q Q' xe b f h=>qa5 λ q=>qa5 λ j=>qa5 λ k=>e.m _ _ _ _ _ (λ l n i=>qa5 λ z=>f _ _) h
theorem qaH8(hm:J1 r g)(ha:VAs c X es tr):∀ σ H Q,Bd c (He g pf tr) σ H Q->tBM X.K "list" r (Ji c pf) (Hc c tr) σ H Q:=by
 rintro σ H Q ⟨F,Y,A,xe,S,x,q⟩;obtain⟨⟨i,p⟩,e1,q⟩:=qa7.mp q;obtain⟨n,e2,q⟩:=qa7.mp q;obtain⟨dl,h,e4⟩:=zA1.mp e2;cases qX8 e4;obtain⟨I,l,q⟩:=qa7.mp q;refine⟨F,Y,A,i,p,_,S,e1,h,D.noConfusion,λ u w H1 s Z s0=>?_⟩;have S0:=S.same s0;obtain⟨a,L,Ael0,rfl,M,a0,_⟩:=qk3 S0 h s Z;refine⟨.inl ⟨rfl,L,.inl (.inl M)⟩,?_⟩;have N:I≠.u:=λ z=>by
   subst z;have j:=h;unfold A5 at j;rw[l] at j;cases (qac2 j).2
 obtain⟨u',B,C,h1,J,h3,h4⟩:=S0.put1 l N;rw[s] at h1;cases h1;obtain⟨A1,q1,q2⟩:=h4 .u [] (Kp.same (F:=F) λ _ _ z=>z) (λ _ _ z=>z) (.u u);have O:Ok F H1 (B++A1):=S0.ok.count λ b=>by rw[zA0,q2,h3];simp
 have s1:M5 F H A F H1 (B++A1):=⟨λ b o e _=>s0 b o e,λ b o e z=>by rw[zA0,q2];have:=h3 b;simp;lia,λ _ f=>f,λ _ _ _ _ f=>f⟩
 have S1:M6 c F H1 σ (Y.set i .u) A1:=⟨q1,O.right,S.len,S.ag⟩
 have P:M5 F H A F H1 A1:=s1.count λ b=>by rw[zA0];lia
 refine⟨F,_,A1,xe,S1,x.step P,ha.m _ _ _ _ _ (λ xs ps k q vs H2 F2 T2 A2 r2 pk S2 o2 s2=>?_) (λ _ _ z=>z) q⟩;obtain⟨⟨t,d⟩,e7,q⟩:=qa7.mp q;have kp:=s2.kp S1.ok S1.loc.cells;have hBout:∀ b∈B,¬ (A1.count b≠0):=λ b hb hc=>by
   have:=O.sep b
   rw[zA0] at this
   have:=qa8.mp hb
   lia
 have y:M3 F2 H2 u I B:=J.keep kp hBout;obtain⟨o3,s3⟩:=s2.frame O J.cells o2;obtain⟨A3,k1,k2⟩:=qz6 S2.loc s y;have E:∀ b,A3.count b<=B.count b+A2.count b:=k2;have o4:Ok F2 H2 (T2++A3):=o3.count λ b=>by simp only[zA0];have:=E b;lia
 have s4:M5 F H A F2 H2 (T2++A3):=(s1.trans s3).count λ b=>by simp only[zA0];have:=E b;lia
 have S3:M6 c F2 H2 σ (k.set i I) A3:=⟨k1,o4.right,S.len,S.ag⟩
 have G:i < k.length:=by rw[<- S2.loc.len];exact(zA6.mp s).1
 have e8:A5 (k.set i I) i p=some (.l false n):=by
   unfold A5 at h ⊢;rw[l] at h;rw[zBw G];exact h
 have T:Walk H2 u p (.ref a):=by
   obtain⟨w',_,_,w1,_,_,_⟩:=J.path (p:=p) (d:=.l false n) (by unfold A5 at h;rw[l] at h;exact h);cases Z.fn w1;obtain⟨w2,_,_,w3,_,_,_⟩:=y.path (p:=p) (d:=.l false n) (by unfold A5 at h;rw[l] at h;exact h)
   have:w2=.ref a:=by
     refine qaf3 (d:=.l false n) kp hBout J ?_ w1 w3;unfold A5 at h;rw[l] at h;exact h
   rw[<- this];exact w3
 obtain⟨a2,U,Ael,ea,V,rs,wr⟩:=qk3 S3 e8 s T;cases ea;refine hm F2 H2 a U n Ael vs xs T2 t d Q V rs r2 e7 λ W v B' R z1 z2 z3=>?_
 obtain⟨⟨A',S4,o5,s5⟩,kr⟩:=wr W t B' R T2 o4 z1 z3;exact q v _ F2 R A' (kr v d z2) S4 o5 (s4.trans s5)
end
section
variable{c:Vc}{X:Cx}{a b e o:Expr}{pos cpos apos:Pos}{pf:PF}{tr:VTB}{es:List Expr}{fb:FV}{ob:Bool}{r:V->List V->Hp->VK->Prop}{g:Ds->Ds->Option (Ds×D)}{name:Str}{id:String}
theorem Fq(i:Nat){x:Str}{p0:Pos}(k:J1 r g)(l:PlainAttrs "list")(slot:Slot "list" name id)(b:typeOf (.builtin id)=pure (.type "method_descriptor"))(hm:MtM X id r)(d:VAs c X (e::es) tr)(j:X.N[i]? = some x:=by rfl)(m:Vis X.env.scope x:=by first | exact Or.inl rfl | exact Or.inr (Or.inl rfl) | exact Or.inr (Or.inr rfl))(n:N' x:=by decide)(f:(x == ("__classdict__" : Str))=false:=by decide)(hbase:Ly (.Name x p0) name X.env (eval (.Name x p0) X.env)=eval (.Name x p0) X.env:=by rfl)(a:((backTo cpos (Lq (e::es) X.env)).all (λ x=>!x.1)&&(backToKw cpos (L8 [] X.env)).all (λ x=>x.1.isSome)
     && decide ((e::es).length+([]:List Keyword).length+(if ([]:List Keyword).isEmpty then 0 else 1) < 30))=true:=by rfl)(hline:(apos.endLine == cpos.line)=true:=by rfl)(o:Lq (e::es) X.env=(false,eval e X.env)::Lq es X.env:=by rfl)(hplain:(backTo cpos (Lq es X.env)).any (·.1)=false:=by rfl) :
   VE c X (.Call (.Attribute (.Name x p0) name apos) (e::es) [] cpos) (Gg g i tr) :=
 ⟨λ Fb s σ H Q I q=>Kl l slot b hm (qp1 j m n f) d.h hbase a hline o hplain Fb s σ H Q I (qaI0 rfl k d (qm9 j Fb σ H s I) q),qaj2 d⟩
theorem emutP(f:J1 r g)(i:PlainAttrs "list")(slot:Slot "list" name id)(b:typeOf (.builtin id)=pure (.type "method_descriptor"))(hm:MtM X id r)(j:VP c X o pf)(d:VAs c X (e::es) tr)(hbase:Ly o name X.env (eval o X.env)=eval o X.env:=by rfl)(a:((backTo cpos (Lq (e::es) X.env)).all (λ x=>!x.1)&&(backToKw cpos (L8 [] X.env)).all (λ x=>x.1.isSome)
     && decide ((e::es).length+([]:List Keyword).length+(if ([]:List Keyword).isEmpty then 0 else 1) < 30))=true:=by rfl)(hline:(apos.endLine == cpos.line)=true:=by rfl)(k:Lq (e::es) X.env=(false,eval e X.env)::Lq es X.env:=by rfl)(hplain:(backTo cpos (Lq es X.env)).any (·.1)=false:=by rfl) :
   VE c X (.Call (.Attribute o name apos) (e::es) [] cpos) (He g pf tr) :=
 ⟨PE.mono (Kl i slot b hm j.h d.h hbase a hline k hplain) (qaH8 f d),qaj1 d⟩
def Gx(pf:PF)(fb:FV):VTG:=λ d ds Q=>orF (pf ds) λ q=>orF ((A5 ds q.1 q.2).bind D.own) λ ys=>orF ((fb ds).bind D.asI) λ k=>orF (ixN ys.length k) λ n=>Q (Bb ds q.1 q.2 (.l false (ys.set n d)))
theorem Gh(y:VP c X o pf)(hi:VV c X b ob fb)(f:∀ v,assign (.Subscript o b pos) X.env v=(do
     let ov <- holding [v] (eval o X.env)
     let iv <- holding [v,ov] (eval b X.env)
     standAt pos
     holding [v,ov,iv] (setItem ov iv v)
     release [v,ov,iv] []):=by intro _;rfl):VG c X (.Subscript o b pos) (Gx pf fb):=by
 refine⟨PG.mono (qaO8 y.h hi.h qW1 f) λ v σ H Q g=>?_,λ d j Q Q' z=>qa5 λ _=>qa5 λ _=>qa5 λ _=>qa5 λ _=>z _⟩;obtain⟨F,j,A,T,d,r,S,B,q⟩:=g;obtain⟨⟨i,p⟩,C,q⟩:=qa7.mp q;obtain⟨E,e2,q⟩:=qa7.mp q;obtain⟨Y,l,G⟩:=zA1.mp e2;cases qX8 G;obtain⟨k,I,q⟩:=qa7.mp q;obtain⟨J,K,L⟩:=zA1.mp I;obtain⟨n,m,q⟩:=qa7.mp q;refine⟨F,j,A,i,p,_,S,C,l,D.noConfusion,λ u w H1 M N s=>⟨F,j,A,J,S.same s,K,λ Z H2 B2 O t _=>?_⟩⟩;have e:=s.trans t;have S2:=S.same e;cases O.asI L;obtain⟨a,P,Ael,rfl,f,x,wr⟩:=qk3 S2 l M (N.same t);have R:n < E.length:=(qaa7 m).2.1;obtain⟨B',U,V⟩:=x.setAt R (r.same e);obtain⟨⟨A',S3,o3,W⟩,_⟩:=wr _ _ B' [] T (B.same e) U λ b=>by have:=V b;simp;lia
 exact⟨a,P,k,n,rfl,rfl,f,by rw[x.len];exact m,q σ _ F A' S3 ((M5.same e).trans W)⟩
def sAugV(f:Int->Int->Int)(pf:PF)(fb a:FV):VTS:=λ e ds=>orF (pf ds) λ q=>orF ((A5 ds q.1 q.2).bind D.own) λ ys=>orF ((fb ds).bind D.asI) λ k=>0<=k/\orF ((ys[k.toNat]?).bind D.asI) λ x=>orF ((a ds).bind D.asI) λ y=>e.nx (Bb ds q.1 q.2 (.l false (ys.set k.toNat (.int (f x y)))))
theorem saug{op:Operator}{f:Int->Int->Int}{N:FV}{oe:Bool}{tpos:Pos}(V:VP c X o pf)(hi:VV c X b ob fb)(W:VV c X e oe N)(Y:PIp X op (ipI f))(Z:∀ n r d,augStore b n r d=(do holding [d,n,r] (setItem n r d);release [d,n,r] [];pure .next):=by intros;rfl):VS c X (.AugAssign (.Subscript o b tpos) op e pos) (sAugV f pf fb N):=by
 refine⟨PS.mono (qaE4 V.h hi.h qay2 W.h Y qW1 Z) λ E σ H t=>?_,λ en a0 s hl=>qa5 λ _=>qa5 λ _=>qa5 λ _=>And.imp_right (qa5 λ _=>qa5 λ _=>hl.nx _)⟩;obtain⟨F,s,A,en,S,l,q⟩:=t;obtain⟨⟨i,p⟩,e1,q⟩:=qa7.mp q;obtain⟨ys,e2,q⟩:=qa7.mp q;obtain⟨dl,v,e4⟩:=zA1.mp e2;cases qX8 e4;obtain⟨k,e5,O,q⟩:=qa7.mp q;obtain⟨dk,e6,e7⟩:=zA1.mp e5;obtain⟨x,e8,q⟩:=qa7.mp q;obtain⟨dx,P,z⟩:=zA1.mp e8;obtain⟨y,B,q⟩:=qa7.mp q;obtain⟨dy,C,G⟩:=zA1.mp B;refine⟨F,s,A,i,p,_,S,e1,v,D.noConfusion,λ u w H1 Q R T=>⟨F,s,A,dk,S.same T,e6,λ vk H2 B2 r2 I _=>?_⟩⟩;have g:=T.trans I;cases r2.asI e7;obtain⟨a,vs,Ael,rfl,J,K,_⟩:=qk3 (S.same g) v Q (R.same I);obtain⟨vx,Bx,hx,rx,_⟩:=K.get P;cases rx.asI z;refine⟨a,vs,k,_,rfl,rfl,J,O,hx,F,s,A,dy,S.same g,C,λ vy H3 B3 r3 U _=>?_⟩;cases r3.asI G;have j:=g.trans U;have S3:=S.same j;obtain⟨a',L,Ael',ea,M,m,wr⟩:=qk3 S3 v Q ((R.same I).same U);cases ea;have hn:k.toNat < ys.length:=(zA6.mp P).1;obtain⟨B',r4,h4⟩:=m.setAt hn (.int (f x y));obtain⟨⟨A',S4,o4,s4⟩,_⟩:=wr _ _ B' [] [] S3.ok r4 λ b=>by have:=h4 b;simpa using this
 refine⟨x,y,rfl,rfl,a,L,k,k.toNat,rfl,rfl,M,?_,l.nx _ σ _ F A' q S4 ((M5.same j).trans s4)⟩;rw[m.len];unfold ixN;rw[if_pos O,if_pos (by lia)]
noncomputable def Gy(f:Str)(d:D):List (Str×D)->List (Str×D)
 | []=>[(f,d)]
 | (g,x)::r=>if g=f then (g,d)::r else (g,x)::Gy f d r
end
section
variable{c:Vc}{X:Cx}{F:γ->Prop}{H:Hp}{σ:St}{ds:Ds}{A T:List γ}{a b e o:Expr}{pos cpos apos:Pos}{te:VT}{pf:PF}{fa fb:FV}{oa ob:Bool}
theorem qM7:∀{a:List (Str×V)}{c:List (Str×D)}{B Tv:List γ}{f:Str}{v:V}{d:D},a.map (·.1)=c.map (·.1)->Mr F H (a.map (·.2)) (c.map (·.2)) B->M3 F H v d Tv->(Bj f v a).map (·.1)=(Gy f d c).map (·.1)/\∃ B',Mr F H ((Bj f v a).map (·.2)) ((Gy f d c).map (·.2)) B'/\∀ b,B'.count b<=B.count b+Tv.count b
 | [],[],B,Tv,f,v,d,_,r,rv=>⟨rfl,Tv++[],.cons rv .nil,λ b=>by simp⟩
 | [],_::_,_,_,_,_,_,h,_,_=>by simp at h
 | _::_,[],_,_,_,_,_,h,_,_=>by simp at h
 | (k,w)::r,(k',x)::r',B,Tv,f,v,d,h,rs,rv=>by
   have i:k=k':=by simp at h;exact h.1
   have e:r.map (·.1)=r'.map (·.1):=by simp at h;simpa using h.2
   subst i;cases rs with
   | @cons _ _ B1 _ _ B2 q t =>
     by_cases g:k=f
     . simp only[Bj,Gy,if_pos g,zAx,e,true_and]
       exact⟨Tv++B2,.cons rv t,λ b=>by simp only[zA0];lia⟩
     obtain⟨j,B',l,m⟩:=qM7 (f:=f) e t rv;simp only[Bj,Gy,if_neg g,zAx,j,true_and];exact⟨B1++B',.cons q l,λ b=>by simp only[zA0];have:=m b;lia⟩
def D.ownI(C:γ):D->Option (List (Str×D))
 | .ins false C' fs=>if C'=C then some fs else none
 | _=>none
theorem qaG5{d:D}{C:γ}{fs:List (Str×D)}(h:d.ownI C=some fs):d=.ins false C fs:=by
 cases d with
 | ins z C' b=>cases z with
   | false =>
     have h:(if C'=C then some b else none)=some fs:=h;by_cases a:C'=C
     . rw[if_pos a] at h;cases h;rw[a]
     rw[if_neg a] at h;cases h
   | true=>cases h
 | _=>cases h
theorem qaG4{p:List Nat}{C:γ}{l:List (Str×D)}{u:V}(S:M6 c F H σ ds A)(h:A5 ds i p=some (.ins false C l))(E:(σ++c.gv)[i]? = some (some u))(G:Walk H u p w) :
   ∃(a dx:γ)(d:List (Str×V))(Ael:List γ),w=.ref a/\H a=some (.ins C dx d)/\d.map (·.1)=l.map (·.1)/\Mr F H (d.map (·.2)) (l.map (·.2)) Ael /\
   ∀(fvs':List (Str×V))(fds':List (Str×D))(B' T:List γ),Ok F H (T++A)->fvs'.map (·.1)=fds'.map (·.1)->Mr F H (fvs'.map (·.2)) (fds'.map (·.2)) B'->(∀ b,B'.count b<=Ael.count b+T.count b) ->
     ∃ A',M6 c F (upd H a (.ins C dx fvs')) σ (Bb ds i p (.ins false C fds')) A'/\M5 F H (T++A) F (upd H a (.ins C dx fvs')) A':=by
 obtain⟨B,C0,r,I,J⟩:=S.place h D.noConfusion E G;cases r with
 | @ins a _ dx d _ Ael ha hk rs =>
 refine⟨a,dx,d,Ael,rfl,ha,hk,rs,λ fvs' fds' B' T n q K v=>?_⟩;have m:∀ b,A.count b=(if b=a then 1 else 0)+Ael.count b+C0.count b:=λ b=>by
   rw[I,zAo];by_cases g:b=a
   . subst g;simp;lia
   simp[g,Ne.symm g]
 have s:=m a;rw[if_pos rfl] at s;have L:=n.sep a;rw[zA0] at L;have M:=v a;have y:¬ F a:=λ f=>by have:=n.fro a f;rw[zA0] at this;lia
 have k:=qG9 (F:=F) (o':=.ins C dx fvs') ha rfl y;have rep':M3 F (upd H a (.ins C dx fvs')) (.ref a) (.ins false C fds') (a::B'):=.ins qb3 q (K.keep k λ b g w=>by subst w;have:=qa8.mp g;lia);obtain⟨A',N,q2⟩:=J _ _ k (λ b g w=>by subst w;have:=qa8.mp g;lia) rep';have t:∀ b,A'.count b=(if b=a then 1 else 0)+B'.count b+C0.count b:=λ b=>by
   rw[q2,zAo];by_cases g:b=a
   . subst g;simp;lia
   simp[g,Ne.symm g]
 have j:∀ b,A'.count b<=(T++A).count b:=λ b=>by rw[zA0,t,m];have:=v b;lia
 have O:∀ b,F b->∃ o,upd H a (.ins C dx fvs') b=some o:=λ b f=>by
   obtain⟨x,e⟩:=n.ex b f;exact⟨x,by rw[qb4 (show b≠a from λ w=>y (w ▸ f))];exact e⟩
 refine⟨A',⟨N,⟨λ b=>zAn (j b) (n.sep b),λ b f=>by have:=n.fro b f;have:=j b;lia,O⟩,S.len,S.ag⟩,λ b u e z=>?_,λ b u e z=>by have:=j b;lia,λ _ f=>f,λ _ _ _ _ f=>f⟩;rw[qb4 λ w=>?_]
 . exact e
 subst w;have:=m b;rw[if_pos rfl] at this;rw[zA0] at z;lia
def sFldV(C:γ)(f:Str)(te:VT)(pf:PF):VTS:=λ e ds=>te ds (λ d ds1=>orF (pf ds1) λ q=>orF ((A5 ds1 q.1 q.2).bind (D.ownI C)) λ fs=>fs.length < 100/\e.nx (Bb ds1 q.1 q.2 (.ins false C (Gy f d fs)))) e.xe
theorem Iw{C:γ}{f:Str}{K:W.Frag}{pos':Pos}(G:X.K=K)(I:VP c X o pf)(k:VE c X e te)(J:Cls K C)(L:qc8 K C f)(M:swapsWith e (some (.Attribute o f pos')) pos.line X.env=pure false:=by rfl):VS c X (.Assign [.Attribute o f pos'] e pos) (sFldV C f te pf):=by
 subst G;refine⟨PS.mono (qaO3 I.h k.h M) λ E σ H n=>?_,λ s N t r=>k.m _ _ _ _ _ (λ d b=>qa5 λ _=>qa5 λ _=>And.imp_right (r.nx _)) r.xe⟩;obtain⟨F,t,A,s,S,l,q⟩:=n;refine⟨F,t,A,s.xe,S,l.xe,k.m _ _ _ _ _ (λ d b q v H1 F1 T A1 O S1 P Q=>?_) (λ _ _ z=>z) q⟩;obtain⟨⟨i,p⟩,R,q⟩:=qa7.mp q;obtain⟨U,e2,r,q⟩:=qa7.mp q;obtain⟨dl,x,V⟩:=zA1.mp e2;cases qaG5 V;refine⟨F1,b,A1,i,p,_,S1,R,x,D.noConfusion,λ u w H2 Y Z j=>?_⟩;have S2:=S1.same j;obtain⟨a,dx,g,Ael,rfl,ha,y,rs,wr⟩:=qaG4 S2 x Y Z;have B:g.length=U.length:=by have:=congrArg List.length y;simpa using this
 refine⟨a,C,dx,g,rfl,ha,J,L,by lia,?_⟩;obtain⟨m1,B',m2,m3⟩:=qM7 (f:=f) y rs (O.same j);obtain⟨A',S3,s3⟩:=wr _ _ B' T (P.same j) m1 m2 m3;exact l.nx _ σ _ F1 A' q S3 (Q.trans ((M5.same j).trans s3))
def gAllV(pf:PF):VTG:=λ d ds Q=>orF (pf ds) λ q=>orF ((A5 ds q.1 q.2).bind D.own) λ xs=>orF (match d with | .l _ ys=>some ys | _=>none) λ ys=>D.imms ys=true/\xs.length+ys.length<=big/\Q (Bb ds q.1 q.2 (.l false ys))
def Gp(x:V):List V->Option Nat
 | []=>none
 | y::r=>if eqV y x=true then some 0 else (Gp x r).map (· + 1)
theorem qaq2{x:V}:∀{xs:List V}{j:Nat},Gp x xs=some j->∃ z,xs[j]? = some z/\eqV z x=true/\∀ m z',m < j->xs[m]? = some z'->eqV z' x=false
 | [],j,h=>by cases h
 | y::r,j,h=>by
   unfold Gp at h;by_cases a:eqV y x=true
   . rw[if_pos a] at h;cases h
     exact⟨y,rfl,a,λ m z' c=>by lia⟩
   rw[if_neg a] at h;obtain⟨k,d,rfl⟩:=zAk.mp h;obtain⟨z,e,f,g⟩:=qaq2 d;refine⟨z,by simpa using e,f,λ m z' c b=>?_⟩;cases m with
   | zero =>
     have:y=z':=by simpa using b
     subst this;simpa using a
   | succ m=>exact g m z' (by lia) (by simpa using b)
def K9(x y:D):Option D:=match x with
 | .l _ ys=>y.flat.bind λ v=>(flats ys).bind λ a=>(Gp v a).map λ j=>.int (j:Nat)
 | _=>none
def Ka(x y:D):Option D:=match x with
 | .l _ ys=>y.flat.bind λ v=>(flats ys).bind λ a=>some (.int (a.countP (λ z=>eqV z v):Nat))
 | _=>none
def rL1(r:V->List V->Hp->VK->Prop):R2:=λ x y H Q=>r x [y] H Q
theorem qav8:A4 true (rL1 qaD2) K9:=by
 intro F H v w x y B d Q r h q;cases r with | @cons _ _ A _ _ _ b t=>cases t with | @cons _ _ A2 _ _ _ c _ =>
 cases x with
 | l z s =>
   obtain⟨u,e,h⟩:=zA1.mp h;obtain⟨C,i,h⟩:=zA1.mp h;obtain⟨j,k,rfl⟩:=zAk.mp h;obtain⟨rfl,f⟩:=c.flat e;obtain⟨a,l,A3,rfl,m,n,_⟩:=b.lst_inv;obtain⟨rfl,g⟩:=n.flats i;obtain⟨z,o,q2,p⟩:=qaq2 k;exact⟨a,l,w,j,z,rfl,rfl,m,f,g,o,q2,p,q _ H [] (.int _) (λ _ _ z=>z) New.nil⟩
 | _=>cases h
theorem qaG6:A4 true (rL1 qaD4) Ka:=by
 intro F H v w x y B d Q r h q;cases r with | @cons _ _ A _ _ _ b t=>cases t with | @cons _ _ A2 _ _ _ c _ =>
 cases x with
 | l z m =>
   obtain⟨n,e,h⟩:=zA1.mp h;obtain⟨o,i,h⟩:=zA1.mp h;cases h;obtain⟨rfl,f⟩:=c.flat e;obtain⟨a,j,A3,rfl,k,l,_⟩:=b.lst_inv;obtain⟨rfl,g⟩:=l.flats i;exact⟨a,j,w,rfl,rfl,k,f,g,q _ H [] (.int _) (λ _ _ z=>z) New.nil⟩
 | _=>cases h
theorem vbm{r:V->List V->Hp->VK->Prop}{g:D->D->Option D}{name:Str}{id:String}(C:A4 true (rL1 r) g)(E:PlainAttrs "list")(slot:Slot "list" name id)(i:typeOf (.builtin id)=pure (.type "method_descriptor"))(hm:MtM X id r)(G:VV c X o oa fa)(I:VV c X b ob fb)(J:∀ x y d,g x y=some d->∃ z ys,x=.l z ys)(hbase:Ly o name X.env (eval o X.env)=eval o X.env:=by rfl)(f:((backTo cpos (Lq [b] X.env)).all (λ x=>!x.1)&&(backToKw cpos (L8 [] X.env)).all (λ x=>x.1.isSome)
     && decide (([b]:List Expr).length+([]:List Keyword).length+(if ([]:List Keyword).isEmpty then 0 else 1) < 30))=true:=by rfl)(hline:(apos.endLine == cpos.line)=true:=by rfl)(n:Lq [b] X.env=(false,eval b X.env)::Lq [] X.env:=by rfl)(hplain:(backTo cpos (Lq [] X.env)).any (·.1)=false:=by rfl) :
   VV c X (.Call (.Attribute o name apos) [b] [] cpos) true (f2 g fa fb):=by
 refine⟨PE.mono (Kl E slot i hm G.h (qe6 I.h qt9 n) hbase f hline n hplain) λ σ H Q j=>?_⟩;obtain⟨F,p,A,d,S,e,q⟩:=j;obtain⟨x,y,K,L,s⟩:=qay5.mp e;obtain⟨z,ys,rfl⟩:=J x y d s;refine⟨F,p,A,_,S,K,λ v H1 B1 t k R=>?_⟩;obtain⟨a,M,A3,rfl,l,T,_⟩:=t.lst_inv;refine⟨.inl ⟨rfl,M,.inl (.inl l)⟩,F,p,A,y,S.same k,L,λ w H2 B2 N m U=>?_⟩;exact C F H2 _ w _ y _ d Q (Hn (t.same m) N) s λ u H3 B3 O P B=>q u H3 B3 O ((k.trans m).trans P) λ _=>⟨B.one,λ b o e=>B.new b o (m b o (k b o e))⟩
theorem qab5:∀ x y d,K9 x y=some d->∃ z ys,x=.l z ys:=λ x y d h=>by cases x with | l z ys=>exact⟨z,ys,rfl⟩ | _=>cases h
theorem qar1:∀ x y d,Ka x y=some d->∃ z ys,x=.l z ys:=λ x y d h=>by cases x with | l z ys=>exact⟨z,ys,rfl⟩ | _=>cases h
end
def Fj(g:VTG)(t:VTS)(e:VEnds):List D->Ds->Prop
 | [],ds=>e.nx ds
 | x::xs,ds=>g x ds λ ds1=>t { e with nx:=Fj g t e xs,ct:=Fj g t e xs,bk:=e.nx } ds1
def whN(qc:VTT)(t:VTS)(e:VEnds):Nat->Ds->Prop
 | 0,_=>False
 | n+1,ds=>qc ds (λ b ds1=>if b=true then t { e with nx:=whN qc t e n,ct:=whN qc t e n,bk:=e.nx } ds1 else e.nx ds1) e.xe
def qaC6(qc:VTT)(t:VTS):VTS:=λ e ds=>∃ n,whN qc t e n ds
section
variable{c:Vc}{X:Cx}{a b e tg:Expr}{body:List Stmt}{g:VTG}{t:VTS}{te:VT}{qc:VTT}{pos:Pos}
theorem qn5(d:VG c X tg g)(e:VSs c X body t){en b:VEnds}(a:en.Le b):∀(xs:List D) ds,Fj g t en xs ds->Fj g t b xs ds
 | [],ds=>a.nx ds
 | x::xs,ds=>d.m _ _ _ _ λ f=>e.m _ _ _ ⟨qn5 d e a xs,a.rt,a.nx,qn5 d e a xs,a.xe⟩
theorem qH0{cd:Expr}(e:VTe c X cd qc)(f:VSs c X body t){en d:VEnds}(a:en.Le d):∀(n:Nat) ds,whN qc t en n ds->whN qc t d n ds
 | 0,ds=>id
 | n+1,ds=>e.m _ _ _ _ _ (λ b g=>qy5 (f.m _ _ _ ⟨qH0 e f a n,a.rt,a.nx,qH0 e f a n,a.xe⟩) (a.nx _)) a.xe
theorem qan4(r:PassesOwn (model X.prog X.w) X.A X.env X.xe)(g:VTe c X cd qc)(o:VSs c X body t):VS c X (.While cd body [] pos) (qaC6 qc t):=by
 refine⟨PS.mono (qau3 r g.h o.h) λ E σ H i=>?_,λ d s e u ⟨n,q⟩=>⟨n,qH0 g o u n e q⟩⟩;obtain⟨F,e,A,d,S,l,n,q⟩:=i;refine⟨λ m σ H=>∃ F e A,M6 c F H σ e A/\Lk c E F H A d/\whN qc t d m e,⟨n,F,e,A,S,l,q⟩,?_⟩;rintro m σ H ⟨F,e,A,S,l,q⟩;cases m with
 | zero=>exact q.elim
 | succ m =>
   refine⟨F,e,A,d.xe,S,l.xe,g.m _ _ _ _ _ (λ b j q H1 F1 A1 S1 p=>?_) (λ _ _ z=>z) q⟩;cases b with
   | false=>rw[if_neg (by decide)] at q ⊢;exact l.nx _ _ _ _ _ q S1 p
   | true =>
     rw[if_pos rfl] at q ⊢;have f:=l.step p;refine⟨λ σ' H'=>∃ F' a A',M6 c F' H' σ' a A'/\Lk c E F' H' A' d/\whN qc t d m a,λ σ' H' h=>⟨m,by lia,h⟩,F1,j,A1,{ d with nx:=whN qc t d m,ct:=whN qc t d m,bk:=d.nx },S1,⟨?_,f.rt,f.nx,?_,f.xe⟩,q⟩
     . exact λ a σ' H' F' A' q S' k=>⟨F',a,A',S',f.step k,q⟩
     exact λ a σ' H' F' A' q S' k=>⟨F',a,A',S',f.step k,q⟩
theorem qU4{E:Bm}{en:VEnds}{F:γ->Prop}{H:Hp}{σ:St}{ds:Ds}{A:List γ}{x:V}{y:D}{N:St->Hp->Prop}{b:Ds->Prop}(i:VG c X tg g)(S:M6 c F H σ ds A)(l:Lk c E F H A en)(r:M3 F H x y [])(h:∀ a σ' H' F' A',b a->M6 c F' H' σ' a A'->M5 F H A F' H' A'->N σ' H')(q:g y ds λ ds1=>t { en with nx:=b,ct:=b,bk:=en.nx } ds1) :
   Hd c g x σ H λ σ2 H2=>Fy c t { E with nx:=N,ct:=N,bk:=E.nx } σ2 H2:=by
 refine⟨F,ds,A,[],y,r,S,S.ok,i.m _ _ _ _ (λ ds1 q σ1 H1 F1 A1 S1 d=>?_) q⟩;have e:=l.step d;exact⟨F1,ds1,A1,{ en with nx:=b,ct:=b,bk:=en.nx },S1,⟨λ a σ' H' F' A' q S' f=>h a σ' H' F' A' q S' (M5.trans d f),e.rt,e.nx,λ a σ' H' F' A' q S' f=>h a σ' H' F' A' q S' (M5.trans d f),e.xe⟩,q⟩
noncomputable def D.lstOf:D->Option Ds
 | .l _ ys=>some ys
 | _=>none
theorem qu3{d:D}{ys:Ds}(h:d.lstOf=some ys):∃ z,d=.l z ys:=by
 cases d with
 | l z a=>cases h;exact⟨z,rfl⟩
 | _=>cases h
theorem qp7:∀{ys:List D}{i:Nat}{y:D},D.imms ys=true->ys[i]? = some y->y.imm=true
 | [],i,y,_,h=>by simp at h
 | d::r,0,y,hm,h=>by
   have:d=y:=by simpa using h
   subst this;exact(zAi.mp hm).1
 | d::r,i+1,y,hm,h=>qp7 (zAi.mp hm).2 (by simpa using h)
theorem qn6{xs:List α}{x:α}(h:xs[i]? = some x):xs.drop i=x::xs.drop (i+1):=by
 obtain⟨a,rfl⟩:=zA6.mp h;exact List.drop_eq_getElem_cons a
def sForL(te:VT)(g:VTG)(t:VTS):VTS:=λ e ds=>te ds (λ d ds1=>orF d.lstOf λ ys=>D.imms ys=true/\Fj g t e ys ds1) e.xe
theorem La(hp:PassesOwn (model X.prog X.w) X.A X.env X.xe)(hi:VE c X e te)(G:VG c X tg g)(Q:VSs c X body t)(R:X.calm=true:=by rfl)(I:∀ v,Lu e X.env v=pure v:=by intro _;rfl):VS c X (.For tg e body [] pos) (sForL te g t):=by
 refine⟨PS.mono (qau5 hp R (qt8 hi.h) G.h Q.h I) λ E σ H J=>?_,λ s a0 k U=>hi.m _ _ _ _ _ (λ d n=>qa5 λ u=>And.imp_right (qn5 G Q U u n)) U.xe⟩;obtain⟨F,k,A,s,S,l,q⟩:=J;refine⟨F,k,A,s.xe,S,l.xe,hi.m _ _ _ _ _ (λ d n q v H1 F1 T A1 V S1 o1 s1=>?_) (λ _ _ z=>z) q⟩;obtain⟨u,ey,hm,qf⟩:=qa7.mp q;obtain⟨z,rfl⟩:=qu3 ey;obtain⟨a,C,Ael,rfl,j,rs,_⟩:=V.lst_inv;have L:M5 F H A F1 H1 A1:=s1.count λ b=>by rw[zA0];lia
 refine⟨a,rfl,⟨C,.inl (.inl j)⟩,qac5 (K:=X.K) (a:=a) (xs:=C) (λ i σ H=>∃ F k A,M6 c F H σ k A/\Lk c E F H A s/\M3 F H (.ref a) (.l z u) T/\H a=some (.l C)/\Ok F H (T++A)/\Fj g t s (u.drop i) k) ⟨F1,n,A1,S1,l.step L,V,j,o1,qf⟩ ?_ ?_ ?_⟩
 . rintro i σ H _ ⟨F,k,A,S,l,r,j,o,q⟩
   exact .inl (.inl j)
 . rintro i x σ H hx ⟨F,k,A,S,l,r,j,o,q⟩
   obtain⟨a',a1,Ael',ea,p,M,_⟩:=r.lst_inv;cases ea;rw[j] at p;cases p;obtain⟨y,B,W,Y⟩:=M.getV hx
   have:=Y.imm (qp7 hm W)
   subst this;rw[qn6 W] at q;refine qU4 G S l Y (λ N σ' H' F' A' q' S' O=>?_) q;have D:=O.kp S.ok S.loc.cells;have Z:∀ b∈T,¬ (A.count b≠0):=λ b hb R=>by
     have:=o.sep b
     rw[zA0] at this
     have:=qa8.mp hb
     lia
   have r':=r.keep D Z;obtain⟨o',_⟩:=O.frame o r.cells S'.ok;have P:H' a=some (.l C):=by
     cases r with
     | l h _=>exact D.fr _ _ j (Z _ zAc)
     | lstZ h f _=>exact D.fr _ _ j λ w=>D.wf _ w f
   exact⟨F',N,A',S',l.step O,r',P,o',q'⟩
 rintro σ H ⟨F,k,A,S,l,r,j,o,q⟩;rw[rs.len,List.drop_length] at q;exact l.nx _ _ _ _ _ q S M5.refl
noncomputable def Fk(lo:Int)(n:Nat):List D:=(List.range n).map λ(i:Nat)=>.int (lo+(i:Int))
theorem qao2{lo:Int}(h:i < n):(Fk lo n)[i]? = some (.int (lo+(i:Int))):=by
 unfold Fk;rw[zBb,List.getElem?_range h];rfl
theorem qaC9(lo:Int)(n:Nat):(Fk lo n).length=n:=by simp[Fk]
noncomputable def Ix(i:Int):Bool:=decide (-(2 ^ 62)<=i)&&decide (i < 2 ^ 62)
theorem qax0{i:Int}(h:Ix i=true):-(2 ^ 62)<=i/\i < 2 ^ 62:=by
 have:=zAi.mp h
 exact⟨zAa this.1,zAa this.2⟩
theorem qaK6{E:Bm}{en:VEnds}{F:γ->Prop}{H:Hp}{σ:St}{ds:Ds}{A:List γ}{lo:Int}(d:VG c X tg g)(S:M6 c F H σ ds A)(l:Lk c E F H A en)(q:Fj g t en (Fk lo n) ds) :
   ∃ W:Nat->Nat->St->Hp->Prop,(∃ m,W 0 m σ H)/\∀ i m σ H,W i m σ H ->
     ((Itr lo n).stop i H/\E.nx σ H)∨((Itr lo n).go i H/\∃ N:St->Hp->Prop,(∀ σ' H',N σ' H'->∃ b,b < m/\W (i+1) b σ' H')/\∀ x H',(Itr lo n).yld i H x H'->Hd c g x σ H' λ σ2 H2=>Fy c t { E with nx:=N,ct:=N,bk:=E.nx } σ2 H2):=by
 refine qak4 (λ i σ H=>∃ F ds A,M6 c F H σ ds A/\Lk c E F H A en/\Fj g t en ((Fk lo n).drop i) ds) ⟨F,ds,A,S,l,q⟩ ?_ ?_
 . rintro i σ H e ⟨F,ds,A,S,l,q⟩
   rw[qn6 (qao2 e)] at q;exact qU4 d S l (.int _) (λ a σ' H' F' A' f S' h=>⟨F',a,A',S',l.step h,f⟩) q
 rintro σ H ⟨F,ds,A,S,l,q⟩;rw[List.drop_of_length_le (by rw[qaC9];exact zA3 _)] at q;exact l.nx _ _ _ _ _ q S M5.refl
noncomputable def one1:Ds->Option Int
 | [.int j]=>some j
 | _=>none
theorem qaH0{xs:Ds}{j:Int}(h:one1 xs=some j):xs=[.int j]:=by
 unfold one1 at h;split at h
 . cases h;rfl
 cases h
def qah3(tr:VTA)(g:VTG)(t:VTS):VTS:=λ e ds=>tr ds (λ xs ds1=>orF (one1 xs) λ j=>Ix j=true/\Fj g t e (Fk 0 j.toNat) ds1) e.xe
theorem qS0{tr:VTA}{p cpos:Pos}(s:PassesOwn (model X.prog X.w) X.A X.env X.xe)(hm:X.mg "range" = none)(d:VOs c X [a] tr)(e:VG c X tg g)(k:VSs c X body t)(f:Gl X "range" := by rfl)(u:Lq [a] X.env=[(false,eval a X.env)]:=by rfl)(x:X.calm=true:=by rfl) :
   VS c X (.For tg (.Call (.Name "range" p) [a] [] cpos) body [] pos) (qah3 tr g t):=by
 refine⟨PS.mono (qau5 s x (qai1 f hm d.h u) e.h k.h) λ E σ H i=>?_,λ n y o r=>d.m _ _ _ _ _ (λ B b=>qa5 λ j=>And.imp_right (qn5 e k r _ b)) r.xe⟩;obtain⟨F,o,A,n,S,l,q⟩:=i;refine⟨F,o,A,n.xe,S,l.xe,d.m _ _ _ _ _ (λ B b q K H1 F1 T A1 C S1 D=>?_) (λ _ _ z=>z) q⟩;obtain⟨j,G,hm,I⟩:=qa7.mp q;cases qaH0 G;obtain⟨v,rfl,J⟩:=C.one_inv;cases J
 have:=qax0 hm
 exact⟨j,rfl,this.1,this.2,qaK6 e S1 (l.step D) I⟩
def tFzV(te:VT):VT:=λ ds Q xe=>te ds (λ d ds1=>Q d.fz ds1) xe
theorem efzV(h:VE c X e te):VE c X e (tFzV te):=by
 refine⟨PE.mono h.h λ σ H Q a=>?_,λ i Q Q' j n o p=>h.m _ _ _ _ _ (λ d g=>o _ _) p⟩;obtain⟨F,i,A,j,S,x,q⟩:=a;refine⟨F,i,A,j,S,x,h.m _ _ _ _ _ (λ d g q v H1 F1 T A1 k S1 r s=>?_) (λ _ _ z=>z) q⟩;have t:=k.fz (F':=λ b=>F1 b∨b∈T) (λ b f=>.inl f) λ b u=>.inr u
 obtain⟨l,w⟩:=share (A:=T++A1) (B:=T) (C:=A1) r (λ b=>by rw[zA0]) k.cells (A':=A1) (λ b=>rfl);have L:=S1.loc.keep (Kp.more (H:=H1) λ b f=>Or.inl (b:=b∈T) f) λ _ _ z=>z
 exact q v H1 _ [] A1 t ⟨L,l,S1.len,S1.ag⟩ l (s.trans w)
end
def bk1(i:Nat)(p:List Nat)(w:V)(d0:D)(ds:Ds):Option Ds:=Ap [.pl i p w] [d0] ds
def Jm(i:Nat)(p:List Nat)(w:V)(d0:D)(e:VEnds):VEnds where
 nx ds:=orF (bk1 i p w d0 ds) e.nx
 rt d ds:=orF (bk1 i p w d0 ds) (e.rt d)
 bk ds:=orF (bk1 i p w d0 ds) e.bk
 ct ds:=orF (bk1 i p w d0 ds) e.ct
 xe x ds:=orF (bk1 i p w d0 ds) (e.xe x)
section
variable{c:Vc}{X:Cx}{a b e tg o:Expr}{body:List Stmt}{g:VTG}{t:VTS}{pos:Pos}{pf:PF}{F F1:γ->Prop}{H H1:Hp}{σ:St}{ds ds1:Ds}{A A1 B:List γ}{E:Bm}{en:VEnds}
theorem qn1{p:List Nat}{d0:D}{F':γ->Prop}{H':Hp}{a d:Ds}{A':List γ}(f:Ok F1 H1 (B++A1))(S1:M6 c F1 H1 σ ds1 A1)(r:M3 F1 H1 w d0 B)(S':M6 c F' H' σ' a A')(s':M5 F1 H1 A1 F' H' A')(h:bk1 i p w d0 a=some d) :
   ∃ A2,M6 c F' H' σ' d A2/\Ok F' H' (B++A')/\M5 F1 H1 (B++A1) F' H' (B++A')/\∀ b,A2.count b<=B.count b+A'.count b:=by
 obtain⟨g,j⟩:=s'.frame f r.cells S'.ok;have k:M3 F' H' w d0 B:=r.keep (s'.kp S1.ok S1.loc.cells) λ b l e=>by
   have:=f.sep b
   rw[zA0] at this
   have:=qa8.mp l
   lia
 obtain⟨A2,m,q2⟩:=qq7 (pls:=[.pl i p w]) (vs:=[w]) (more:=[]) (ys:=[d0]) (.so .nil) (.cons k .nil) S'.loc h;have e:∀ b,A2.count b<=B.count b+A'.count b:=λ b=>by have:=q2 b;simp only[zAf] at this;exact this
 exact⟨A2,⟨m,g.count λ b=>by rw[zA0];exact e b,S'.len,S'.ag⟩,g,j,e⟩
theorem Lk.lend{p:List Nat}{d0:D}(l:Lk c E F H A en)(k:M5 F H A F1 H1 (B++A1))(j:Ok F1 H1 (B++A1))(S1:M6 c F1 H1 σ ds1 A1)(r:M3 F1 H1 w d0 B):Lk c E F1 H1 A1 (Jm i p w d0 en) where
 nx ds' σ' H' F' A' q S' s':=by
   obtain⟨a,f,q⟩:=qa7.mp q;obtain⟨A2,S2,n,h,g⟩:=qn1 j S1 r S' s' f;exact l.nx _ _ _ _ A2 q S2 ((k.trans h).count λ b=>by rw[zA0];exact g b)
 bk ds' σ' H' F' A' q S' s':=by
   obtain⟨a,f,q⟩:=qa7.mp q;obtain⟨A2,S2,n,h,g⟩:=qn1 j S1 r S' s' f;exact l.bk _ _ _ _ A2 q S2 ((k.trans h).count λ b=>by rw[zA0];exact g b)
 ct ds' σ' H' F' A' q S' s':=by
   obtain⟨a,f,q⟩:=qa7.mp q;obtain⟨A2,S2,n,h,g⟩:=qn1 j S1 r S' s' f;exact l.ct _ _ _ _ A2 q S2 ((k.trans h).count λ b=>by rw[zA0];exact g b)
 xe x ds' σ' e H' F' A' q rx S' s':=by
   obtain⟨a,f,q⟩:=qa7.mp q;obtain⟨A2,S2,n,h,g⟩:=qn1 j S1 r S' s' f;exact l.xe x a σ' e H' F' A2 q rx S2 ((k.trans h).count λ b=>by rw[zA0];exact g b)
 rt d ds' v σ' H' F' T A' q rv S' oT s':=by
   obtain⟨a,f,q⟩:=qa7.mp q;have o:M5 F1 H1 A1 F' H' A':=s'.count λ b=>by rw[zA0];lia
   obtain⟨A2,S2,n,h,g⟩:=qn1 j S1 r S' o f;obtain⟨s,t⟩:=s'.frame j r.cells oT;have m:∀ b,(T++A2).count b<=(B++(T++A')).count b:=λ b=>by simp only[zA0];have:=g b;lia
   exact l.rt d a v σ' H' F' T A2 q rv S2 (s.count m) ((k.trans t).count m)
theorem qaI6{p:List Nat}{d0:D}{en a:VEnds}(b:en.Le a):(Jm i p w d0 en).Le (Jm i p w d0 a) :=
 ⟨λ c=>qa5 b.nx,λ d c=>qa5 (b.rt d),λ c=>qa5 b.bk,λ c=>qa5 b.ct,λ x c=>qa5 (b.xe x)⟩
structure Held(F:γ->Prop)(H:Hp)(a:γ)(vs:List V)(z:Bool)(ys:Ds)(T A:List γ):Prop where
 r:M3 F H (.ref a) (.l z ys) T
 h:H a=some (.l vs)
 o:Ok F H (T++A)
theorem Held.step{ys:Ds}{T:List γ}{a:γ}{F':γ->Prop}{H':Hp}{e:Ds}{A':List γ}(h:Held F H a vs z ys T A)(S:M6 c F H σ ds A)(S':M6 c F' H' σ' e A')(s':M5 F H A F' H' A'):Held F' H' a vs z ys T A':=by
 obtain⟨r,g,o⟩:=h;have d:=s'.kp S.ok S.loc.cells;have i:∀ b∈T,¬ (A.count b≠0):=λ b j k=>by
   have:=o.sep b
   rw[zA0] at this
   have:=qa8.mp j
   lia
 refine⟨r.keep d i,?_,(s'.frame o r.cells S'.ok).1⟩;cases r with
 | l h _=>exact d.fr _ _ g (i _ zAc)
 | lstZ h f _=>exact d.fr _ _ g λ w=>d.wf _ w f
theorem Held.get{ys:Ds}{T:List γ}{a:γ}{x:V}(h:Held F H a vs z ys T A)(hm:D.imms ys=true)(f:vs[i]? = some x):∃ y,ys[i]? = some y/\M3 F H x y []:=by
 obtain⟨k,g,Ael',j,b,c,_⟩:=h.r.lst_inv;cases j
 have:=h.h
 rw[b] at this;cases this;obtain⟨y,B,d,e⟩:=c.getV f
 have:=e.imm (qp7 hm d)
 subst this;exact⟨y,d,e⟩
theorem Held.len{ys:Ds}{T:List γ}{a:γ}(h:Held F H a vs z ys T A):vs.length=ys.length:=by
 obtain⟨f,d,Ael',e,b,c,_⟩:=h.r.lst_inv;cases e
 have:=h.h
 rw[b] at this;cases this;exact c.len
theorem qL0{K:PySem.W.Frag}{ys:Ds}{T:List γ}{a:γ}(j:VG c X tg g)(S:M6 c F H σ ds A)(l:Lk c E F H A en)(b:Held F H a vs z ys T A)(hm:D.imms ys=true)(q:Fj g t en ys ds) :
   ∃ W:Nat->Nat->St->Hp->Prop,(∃ m,W 0 m σ H)/\∀ i m σ H,W i m σ H ->
     ((Itl K a).stop i H/\E.nx σ H)∨((Itl K a).go i H/\∃ N:St->Hp->Prop,(∀ σ' H',N σ' H'->∃ e,e < m/\W (i+1) e σ' H')/\∀ x H',(Itl K a).yld i H x H'->Hd c g x σ H' λ σ2 H2=>Fy c t { E with nx:=N,ct:=N,bk:=E.nx } σ2 H2):=by
 refine qac5 (xs:=vs) (λ i σ H=>∃ F ds A,M6 c F H σ ds A/\Lk c E F H A en/\Held F H a vs z ys T A/\Fj g t en (ys.drop i) ds) ⟨F,ds,A,S,l,b,q⟩ ?_ ?_ ?_
 . rintro i σ H _ ⟨F,ds,A,S,l,b,q⟩
   exact .inl (.inl b.h)
 . rintro i x σ H k ⟨F,ds,A,S,l,b,q⟩
   obtain⟨y,n,o⟩:=b.get hm k;rw[qn6 n] at q;exact qU4 j S l o (λ d σ' H' F' A' p S' f=>⟨F',d,A',S',l.step f,b.step S S' f,p⟩) q
 rintro σ H ⟨F,ds,A,S,l,b,q⟩;rw[b.len,List.drop_length] at q;exact l.nx _ _ _ _ _ q S M5.refl
def sForP(pf:PF)(g:VTG)(t:VTS):VTS:=λ e ds=>orF (pf ds) λ q=>orF (A5 ds q.1 q.2) λ d=>orF d.lstOf λ ys=>D.imms ys=true/\∀ w,Fj g t (Jm q.1 q.2 w d e) ys (Bb ds q.1 q.2 (.hole w))
theorem sforP(J:PassesOwn (model X.prog X.w) X.A X.env X.xe)(hi:VP c X o pf)(j:VG c X tg g)(y:VSs c X body t)(K:X.calm=true:=by rfl)(k:∀ v,Lu o X.env v=pure v:=by intro _;rfl):VS c X (.For tg o body [] pos) (sForP pf g t):=by
 refine⟨PS.mono (qau5 J K (qt8 hi.h) j.h y.h k) λ E σ H m=>?_,λ L M n N=>qa5 λ q=>qa5 λ d=>qa5 λ O=>And.imp_right λ h w=>qn5 j y (qaI6 N) _ _ (h w)⟩;obtain⟨F,n,A,L,S,l,q⟩:=m;obtain⟨⟨i,p⟩,P,q⟩:=qa7.mp q;obtain⟨d,e2,q⟩:=qa7.mp q;obtain⟨O,Q,R,q⟩:=qa7.mp q;obtain⟨z,rfl⟩:=qu3 Q;refine⟨F,n,A,i,p,_,S,P,e2,D.noConfusion,λ u w H1 T U s=>?_⟩;obtain⟨B,C,r,G,V⟩:=(S.same s).place e2 D.noConfusion T U;obtain⟨A1,W,q2⟩:=V (.hole w) [] (Kp.same (F:=F) λ _ _ z=>z) (λ _ _ z=>z) (.hole w);have x:Ok F H1 (B++A1):=(S.same s).ok.count λ b=>by rw[zA0,q2,G];simp
 have Y:M5 F H A F H1 (B++A1):=⟨λ b o e _=>s b o e,λ b o e z=>by rw[zA0,q2];have:=G b;simp;lia,λ _ f=>f,λ _ _ _ _ f=>f⟩
 have S1:M6 c F H1 σ (Bb n i p (.hole w)) A1:=⟨W,x.right,S.len,S.ag⟩
 obtain⟨a,Z,Ael,rfl,I,rs,_⟩:=r.lst_inv;exact⟨a,rfl,⟨Z,.inl (.inl I)⟩,qL0 j S1 (l.lend Y x S1 r) ⟨r,I,x⟩ R (q _)⟩
noncomputable def enD(ys:Ds):List D:=ys.zipIdx.map λ p=>.q [.int (p.2:Int),p.1]
theorem qaT5{ys:Ds}{y:D}(h:ys[i]? = some y):(enD ys)[i]? = some (.q [.int (i:Int),y]):=by
 unfold enD;rw[zBb,List.getElem?_zipIdx,h];simp
theorem qaz4(ys:Ds):(enD ys).length=ys.length:=by simp[enD]
end
noncomputable def fin(W:Nat->Bool):Nat->Ds->Ds->Ds
 | k,d::r,d'::r'=>(if W k=true then d' else d)::fin W (k+1) r r'
 | _,_,_=>[]
noncomputable def Iy(W:Nat->Bool):Nat->Ds->Bool
 | _,[]=>true
 | k,d::r=>(W k||d.imm)&&Iy W (k+1) r
def qal6(W:Nat->Bool)(ds:Ds)(Q:DK)(xe:XKd):VEnds where
 nx ds':=Q .non (fin W 0 ds ds')
 rt d ds':=Q d (fin W 0 ds ds')
 bk _:=False
 ct _:=False
 xe x ds':=xe x (fin W 0 ds ds')
section
variable{F F':γ->Prop}{H H':Hp}
theorem qaT3{W:Nat->Bool}{Wr:γ->Prop}(q:Kp F H Wr F' H'):∀{vs:List V}{ds:Ds}{A:List γ}{k:Nat}{σ':List (Option V)}{a:Ds}{A':List γ},Mr F H vs ds A->Iy W k ds=true->Locs F' H' σ' a A'->vs.length<=σ'.length->(∀ i,i < vs.length->W (k+i)=true->σ'[i]? = (vs.map some)[i]?) ->
   ∃ A2,Mr F' H' vs (fin W k ds a) A2/\∀ b,A2.count b<=A'.count b:=by
 intro vs
 induction vs with
 | nil =>
   intro ds A k σ' a A' r g L n l;cases r;exact⟨[],by cases a<;>exact .nil,λ b=>by simp⟩
 | cons v vs s =>
   intro ds A k σ' a A' r g L n l;cases r with
   | @cons _ d B _ ds B2 r1 t =>
     have g:=zAi.mp g;have step:∀{σ2:List (Option V)}{f:Ds}{A2:List γ}(o:Option V),σ'=o::σ2->Locs F' H' σ2 f A2->∃ A3,Mr F' H' vs (fin W (k+1) ds f) A3/\∀ b,A3.count b<=A2.count b:=λ{σ2 f A2} o e L2=>by
       subst e;refine s t g.2 L2 (by simpa using n) λ i j c=>?_
       have:=l (i+1) (by simpa using j) (by rw[<- c];congr 1;lia)
       simpa using this
     cases L with
     | nil=>simp at n
     | no L2 =>
       obtain⟨A3,m,q2⟩:=step none rfl L2;by_cases c:W k=true
       . have:=l 0 (by simp) (by simpa using c)
         simp at this
       have j:d.imm=true:=by
         rcases Bool.or_eq_true_iff.mp g.1 with h | h
         . exact absurd h c
         exact h
       have:=r1.imm j
       subst this;refine⟨[]++A3,?_,λ b=>by simpa using q2 b⟩;show Mr F' H' (v::vs) ((if W k=true then _ else d)::_) _;rw[if_neg c];exact .cons (r1.keep q λ b p=>by cases p) m
     | @so v' d' B' σ2 f A2 rr L2 =>
       obtain⟨A3,m,q2⟩:=step (some v') rfl L2;by_cases c:W k=true
       . have:=l 0 (by simp) (by simpa using c)
         simp at this;subst this;refine⟨B'++A3,?_,λ b=>by simp only[zA0];have:=q2 b;lia⟩;show Mr F' H' (v'::vs) ((if W k=true then d' else d)::_) _;rw[if_pos c];exact .cons rr m
       have j:d.imm=true:=by
         rcases Bool.or_eq_true_iff.mp g.1 with h | h
         . exact absurd h c
         exact h
       have:=r1.imm j
       subst this;refine⟨[]++A3,?_,λ b=>by simp only[zB6,zA0];have:=q2 b;lia⟩;show Mr F' H' (v::vs) ((if W k=true then d' else d)::_) _;rw[if_neg c];exact .cons (r1.keep q λ b p=>by cases p) m
theorem Mr.locs{ds:Ds}{A:List γ}(r:Mr F H vs ds A):Locs F H (vs.map some) ds A:=by
 induction vs generalizing ds A with
 | nil=>cases r;exact .nil
 | cons v vs a=>cases r with | cons h t=>exact .so h (a t)
theorem qB4:∀ n:Nat,Locs F H (List.replicate n none) (List.replicate n .u) []
 | 0=>.nil
 | n+1=>.no (qB4 n)
end
structure FunE(K:W.Frag)(x qual:Str)(st:Stmt)(f:γ)(fd:δ):Prop where
 ex:∃(oc:V')(od:Option γ)(dV kV doc pm:V')(an:Option γ)(cdv ct:V')(osl:Array (Option V')),
   fd=W.fnOf x qual (qe1 st) (qc7 st) (qa3 st) dV kV doc pm an cdv ct/\K.lookup f=some ⟨oc,od,.func fd,osl⟩/\W.codeIn K cdv qual=true
theorem FunE.of{K:W.Frag}{x qual:Str}{st:Stmt}{f:γ}{fd:δ}(F:Fun K x qual st f fd):FunE K x qual st f fd :=
 by obtain⟨g,h,kV,a,i,j,b,k,c,e,l,d⟩:=F.ex;exact⟨⟨g,h,.none,kV,a,i,j,b,k,c,e,l,d⟩⟩
theorem FunE.okX{P:Program}{w:World}{K:W.Frag}{x qual:Str}{st:Stmt}{f:γ}{fd:δ}{ps:List Str}{k:Nat}{sp:Sp}(F:FunE K x qual st f fd)(S:qa9 N ps (qa3 st))(len:∀ vs H Q E,sp vs H Q E->vs.length=ps.length)(hbody:∀(a:V')(A:Around)(outer:List Env)(s:Sh)(H:Hp)(vs:List V)(Q:VK)(E:XK),M7 cm k (A.deeper (PyProof.Rows.envOfC qual (qa3 st) s.heap.objs.size f a))->sp vs H Q E ->
     ∃ t,PSs (Fv cm (CX1 P w) P w K mg base N qual (qa3 st) f a A outer s H E) (qc7 st) t/\t { nx:=λ _ H'=>Q .non H',rt:=Q } (L2.start N vs) H):Fl cm P w K mg base (CX1 P w) (k+1) f fd ps sp:=by
 obtain⟨i,j,l,kV,d,m,n,a,o,e,rfl,g,b⟩:=F.ex;exact Kk g b S len λ A outer s H vs Q E h c=>hbody a A outer s H vs Q E h c
theorem VFn.mkE{P:Program}{w:World}{K:PySem.W.Frag}{x qual:Str}{st:Stmt}{f:γ}{fd:δ}{ps:List Str}{k:Nat}{s:VSp}(Fu:FunE K x qual st f fd)(Sc:qa9 N ps (qa3 st))(W:Nat->Bool)(G:Bp s)(j:∀ ds Q xe,s ds Q xe->ds.length=ps.length)(n:∀ ds Q xe,s ds Q xe->Iy W 0 ds=true)(hbody:∀(g:V')(A:Around)(outer:List Env)(B:Sh)(H:Hp)(E:XK)(av:List (Option V)),M7 cm k (A.deeper (PyProof.Rows.envOfC qual (qa3 st) B.heap.objs.size f g)) ->
     ∃ t,VSs ⟨λ _=>E,W,av,[]⟩ (Fv cm (CX1 P w) P w K mg base N qual (qa3 st) f g A outer B H E) (qc7 st) t/\∀ ds Q xe,s ds Q xe->t (qal6 W ds Q xe) (ds++List.replicate (N.length - ds.length) .u)) :
   G7 cm P w K mg base (k+1) f fd ps s:=by
 refine⟨Fu.okX Sc (λ l H Q E ⟨F,ds,A,r,o,h⟩=>by rw[r.len];exact j _ _ _ h) λ g Ar outer B H l Q E I C=>?_,G⟩;obtain⟨F,ds,A,r,o,h⟩:=C;obtain⟨t,J,L⟩:=hbody g Ar outer B H E (L2.start N l) I;have X:=j _ _ _ h;have M:=n _ _ _ h;have Y:ps.length<=N.length:=by have:=congrArg List.length Sc.pre;rw[zBq] at this;lia
 have L0:Locs F H (L2.start N l++[]) (ds++List.replicate (N.length - ds.length) .u) A:=by
   rw[zAf];unfold L2.start;rw[r.len]
   have:=r.locs.append (qB4 (F:=F) (H:=H) (N.length - ds.length))
   rwa[zAf] at this
 have S0:M6 ⟨λ _=>E,W,L2.start N l,[]⟩ F H (L2.start N l) (ds++List.replicate (N.length - ds.length) .u) A:=⟨L0,o,by simp,λ i _=>by simp⟩
 have m:∀{σ':St}{H':Hp}{F':γ->Prop}{a:Ds}{A' A2:List γ},M6 ⟨λ _=>E,W,L2.start N l,[]⟩ F' H' σ' a A'->M5 F H A F' H' A2->∃ A3,Mr F' H' l (fin W 0 ds a) A3/\∀ b,A3.count b<=A'.count b:=λ{σ' H' F' a A' A2} S' c=>by
   have hlen':=S'.len;simp only[zAf] at hlen';refine qaT3 (c.kp o r.cells) r M (by have:=S'.loc;simpa using this) ?_ λ i D O=>?_
   . rw[<- hlen'];unfold L2.start;simp
   have:=S'.ag i (by simpa using O)
   simp only[zAf] at this;rw[this];show (L2.start N l)[i]? = _;unfold L2.start;rw[zAt (by simpa using D)]
 refine⟨_,J.h,F,_,A,qal6 W ds _ _,S0,⟨?_,?_,λ _ _ _ _ _ z=>False.elim z,λ _ _ _ _ _ z=>False.elim z,?_⟩,L _ _ _ h⟩
 . intro a σ' H' F' A' q S' c
   obtain⟨A3,p,q2⟩:=m S' c;have u:∀ b,([]++A3).count b<=A'.count b:=λ b=>by simpa using q2 b
   exact q .non H' F' [] A3 .non p (S'.ok.count u) (c.count u)
 . intro d a v σ' H' F' T A' q R S' S c
   obtain⟨A3,p,q2⟩:=m S' c;have u:∀ b,(T++A3).count b<=(T++A').count b:=λ b=>by simp only[zA0];have:=q2 b;lia
   exact q v H' F' T A3 R p (S.count u) (c.count u)
 intro y a σ' e H' F' A' q U S' c;obtain⟨A3,p,q2⟩:=m S' c;exact q e H' F' A3 U p (S'.ok.count q2) (c.count q2)
theorem VFn.mk'{P:Program}{w:World}{K:PySem.W.Frag}{x qual:Str}{st:Stmt}{f:γ}{fd:δ}{ps:List Str}{k:Nat}{s:VSp}(Fu:Fun K x qual st f fd)(Sc:qa9 N ps (qa3 st))(W:Nat->Bool)(e:Bp s)(a:∀ ds Q xe,s ds Q xe->ds.length=ps.length)(b:∀ ds Q xe,s ds Q xe->Iy W 0 ds=true)(hbody:∀(c:V')(A:Around)(outer:List Env)(d:Sh)(H:Hp)(E:XK)(av:List (Option V)),M7 cm k (A.deeper (PyProof.Rows.envOfC qual (qa3 st) d.heap.objs.size f c)) ->
     ∃ t,VSs ⟨λ _=>E,W,av,[]⟩ (Fv cm (CX1 P w) P w K mg base N qual (qa3 st) f c A outer d H E) (qc7 st) t/\∀ ds Q xe,s ds Q xe->t (qal6 W ds Q xe) (ds++List.replicate (N.length - ds.length) .u)) :
   G7 cm P w K mg base (k+1) f fd ps s:=VFn.mkE (FunE.of Fu) Sc W e a b hbody
def Bl:List (Option Nat)->Ds->Ds×Ds
 | [],ds=>([],ds)
 | none::r,ds=>(.u::(Bl r ds).1,(Bl r ds).2)
 | some j::r,ds=>((ds[j]?).getD .u::(Bl r (ds.set j .u)).1,(Bl r (ds.set j .u)).2)
def Gz:List (Option Nat)->Ds->Ds->Ds
 | none::r,_::i,o=>Gz r i o
 | some j::r,d::i,o=>Gz r i (o.set j d)
 | _,_,o=>o
def Gq(g:VTG)(qf:VTT)(te:VT)(K:Ds->Ds->Prop):List D->Ds->Ds->Prop
 | [],acc,ι=>K acc ι
 | x::xs,acc,ι=>g x ι λ ι1=>qf ι1 (λ b ι2=>if b=true then te ι2 (λ d ι3=>acc.length < big/\Gq g qf te K xs (acc++[d]) ι3) (λ _ _=>False) else Gq g qf te K xs acc ι2) (λ _ _=>False)
noncomputable def capW(src:List (Option Nat)):Nat->Bool:=λ i=>match src[i]? with | some (some _)=>true | _=>false
abbrev cIn(src:List (Option Nat))(av:List (Option V)):Vc:=⟨λ _ _ _ _=>False,capW src,av,[]⟩
structure VF(c:Vc)(X:Cx)(ifs:List Expr)(t:VTT):Prop where
 h:PFs X ifs (Fo c t)
 m:∀ ds (Q Q':Bool->Ds->Prop) (xe xe':XKd),(∀ d ds',Q d ds'->Q' d ds')->(∀ x ds',xe x ds'->xe' x ds')->t ds Q xe->t ds Q' xe'
def qYes:VTT:=λ ds Q _=>Q true ds
theorem Ih{c:Vc}{X:Cx}:VF c X [] qYes:=⟨λ Fb s σ H Q I ⟨F,a,A,b,S,x,q⟩=>qaF0 Fb s σ H Q I (q H F A S M5.refl),λ a Q Q' b d e _=>e _ _⟩
theorem Ii{c:Vc}{X:Cx}{e:Expr}{t:VTT}(h:VTe c X e t):VF c X [e] t:=⟨qaO9 h.h,h.m⟩
section
variable{F F':γ->Prop}{H H':Hp}
theorem qU8:∀{src:List (Option Nat)}{σ a:List (Option V)}{ds:Ds}{A:List γ},Locs F H (σ++a) ds A->(∀ j,some j∈src->j < σ.length) ->
   ∃ Ai Ao,Locs F H (Fg σ src) (Bl src ds).1 Ai/\Locs F H (σ++a) (Bl src ds).2 Ao/\∀ b,A.count b=Ai.count b+Ao.count b
 | [],σ,a,ds,A,L,_=>⟨[],A,.nil,L,λ b=>by simp⟩
 | none::r,σ,a,ds,A,L,h=>by
   obtain⟨Ai,Ao,f,q2,g⟩:=qU8 (src:=r) L λ j c=>h j (zA5 _ c)
   exact⟨Ai,Ao,.no f,q2,g⟩
 | some j::r,σ,a,ds,A,L,h=>by
   have c:=h j zAc;have t:=L.len;rw[zAd] at t;obtain⟨z,e⟩:∃ d,ds[j]? = some d:=⟨_,List.getElem?_eq_getElem (by lia)⟩
   obtain⟨σ1,o,σ2,i,k,A1,B,A2,m,e2,u,w,x,n,p,q⟩:=L.split e;have s:(σ++a)[j]? = some o:=by rw[m];exact qy7 u
   rw[zAt c] at s;have y:ds.set j .u=i++.u::k:=by
     have:=congrArg (λ l=>l.set j .u) e2
     rw[this,qm4 w]
   have L':Locs F H (σ++a) (ds.set j .u) (A1++A2):=by
     rw[m,y];cases p with
     | no=>exact n.append (.no q)
     | @so v _ _ _=>exact n.append (.so (B:=[]) (.u v) q)
   obtain⟨Ai,Ao,f,q2,g⟩:=qU8 (src:=r) L' λ j c=>h j (zA5 _ c)
   refine⟨B++Ai,Ao,?_,q2,λ b=>by rw[x];have:=g b;simp only[zA0] at *;lia⟩;show Locs F H (((σ[j]?).getD none)::Fg σ r) ((ds[j]?).getD .u::_) _;rw[s,e];exact Locs.cons p f
theorem qF3:∀{src:List (Option Nat)}{σ c σ':List (Option V)}{ι o:Ds}{Ai Ao:List γ},Locs F H σ' ι Ai->Locs F H (σ++c) o Ao->(∀ j,some j∈src->j < σ.length)->(∀(i j:Nat),src[i]? = some (some j)->σ'[i]? = some ((σ[j]?).getD none))->σ'.length=src.length ->
   ∃ A',Locs F H (σ++c) (Gz src ι o) A'/\∀ b,A'.count b<=Ai.count b+Ao.count b
 | [],σ,c,σ',ι,o,Ai,Ao,L,Lo,_,_,_=>⟨Ao,by cases ι<;>exact Lo,λ b=>by lia⟩
 | none::r,σ,c,σ',ι,o,Ai,Ao,L,Lo,h,k,f=>by
   cases L with
   | nil=>simp at f
   | no L2 =>
     obtain⟨A',g,q2⟩:=qF3 (src:=r) L2 Lo (λ j a=>h j (zA5 _ a)) (λ i j e=>by simpa using k (i+1) j (by simpa using e)) (by simpa using f);exact⟨A',g,q2⟩
   | so w L2 =>
     obtain⟨A',g,q2⟩:=qF3 (src:=r) L2 Lo (λ j a=>h j (zA5 _ a)) (λ i j e=>by simpa using k (i+1) j (by simpa using e)) (by simpa using f);exact⟨A',g,λ b=>by rw[zA0];have:=q2 b;lia⟩
 | some j::r,σ,c,σ',ι,o,Ai,Ao,L,Lo,h,k,f=>by
   have a:=h j zAc;have m:=Lo.len;rw[zAd] at m;obtain⟨G,n⟩:∃ d,o[j]? = some d:=⟨_,List.getElem?_eq_getElem (by lia)⟩
   obtain⟨σ1,p,σ2,q,s,A1,B,A2,t,e2,D,E,x,y,I,z⟩:=Lo.split n;have A:(σ++c)[j]? = some p:=by rw[t];exact qy7 D
   rw[zAt a] at A;have u:=k 0 j rfl;rw[A] at u;have C:∀ d,o.set j d=q++d::s:=λ d=>by
     have:=congrArg (λ l=>l.set j d) e2
     rw[this,qm4 E]
   cases L with
   | nil=>simp at f
   | no L2 =>
     have:p=none:=by simpa using u.symm
     subst this;have Lo':Locs F H (σ++c) (o.set j .u) (A1++A2):=by rw[t,C];exact y.append (.no z)
     obtain⟨A',g,q2⟩:=qF3 (src:=r) L2 Lo' (λ j a=>h j (zA5 _ a)) (λ i j e=>by simpa using k (i+1) j (by simpa using e)) (by simpa using f);exact⟨A',g,λ b=>by rw[x];have:=q2 b;simp only[zA0] at *;lia⟩
   | @so v d Bv _ _ _ w L2 =>
     have:p=some v:=by simpa using u.symm
     subst this;have Lo':Locs F H (σ++c) (o.set j d) (A1++(Bv++A2)):=by rw[t,C];exact y.append (.so w z)
     obtain⟨A',g,q2⟩:=qF3 (src:=r) L2 Lo' (λ j a=>h j (zA5 _ a)) (λ i j e=>by simpa using k (i+1) j (by simpa using e)) (by simpa using f);exact⟨A',g,λ b=>by rw[x];have:=q2 b;simp only[zA0] at *;lia⟩
theorem qau7(σ:St)(src:List (Option Nat)):(Fg σ src).length=src.length:=by simp[Fg]
theorem qau8{σ:St}{src:List (Option Nat)}(h:src[i]? = some (some j)):(Fg σ src)[i]? = some ((σ[j]?).getD none):=by
 unfold Fg;rw[zBb,h];rfl
structure Lb(Pp:(γ->Prop)->Hp->Prop)(T:List γ):Prop where
 keep:∀{F F':γ->Prop}{H H':Hp}{W:γ->Prop},Kp F H W F' H'->(∀ b∈T,¬ W b)->Pp F H->Pp F' H'
 cells:∀{F:γ->Prop}{H:Hp},Pp F H->∀ b∈T,∃ o,H b=some o/\Fw o=true
end
section
variable{c:Vc}{F F':γ->Prop}{H H':Hp}{Pp:(γ->Prop)->Hp->Prop}{τ:List (Option V)}{o:Ds}{Dd:γ}{acc:Ds}{T A A' Tv:List γ}{σ:St}{ds:Ds}
noncomputable def Tot(B T Ao A:List γ):List γ:=B++(T++(Ao++A))
theorem qs2(st:Lb Pp T){B:List γ}(r:M3 F H (.ref Dd) (.l false acc) B)(g:Pp F H)(L:Locs F H τ o Ao)(h:Ok F H (Tot B T Ao A))(S:M6 c F H σ ds A)(s:M5 F H A F' H' A')(o':Ok F' H' A') :
   M3 F' H' (.ref Dd) (.l false acc) B/\Pp F' H'/\Locs F' H' τ o Ao/\Ok F' H' (Tot B T Ao A')/\M5 F H (Tot B T Ao A) F' H' (Tot B T Ao A'):=by
 unfold Tot at *
 have f:=s.kp S.ok S.loc.cells;have i:∀ b,(B++(T++(Ao++A))).count b=((B++(T++Ao))++A).count b:=λ b=>by simp only[zA0];lia
 have d:∀ b,b∈B∨b∈T∨b∈Ao->¬ (A.count b≠0):=λ b a j=>by
   have:=h.sep b
   simp only[zA0] at this;rcases a with a | a | a<;>have:=qa8.mp a<;>lia
 have k:∀ b∈B++(T++Ao),∃ o,H b=some o/\Fw o=true:=λ b a=>by
   rcases zAe.mp a with a | a
   . exact r.cells b a
   rcases zAe.mp a with a | a
   . exact st.cells g b a
   exact L.cells b a
 obtain⟨l,m⟩:=s.frame (T:=B++(T++Ao)) (h.count λ b=>by rw[i];exact zA3 _) k o';have e:∀ b,(B++(T++(Ao++A'))).count b=((B++(T++Ao))++A').count b:=λ b=>by simp only[zA0];lia
 exact⟨r.keep f λ b a=>d b (.inl a),st.keep f (λ b a=>d b (.inr (.inl a))) g,L.keep f λ b a=>d b (.inr (.inr a)),l.count λ b=>by rw[e];exact zA3 _,(m.pre λ b=>by rw[i]).count λ b=>by rw[e];exact zA3 _⟩
theorem qav7(st:Lb Pp T){B:List γ}{d:D}(r:M3 F H (.ref Dd) (.l false acc) B)(p:Pp F H)(L:Locs F H τ o Ao)(S:M6 c F H σ ds A)(q:M3 F H v d Tv)(h:Ok F H (Tot B T Ao (Tv++A))) :
   ∃ vs B',H Dd=some (.l vs)/\vs.length=acc.length/\M3 F (upd H Dd (.l (vs++[v]))) (.ref Dd) (.l false (acc++[d])) B'/\Pp F (upd H Dd (.l (vs++[v])))/\Locs F (upd H Dd (.l (vs++[v]))) τ o Ao/\M6 c F (upd H Dd (.l (vs++[v]))) σ ds A/\Ok F (upd H Dd (.l (vs++[v]))) (Tot B' T Ao A)/\M5 F H (Tot B T Ao (Tv++A)) F (upd H Dd (.l (vs++[v]))) (Tot B' T Ao A):=by
 unfold Tot at *
 obtain⟨a,vs,Ael,s,j,l,rfl⟩:=qx4 r;cases s;have t:=h.sep Dd;simp only[zA0,zAo,zAv,if_true] at t;have m:¬ F Dd:=λ f=>by have:=h.fro Dd f;simp only[zA0,zAo,zAv,if_true] at this;lia
 have k:=qG9 (F:=F) (o':=.l (vs++[v])) j rfl m;have i:∀ X:List γ,X.count Dd=0->∀ b∈X,¬ b=Dd:=λ X y b C w=>by subst w;exact(qa8.mp C) y
 have g:∀ b,(Dd::(Ael++(Tv++[]))++(T++(Ao++A))).count b<=(Dd::Ael++(T++(Ao++(Tv++A)))).count b:=λ b=>by simp only[zA0,zAo,List.count_nil];lia
 have n:∀ b,F b->∃ o,upd H Dd (.l (vs++[v])) b=some o:=λ b f=>by
   obtain⟨x,e⟩:=h.ex b f;exact⟨x,by rw[qb4 (show b≠Dd from λ w=>m (w ▸ f))];exact e⟩
 refine⟨vs,Dd::(Ael++(Tv++[])),j,l.len,?_,st.keep k (i T (by lia)) p,L.keep k (i Ao (by lia)),⟨S.loc.keep k (i A (by lia)),⟨S.ok.sep,S.ok.fro,n⟩,S.len,S.ag⟩,⟨λ b=>zAn (g b) (h.sep b),λ b f=>by have:=h.fro b f;have:=g b;lia,n⟩,λ b u e z=>?_,λ b u e z=>by have:=g b;lia,λ _ f=>f,λ _ _ _ _ f=>f⟩
 . exact .l qb3 ((l.append (.cons q .nil)).keep k (i _ (by simp only[zA0,List.count_nil];lia)))
 rw[qb4 λ w=>?_]
 . exact e
 subst w;simp only[zA0,zAo,zAv,if_true] at z;lia
end
def qr6(src:List (Option Nat))(g:VTG):TG:=λ v σ H Q=>∃ av,Hd (cIn src av) g v σ H Q
def qr5(src:List (Option Nat))(q:VTT):TT:=λ σ H Q=>∃ av,Fo (cIn src av) q σ H Q
def B7(src:List (Option Nat))(t:VT):TE:=λ σ H Q=>∃ av,Bd (cIn src av) t σ H Q
structure Blk(X:Cx)(NY:List Str)(sc:Scope)(src:List (Option Nat))(tg:Expr)(ifs:List Expr)(elt:Expr)(g:VTG)(qf:VTT)(te:VT):Prop where
 g:∀ av C s0 H0 ex,VG (cIn src av) (qh7 X NY sc C s0 H0 ex) tg g
 f:∀ av C s0 H0 ex,VF (cIn src av) (qh7 X NY sc C s0 H0 ex) ifs qf
 e:∀ av C s0 H0 ex,VE (cIn src av) (qh7 X NY sc C s0 H0 ex) elt te
 lt:∀ Fb σ H s,M4 X Fb σ H s->∀ j,some j∈src->j < σ.length
section
variable{c:Vc}{X:Cx}{NY:List Str}{sc:Scope}{src:List (Option Nat)}{tg elt e:Expr}{ifs:List Expr}{g:VTG}{qf:VTT}{te:VT}
theorem Blk.pg(b:Blk X NY sc src tg ifs elt g qf te):∀ C a H0 ex,PG (qh7 X NY sc C a H0 ex) tg (qr6 src g):=λ C a H0 ex Fb s σ H v u Q I r ⟨c,q⟩=>(b.g c C a H0 ex).h Fb s σ H v u Q I r q
theorem Blk.pf(b:Blk X NY sc src tg ifs elt g qf te):∀ C a H0 ex,PFs (qh7 X NY sc C a H0 ex) ifs (qr5 src qf):=λ C a H0 ex Fb s σ H Q I ⟨c,q⟩=>(b.f c C a H0 ex).h Fb s σ H Q I q
theorem Blk.pe(b:Blk X NY sc src tg ifs elt g qf te):∀ C a H0 ex,PE (qh7 X NY sc C a H0 ex) elt (B7 src te):=λ C a H0 ex Fb s σ H Q I ⟨c,q⟩=>(b.e c C a H0 ex).h Fb s σ H Q I q
theorem Blk.gm(b:Blk X NY sc src tg ifs elt g qf te):∀ d ds (Q Q':Ds->Prop),(∀ a,Q a->Q' a)->g d ds Q->g d ds Q':=(b.g [] 0 {} (λ _=>none) []).m
theorem Blk.fm(b:Blk X NY sc src tg ifs elt g qf te):∀ ds (Q Q':Bool->Ds->Prop) (xe c:XKd),(∀ d a,Q d a->Q' d a)->(∀ x a,xe x a->c x a)->qf ds Q xe->qf ds Q' c:=(b.f [] 0 {} (λ _=>none) []).m
theorem Blk.em(b:Blk X NY sc src tg ifs elt g qf te):∀ ds (Q Q':DK) (xe c:XKd),(∀ d a,Q d a->Q' d a)->(∀ x a,xe x a->c x a)->te ds Q xe->te ds Q' c:=(b.e [] 0 {} (λ _=>none) []).m
theorem qk1(b:Blk X NY sc src tg ifs elt g qf te){K K':Ds->Ds->Prop}(h:∀ acc ι,K acc ι->K' acc ι):∀(xs:List D) acc ι,Gq g qf te K xs acc ι->Gq g qf te K' xs acc ι
 | [],acc,ι=>h acc ι
 | x::xs,acc,ι=>b.gm _ _ _ _ λ ι1=>b.fm _ _ _ _ _ (λ k ι2=>qy5 (b.em _ _ _ _ _ (λ d ι3=>And.imp_right (qk1 b h xs _ _)) λ _ _ z=>z) (qk1 b h xs _ _)) λ _ _ z=>z
variable{F F0:γ->Prop}{H H0:Hp}{Pp:(γ->Prop)->Hp->Prop}{τ:List (Option V)}{o0:Ds}{Dd:γ}{acc:Ds}{T A A0:List γ}{σ:St}{ds ι:Ds}{av:List (Option V)}{K:Ds->Ds->Prop}
def Mid(src:List (Option Nat))(av:List (Option V))(Pp:(γ->Prop)->Hp->Prop)(T:List γ)(τ:List (Option V))(o0:Ds)(Dd:γ)(F0:γ->Prop)(H0:Hp)(A0:List γ)(g:VTG)(qf:VTT)(te:VT)(K:Ds->Ds->Prop)(xs:List D)(σ:St)(H:Hp):Prop :=
 ∃ F ι A acc B Ao,M6 (cIn src av) F H σ ι A/\M3 F H (.ref Dd) (.l false acc) B/\Pp F H/\Locs F H τ o0 Ao/\Ok F H (Tot B T Ao A)/\M5 F0 H0 A0 F H (Tot B T Ao A)/\Gq g qf te K xs acc ι
theorem qQ0(b:Blk X NY sc src tg ifs elt g qf te)(st:Lb Pp T){B:List γ}{x:V}{y:D}{xs:List D}(S:M6 (cIn src av) F H σ ι A)(r:M3 F H (.ref Dd) (.l false acc) B)(t:Pp F H)(L:Locs F H τ o0 Ao)(u:Ok F H (Tot B T Ao A))(p:M5 F0 H0 A0 F H (Tot B T Ao A))(w:M3 F H x y [])(q:Gq g qf te K (y::xs) acc ι) :
   qr6 src g x σ H λ σ2 H2=>qr5 src qf σ2 H2 λ h H3=>if h=true then B7 src te σ2 H3 λ v H4=>∃ ys,H4 Dd=some (.l ys)/\ys.length < Lr/\Mid src av Pp T τ o0 Dd F0 H0 A0 g qf te K xs σ2 (upd H4 Dd (.l (ys++[v]))) else Mid src av Pp T τ o0 Dd F0 H0 A0 g qf te K xs σ2 H3:=by
 have a:∀(F:γ->Prop)(H:Hp)(A:List γ),Xc (cIn src av) (λ _ _=>False) F H A:=λ F H A x C σ' e H' F' A' z=>z.elim
 refine⟨av,F,ι,A,[],y,w,S,S.ok,b.gm _ _ _ _ (λ ι1 q σ1 H1 F1 A1 S1 E=>?_) q⟩;obtain⟨G,i,L1,j,t1⟩:=qs2 st r t L u S (show M5 F H A F1 H1 A1 from E) S1.ok;refine⟨av,F1,ι1,A1,_,S1,a _ _ _,b.fm _ _ _ _ _ (λ k ι2 q H2 F2 A2 S2 I=>?_) (λ _ _ z=>z) q⟩;obtain⟨s,c,L2,f,t2⟩:=qs2 st G i L1 j S1 I S2.ok;cases k with
 | false =>
   rw[if_neg (by decide)] at q ⊢;exact⟨F2,ι2,A2,acc,B,Ao,S2,s,c,L2,f,(p.trans t1).trans t2,q⟩
 | true =>
   rw[if_pos rfl] at q ⊢;refine⟨av,F2,ι2,A2,_,S2,a _ _ _,b.em _ _ _ _ _ (λ d ι3 q v H3 F3 Tv A3 J S3 M N=>?_) (λ _ _ z=>z) q⟩;obtain⟨O,l,L3,m,P⟩:=qs2 st s c L2 f S2 N M;obtain⟨Q,B',R,e2,U,n,L4,S4,o,W⟩:=qav7 st O l L3 S3 J m;exact⟨Q,R,by rw[e2];exact zAb q.1 qg3,F3,ι3,A3,acc++[d],B',Ao,S4,U,n,L4,o,((p.trans t1).trans t2).trans (P.trans W),q.2⟩
theorem qL5{xs:List D}(f:∀ j,some j∈src->j < σ.length)(S:M6 c F H σ ds A)(o:Ok F H (T++A))(m:Pp F H)(st:Lb Pp T)(h:H Dd=none)(q:Gq g qf te K xs [] (Bl src ds).1) :
   Mid src (Fg σ src) Pp T (σ++c.gv) (Bl src ds).2 Dd F H (T++A) g qf te K xs (Fg σ src) (upd H Dd (.l [])):=by
 obtain⟨Ai,Ao,p,q2,r⟩:=qU8 S.loc f;have a:=Same.new (u:=.l []) h;have s:=Kp.same (F:=F) a;have k:Ok F (upd H Dd (.l [])) ([Dd]++(T++A)):=(qf3 h).ok o (λ b d=>by
   rcases zAe.mp d with d | d
   . exact st.cells m b d
   exact S.loc.cells b d) a
 have n:∀ b,(Tot [Dd] T Ao Ai).count b=([Dd]++(T++A)).count b:=λ b=>by unfold Tot;simp only[zA0,r];lia
 have e:Ok F (upd H Dd (.l [])) (Tot [Dd] T Ao Ai):=k.count λ b=>by rw[n];exact zA3 _
 have l:Ok F (upd H Dd (.l [])) Ai:=e.count λ b=>by unfold Tot;simp only[zA0];lia
 refine⟨F,_,Ai,[],[Dd],Ao,⟨by rw[zAf];exact p.same a,l,by simp,λ i _=>by simp⟩,.l qb3 .nil,st.keep s (λ _ _=>id) m,q2.same a,e,((qf3 h).stp a).count λ b=>by rw[n];exact zA3 _,q⟩
theorem qL6{H':Hp}{Fz:γ->Prop}{Hz:Hp}{Az:List γ}(d:∀ j,some j∈src->j < σ.length)(S:M6 c Fz Hz σ ds Az)(m:Mid src (Fg σ src) Pp T (σ++c.gv) o0 Dd F0 H0 A0 g qf te (λ acc ι'=>∀ v H' F' B A',M3 F' H' v (.l false acc) B->M6 c F' H' σ (Gz src ι' o0) A'->Pp F' H'->Ok F' H' (B++(T++A'))->M5 F0 H0 A0 F' H' (B++(T++A'))->Q v H') [] σ' H'):Q (.ref Dd) H':=by
 obtain⟨F,ι,A,acc,B,Ao,S1,r,k,L,l,s,q⟩:=m;have a:=S1.len;simp only[zAf] at a;obtain⟨A',n,o⟩:=qF3 (src:=src) (by have:=S1.loc;simpa using this) L d (λ i j e=>by
   have:=S1.ag i (by show capW src i=true;unfold capW;rw[e])
   simp only[zAf] at this;rw[this];exact qau8 e) (by rw[<- a,qau7])
 have f:∀ b,(B++(T++A')).count b<=(Tot B T Ao A).count b:=λ b=>by unfold Tot;simp only[zA0];have:=o b;lia
 have h:=l.count f;exact q (.ref Dd) H' F B A' r ⟨n,h.right.right,S.len,S.ag⟩ k h (s.count f)
theorem qn7{a:γ}{ys:Ds}{T:List γ}:Lb (λ F H=>M3 F H (.ref a) (.l z ys) T/\H a=some (.l vs)) T where
 keep:=λ{F F' H H' W} k h p=>by
   refine⟨p.1.keep k h,?_⟩;cases p.1 with
   | l _ _=>exact k.fr _ _ p.2 (h _ zAc)
   | lstZ _ f _=>exact k.fr _ _ p.2 λ w=>k.wf _ w f
 cells:=λ p=>p.1.cells
theorem qaK0{a:γ}{ys:Ds}{T:List γ}{x:V}(r:M3 F H (.ref a) (.l z ys) T)(h:H a=some (.l vs))(hm:D.imms ys=true)(f:vs[i]? = some x):∃ y,ys[i]? = some y/\M3 F H x y []:=by
 obtain⟨k,g,Ael',j,b,c,_⟩:=r.lst_inv;cases j;rw[h] at b;cases b;obtain⟨y,B,d,e⟩:=c.getV f
 have:=e.imm (qp7 hm d)
 subst this;exact⟨y,d,e⟩
theorem qaI9{a:γ}{ys:Ds}{T:List γ}(r:M3 F H (.ref a) (.l z ys) T)(h:H a=some (.l vs)):vs.length=ys.length:=by
 obtain⟨f,d,Ael',e,b,c,_⟩:=r.lst_inv;cases e;rw[h] at b;cases b;exact c.len
theorem qH1{K':W.Frag}{a:γ}{ys:Ds}{Q:Hp->Prop}(b:Blk X NY sc src tg ifs elt g qf te)(hm:D.imms ys=true)(m:Mid src av (λ F H=>M3 F H (.ref a) (.l z ys) T/\H a=some (.l vs)) T τ o0 Dd F0 H0 A0 g qf te K ys σ' H)(f:∀ σ2 H2,Mid src av (λ F H=>M3 F H (.ref a) (.l z ys) T/\H a=some (.l vs)) T τ o0 Dd F0 H0 A0 g qf te K [] σ2 H2->Q H2):qD0 (Itl K' a) (qr6 src g) (qr5 src qf) (B7 src te) Dd Q σ' H:=by
 obtain⟨_,_,_,_,_,_,_,_,c,_⟩:=id m;have d:=qaI9 c.1 c.2;refine qQ1 (xs:=vs) (λ i σ H=>Mid src av (λ F H=>M3 F H (.ref a) (.l z ys) T/\H a=some (.l vs)) T τ o0 Dd F0 H0 A0 g qf te K (ys.drop i) σ H) m ?_ ?_ ?_
 . rintro i σ H _ ⟨_,_,_,_,_,_,_,_,e,_⟩
   exact .inl (.inl e.2)
 . rintro i x σ H h ⟨F,ι,A,j,B,Ao,S1,r,e,L,k,s,q⟩
   obtain⟨y,l,n⟩:=qaK0 e.1 e.2 hm h;rw[qn6 l] at q;exact qQ0 b qn7 S1 r e L k s n q
 intro σ H m;rw[d,List.drop_length] at m;exact f _ _ m
theorem qaf4{K':W.Frag}{a:γ}{ys:Ds}{Q:Hp->Prop}(b:Blk X NY sc src tg ifs elt g qf te)(hm:D.imms ys=true)(m:Mid src av (λ F H=>M3 F H (.ref a) (.l z ys) T/\H a=some (.l vs)) T τ o0 Dd F0 H0 A0 g qf te K (enD ys) σ' H)(o:∀ σ2 H2,Mid src av (λ F H=>M3 F H (.ref a) (.l z ys) T/\H a=some (.l vs)) T τ o0 Dd F0 H0 A0 g qf te K [] σ2 H2->Q H2):qD0 (Ite K' a) (qr6 src g) (qr5 src qf) (B7 src te) Dd Q σ' H:=by
 obtain⟨_,_,_,_,_,_,_,_,c,_⟩:=id m;have d:=qaI9 c.1 c.2;refine qam1 (xs:=vs) (λ i σ H=>Mid src av (λ F H=>M3 F H (.ref a) (.l z ys) T/\H a=some (.l vs)) T τ o0 Dd F0 H0 A0 g qf te K ((enD ys).drop i) σ H) m ?_ ?_ ?_
 . rintro i σ H _ ⟨_,_,_,_,_,_,_,_,e,_⟩
   exact .inl (.inl e.2)
 . rintro i x σ H n p ⟨F,ι,A,t,B,Ao,S1,r,e,L,v,s,q⟩ f
   obtain⟨y,w,C⟩:=qaK0 e.1 e.2 hm p;rw[qn6 (qaT5 w)] at q;have h:=Same.new (u:=.q [.int (i:Int),x]) f;have j:M3 F (upd H n (.q [.int (i:Int),x])) (.ref n) (.q [.int (i:Int),y]) []:=qY5 f (.cons (A:=[]) (B:=[]) (.int _) (.cons (A:=[]) (B:=[]) C .nil));obtain⟨E,k,L1,l,t1⟩:=qs2 qn7 r e L v S1 (M5.same h) (S1.ok.same h);exact qQ0 b qn7 (S1.same h) E k L1 l (s.trans t1) j q
 intro σ H m;rw[List.drop_of_length_le (by rw[qaz4,d];exact zA3 _)] at m;exact o _ _ m
end
def Imp(c:Vc)(X:Cx)(t:VT)(tc:TE):Prop:=∀ Fb s σ H Q,M4 X Fb σ H s->Bd c t σ H Q->tc σ H Q
def Ij(t:VT):Prop:=∀ ds (Q Q':DK) (xe xe':XKd),(∀ d a,Q d a->Q' d a)->(∀ x a,xe x a->xe' x a)->t ds Q xe->t ds Q' xe'
section
variable{c:Vc}{X:Cx}{NY:List Str}{sc:Scope}{src:List (Option Nat)}{tg elt e o:Expr}{ifs:List Expr}{g:VTG}{qf:VTT}{te t0:VT}{pf:PF}
theorem qaf5{tc:TE}{t:VT}(h:PE X e tc)(i:Imp c X t tc)(m:Ij t):VE c X e t:=⟨λ Fb s σ H Q I q=>h Fb s σ H Q I (i Fb s σ H Q I q),m⟩
theorem qaM7{tc:TE}{t:VT}{x:Str}{px spos:Pos}(h:PS X (.Assign [.Name x px] e spos) (Js tc (Gr i)))(j:Imp c X t tc)(m:Ij t)(k:c.W i=false)(hi:X.N[i]? = some x):VS c X (.Assign [.Name x px] e spos) (Ft t (gNm i)):=by
 refine⟨λ Fb s σ H E I q=>h Fb s σ H E I (j Fb s σ H _ I ?_),λ b n f g=>m _ _ _ _ _ (λ d a=>g.nx _) g.xe⟩;obtain⟨F,f,A,b,S,l,q⟩:=q;refine⟨F,f,A,b.xe,S,l.xe,m _ _ _ _ _ (λ d a q v H' F' T A' r S' o p=>?_) (λ _ _ z=>z) q⟩;obtain⟨A2,S2,u⟩:=S'.store k (qm9 hi Fb σ H s I) r o;exact l.nx _ _ H' F' A2 q S2 (p.trans u)
def Lc(src:List (Option Nat))(g:VTG)(qf:VTT)(te:VT)(ys:List D):Ds->DK->Prop:=λ ds1 Q=>Gq g qf te (λ acc ι'=>Q (.l false acc) (Gz src ι' (Bl src ds1).2)) ys [] (Bl src ds1).1
theorem qV0(b:Blk X NY sc src tg ifs elt g qf te){ys:List D}{ds1:Ds}{Q Q':DK}(h:∀ d a,Q d a->Q' d a):Lc src g qf te ys ds1 Q->Lc src g qf te ys ds1 Q':=qk1 b (λ c ι=>h _ _) _ _ _
def tCL(src:List (Option Nat))(t0:VT)(g:VTG)(qf:VTT)(te:VT):VT:=λ ds Q xe=>t0 ds (λ d ds1=>orF d.lstOf λ ys=>D.imms ys=true/\Lc src g qf te ys ds1 Q) xe
theorem qas6(b:Blk X NY sc src tg ifs elt g qf te)(hi:VE c X e t0):Ij (tCL src t0 g qf te):=λ j Q Q' k a f h=>hi.m _ _ _ _ _ (λ d i=>qa5 λ l=>And.imp_right (qV0 b f)) h
theorem qaS7{K:W.Frag}(b:Blk X NY sc src tg ifs elt g qf te)(hi:VE c X e t0):Imp c X (tCL src t0 g qf te) (Gf (Jb K (Bd c t0)) src (qr6 src g) (qr5 src qf) (B7 src te)):=by
 rintro Fb s σ H Q I ⟨F,k,A,l,S,x,q⟩;have f:=b.lt Fb σ H s I;refine⟨F,k,A,l,S,x,hi.m _ _ _ _ _ (λ d n q v H1 F1 T A1 i S1 o p=>?_) (λ _ _ z=>z) q⟩;obtain⟨E,t,u,h⟩:=qa7.mp q;obtain⟨z,rfl⟩:=qu3 t;obtain⟨a,w,Ael,rfl,j,G,_⟩:=i.lst_inv;refine⟨a,rfl,⟨w,.inl (.inl j)⟩,λ Dd y=>qH1 b u (qL5 f S1 o ⟨i,j⟩ qn7 y (qk1 b (λ C ι q v H' F' B A' r S' _ D s=>q v H' F' B A' r S' (D.count λ b=>by simp only[zA0];lia) ((p.trans s).count λ b=>by simp only[zA0];lia)) _ _ _ h)) λ σ2 H2 m=>qL6 f S1 m⟩
def tCPx(en:Ds->List D)(src:List (Option Nat))(pf:PF)(g:VTG)(qf:VTT)(te:VT):VT:=λ ds Q xe=>orF (pf ds) λ q=>orF (A5 ds q.1 q.2) λ d=>orF d.lstOf λ ys=>D.imms ys=true/\∀ w,Gq g qf te (λ acc ι'=>orF (bk1 q.1 q.2 w d (Gz src ι' (Bl src (Bb ds q.1 q.2 (.hole w))).2)) λ a=>Q (.l false acc) a) (en ys) [] (Bl src (Bb ds q.1 q.2 (.hole w))).1
theorem qaf8{en:Ds->List D}(b:Blk X NY sc src tg ifs elt g qf te):Ij (tCPx en src pf g qf te):=λ f Q Q' i a c j=>qa5 λ q=>qa5 λ d=>qa5 λ k=>And.imp_right λ h w=>qk1 b (λ e ι=>qa5 λ z=>c _ _) _ _ _ (h w)
theorem qaL6{K:W.Frag}{en:Ds->List D}{wi:TI}{J:γ->It}(b:Blk X NY sc src tg ifs elt g qf te)(M:∀{a:γ}{vs:List V}{z:Bool}{ys:Ds}{T:List γ}{τ:List (Option V)}{o0:Ds}{Dd:γ}{F0:γ->Prop}{H0 H:Hp}{A0:List γ}{K0:Ds->Ds->Prop}{av:List (Option V)}{Q:Hp->Prop}{σ':St},D.imms ys=true->Mid src av (λ F H=>M3 F H (.ref a) (.l z ys) T/\H a=some (.l vs)) T τ o0 Dd F0 H0 A0 g qf te K0 (en ys) σ' H ->
     (∀ σ2 H2,Mid src av (λ F H=>M3 F H (.ref a) (.l z ys) T/\H a=some (.l vs)) T τ o0 Dd F0 H0 A0 g qf te K0 [] σ2 H2->Q H2)->qD0 (J a) (qr6 src g) (qr5 src qf) (B7 src te) Dd Q σ' H)(j:∀ σ H R,Ji c pf σ H (λ x H1=>∃ a,x=.ref a/\(∃ xs,SqL K H1 a xs)/\R (J a) H1)->wi σ H R):Imp c X (tCPx en src pf g qf te) (Gf wi src (qr6 src g) (qr5 src qf) (B7 src te)):=by
 rintro Fb s σ H Q I ⟨F,t,A,xe,S,x,q⟩;have h:=b.lt Fb σ H s I;refine j σ H _ ?_;obtain⟨⟨i,p⟩,N,q⟩:=qa7.mp q;obtain⟨d,e2,q⟩:=qa7.mp q;obtain⟨ys,O,P,q⟩:=qa7.mp q;obtain⟨z,rfl⟩:=qu3 O;refine⟨F,t,A,i,p,_,S,N,e2,D.noConfusion,λ u w H1 U k l=>?_⟩;obtain⟨B,C,r,y,Y⟩:=(S.same l).place e2 D.noConfusion U k;obtain⟨A1,Z,q2⟩:=Y (.hole w) [] (Kp.same (F:=F) λ _ _ z=>z) (λ _ _ z=>z) (.hole w);have E:Ok F H1 (B++A1):=(S.same l).ok.count λ b=>by rw[zA0,q2,y];simp
 have s1:M5 F H A F H1 (B++A1):=⟨λ b o e _=>l b o e,λ b o e z=>by rw[zA0,q2];have:=y b;simp;lia,λ _ f=>f,λ _ _ _ _ f=>f⟩
 have S1:M6 c F H1 σ (Bb t i p (.hole w)) A1:=⟨Z,E.right,S.len,S.ag⟩
 obtain⟨a,vs,Ael,rfl,G,rs,_⟩:=r.lst_inv;refine⟨a,rfl,⟨vs,.inl (.inl G)⟩,λ Dd hD=>M P (qL5 h S1 E ⟨r,G⟩ qn7 hD (qk1 b (λ a0 ι q v H' F' B' A' rv S' hp L s=>?_) _ _ _ (q (.ref a)))) λ σ2 H2 m=>qL6 h S1 m⟩;obtain⟨a1,eb,q⟩:=qa7.mp q;obtain⟨A2,k1,k2⟩:=qq7 (pls:=[.pl i p (.ref a)]) (vs:=[.ref a]) (more:=[]) (ys:=[.l z ys]) (.so .nil) (.cons hp.1 .nil) S'.loc eb;have n:∀ b,(B'++A2).count b<=(B'++(B++A')).count b:=λ b=>by have:=k2 b;simp only[zAf,zA0] at *;lia
 exact q v H' F' B' A2 rv ⟨k1,(L.count n).right,S.len,S.ag⟩ (L.count n) ((s1.trans s).count n)
theorem qaS6{K:W.Frag}(b:Blk X NY sc src tg ifs elt g qf te):Imp c X (tCPx (λ ys=>ys) src pf g qf te) (Gf (Jb K (Ji c pf)) src (qr6 src g) (qr5 src qf) (B7 src te)) :=
 qaL6 (K:=K) (J:=Itl K) b (λ a m d=>qH1 b a m d) λ σ H R h=>h
noncomputable def capOk(X:Cx)(src:List (Option Nat)):Bool:=src.all λ o=>match o with | none=>true | some j=>decide (j < X.N.length)
theorem blk(b:∀ av C a H0 ex,VG (cIn src av) (qh7 X NY sc C a H0 ex) tg g)(c:∀ av C a H0 ex,VF (cIn src av) (qh7 X NY sc C a H0 ex) ifs qf)(d:∀ av C a H0 ex,VE (cIn src av) (qh7 X NY sc C a H0 ex) elt te)(e:capOk X src=true:=by rfl):Blk X NY sc src tg ifs elt g qf te :=
 ⟨b,c,d,λ Fb σ H s I j f=>by
   have:=zBx.mp e _ f
   rw[I.len];exact zAa this⟩
end
theorem qp5{X:Cx}{NY:List Str}{sc:Scope}{C:γ}{a:Sh}{H0:Hp}{ex:List γ}{src:List (Option Nat)}{av:List (Option V)}:Lands (qh7 X NY sc C a H0 ex) (cIn src av).E:=λ _ _ _ _ _ _ _ _ _ z=>z.elim
section
variable{c:Vc}{X:Cx}{NY:List Str}{sc:Scope}{src:List (Option Nat)}{tg elt iter:Expr}{ifs:List Expr}{g:VTG}{qf:VTT}{te t0:VT}{pos:Pos}{pf:PF}{x:Str}
theorem ecL(hi:VE c X iter t0)(a:Blk X NY sc src tg ifs elt g qf te)(b:X.calm=true:=by rfl)(d:qv5 X NY src sc=true:=by rfl)(e:∀ x,Lu iter X.env x=pure x:=by intro _;rfl):VE c X (.ListComp elt [⟨tg,iter,ifs,0⟩] sc pos) (tCL src t0 g qf te) :=
 qaf5 (qE1 NY src (qt8 hi.h) a.pg a.pf a.pe b d e) (qaS7 a hi) (qas6 a hi)
theorem ecP(hi:VP c X iter pf)(a:Blk X NY sc src tg ifs elt g qf te)(b:X.calm=true:=by rfl)(d:qv5 X NY src sc=true:=by rfl)(e:∀ x,Lu iter X.env x=pure x:=by intro _;rfl):VE c X (.ListComp elt [⟨tg,iter,ifs,0⟩] sc pos) (tCPx (λ ys=>ys) src pf g qf te) :=
 qaf5 (qE1 NY src (qt8 hi.h) a.pg a.pf a.pe b d e) (qaS6 a) (qaf8 a)
end
section
variable{c:Vc}{X:Cx}{es:List Expr}{tb:VTB}
def Ld(tb:VTB):VTA:=λ ds Q xe=>tb ds (λ xs _ ds1=>Q xs ds1) xe
theorem G0(h:VAs c X es tb):VOs c X es (Ld tb):=⟨PA.mono h.h λ σ H Q ⟨F,d,A,e,S,x,q⟩=>⟨F,d,A,e,S,x,h.m _ _ _ _ _ (λ f g a q i H' F' T A' r _ S' o s=>q i H' F' T A' r S' (s.count λ b=>by rw[zA0];lia)) (λ _ _ z=>z) q⟩,λ d Q Q' e j k l=>h.m _ _ _ _ _ (λ f g a=>k _ _) l⟩
end
structure Bg(x y z:Int)(ns:List Int):Prop where
 x0:0<=x
 y0:0<=y
 y1:y < 2147483647
 z0:0<=z
 nn:∀ n∈ns,0<=n
noncomputable def bagD(x y z:Int)(ns:List Int):D:=.l false [.int x,.int y,.int z,.l false (ns.map .int)]
def lawE:VEnds where
 nx _:=False
 rt d _:=d.asB=some true
 bk _:=False
 ct _:=False
 xe _ _:=False
theorem qaj6{c:Vc}{X:Cx}{rest:List Stmt}{t:VTS}{H:Hp}{E:Bm}{p L:γ}{x y z:Int}{ns:List Int}(e:c.av.length=2+n)(k:∀ i,c.W i=false)(a:c.gv=[])(l:H p=some (.l [.int x,.int y,.int z,.ref L]))(m:H L=some (.l (ns.map V.int)))(o:L≠p)(s:∀ H',E.rt (.bl true) H')(u:t lawE (.hole w::bagD x y z ns::List.replicate n .u)):Fy c t E (some w::some (.ref p)::List.replicate n none) H:=by
 have L0:Locs (λ _=>False) H (some w::some (.ref p)::List.replicate n none) (.hole w::bagD x y z ns::List.replicate n .u) ([]++((p::([]++([]++([]++((L::[])++[])))))++[])) :=
   .so (.hole w) (.so (.l l (.cons (.int x) (.cons (.int y) (.cons (.int z) (.cons (.l m (qA6 ns)) .nil))))) (qB4 n))
 refine⟨λ _=>False,_,_,lawE,⟨by rw[a,zAf];exact L0,⟨λ b=>?_,λ b f=>f.elim,λ b f=>f.elim⟩,by rw[a,e];simp;lia,λ i h=>by rw[k i] at h;cases h⟩,⟨λ _ _ _ _ _ z=>False.elim z,λ d A v σ' H' F' T A' q r _ _ _=>by rw[r.asB q];exact s H',λ _ _ _ _ _ z=>False.elim z,λ _ _ _ _ _ z=>False.elim z,λ _ _ _ _ _ _ _ z=>False.elim z⟩,u⟩;simp only[zB6,zAf,zAo,List.count_nil];by_cases g:p=b
 . subst g;simp[o]
 by_cases j:L=b
 . subst j;simp[g]
 simp[g,j]
section
variable{c:Vc}{b d e o:Expr}{oa ob oc:Bool}{fa fb fc:FV}
def f3(g g':D->D->Option D)(fa fb fc:FV):FV:=λ ds=>(fa ds).bind λ x=>(fb ds).bind λ y=>(g x y).bind λ z=>z.asB.bind λ k=>if k=true then (fc ds).bind λ u=>g' y u else some (.bl false)
theorem qad8{r l:R2}{g g':D->D->Option D}(h:A4 true r g)(h':A4 true l g'):∀ σ H Q,liftV c true (f3 g g' fa fb fc) σ H Q->qas5 r l (liftV c oa fa) (liftV c ob fb) (liftV c oc fc) σ H Q:=by
 rintro σ H Q ⟨F,f,A,d,S,e,q⟩;obtain⟨x,C,e⟩:=zA1.mp e;obtain⟨y,e2,e⟩:=zA1.mp e;obtain⟨z,E,e⟩:=zA1.mp e;obtain⟨k,G,e⟩:=zA1.mp e;refine⟨F,f,A,x,S,C,λ v H1 B1 I m T=>⟨F,f,A,y,S.same m,e2,λ w H2 B2 n p U=>?_⟩⟩;have i:=m.trans p;refine h F H2 v w x y _ z _ (Hn (I.same p) n) E λ u H3 B3 J s V=>⟨k,J.asB G,?_⟩
 have a:=i.trans s;cases k with
 | false=>rw[if_neg (by decide)] at e ⊢;cases e;exact q _ H3 [] (.bl _) a λ _=>New.nil
 | true =>
   rw[if_pos rfl] at e ⊢;obtain⟨t,K,L⟩:=zA1.mp e;refine⟨F,f,A,t,S.same a,K,λ M H4 B4 N j W=>?_⟩;refine h' F H4 w M y t _ d Q (Hn ((n.same s).same j) N) L λ O H5 B5 P R B=>q O H5 B5 P ((a.trans j).trans R) λ _=>⟨B.one,λ b o e=>B.new b o (j b o (a b o e))⟩
end
section
variable{c:Vc}{X:Cx}{a b d e:Expr}{pos:Pos}{oa ob oc:Bool}{fa fb fc:FV}
theorem vch{e:CmpOp}{r i:R2}{g g':D->D->Option D}(j:OpR X (Ls op) r)(h:A4 true r g)(f:OpR X (Ls e) i)(h':A4 true i g')(k:VV c X a oa fa)(l:VV c X b ob fb)(m:VV c X d oc fc)(hm:lastMarks [op,e] [b,d]=false:=by with_unfolding_all rfl) :
   VV c X (.Compare a [op,e] [b,d] pos) true (f3 g g' fa fb fc):=⟨PE.mono (qav4 j f k.h l.h m.h hm) (qad8 h h')⟩
theorem qch{e:CmpOp}{r i:R2}{g g':D->D->Option D}(j:OpR X (Ls op) r)(h:A4 true r g)(f:OpR X (Ls e) i)(h':A4 true i g')(k:VV c X a oa fa)(l:VV c X b ob fb)(m:VV c X d oc fc)(hm:lastMarks [op,e] [b,d]=false:=by with_unfolding_all rfl) :
   VTe c X (.Compare a [op,e] [b,d] pos) (ttV (f3 g g' fa fb fc)):=⟨PT.mono (qau2 j f k.h l.h m.h hm) λ σ H Q q=>qad8 h h' σ H _ (qas3 (own:=true) σ H Q q),qH4⟩
def Jn(x:D):Option D:=match x with
 | .l _ ys=>(intsD ys).bind λ ns=>gd (ns.length<=1000) (.int (qk0 ns))
 | _=>none
theorem vlenS{p p2 cpos:Pos}(g:X.mg "len" = none)(i:X.mg "set" = none)(o:VV c X a oa fa)(j:Gl X "len" := by rfl)(k:Gl X "set" := by rfl)(r:X.calm=true:=by rfl)(n:Lq [a] X.env=(false,eval a X.env)::Lq [] X.env:=by rfl)(l:((backTo cpos (Lq [] X.env)).any λ x=>x.1)=false:=by rfl)(b:Lq [.Call (.Name "set" p2) [a] [] cpos] X.env=(false,eval (.Call (.Name "set" p2) [a] [] cpos) X.env)::Lq [] X.env:=by rfl)(f:((backTo pos (Lq [] X.env)).any λ x=>x.1)=false:=by rfl) :
   VV c X (.Call (.Name "len" p) [.Call (.Name "set" p2) [a] [] cpos] [] pos) true (f1 Jn fa):=by
 refine⟨PE.mono (cbi qam6 g (qe6 (cty (qam4 r) i (qe6 o.h qt9 n) k (by rfl) (by decide) (by decide) n l) qt9 b) j (by rfl) (by decide) (by decide) b f) λ σ H Q m=>?_⟩;obtain⟨F,s,A,d,S,e,q⟩:=m;obtain⟨x,t,e2⟩:=qay6.mp e;cases x with
 | l z J =>
   obtain⟨u,w,y⟩:=zA1.mp e2;obtain⟨B,rfl⟩:=qn4 y;refine⟨F,s,A,_,S,t,λ v H1 B1 C D K=>?_⟩;obtain⟨a,L,A2,rfl,E,G,_⟩:=C.lst_inv;cases G.intsD w;refine⟨a,u,rfl,.inl (.inl E),B,λ p St I=>⟨p,St,_,rfl,qb3,?_⟩⟩;exact q _ _ [] (.int _) (D.trans (Same.new I)) λ _=>New.nil
 | _=>cases e2
def Bq(f:Ds->Option D):VSp:=λ ds Q _=>orF (f ds) λ d=>Q d ds
theorem qs3{f:Ds->Option D}:Bp (Bq f):=λ a Q Q' e b c _=>qa5 λ d=>c d a
noncomputable def wOf(l:List Bool)(i:Nat):Bool:=l.getD i false
end
section
variable{c:Vc}{X:Cx}{NY:List Str}{sc:Scope}{src:List (Option Nat)}{tg elt e o a b:Expr}{ifs:List Expr}{g:VTG}{qf:VTT}{te:VT}{pos px spos p0:Pos}{x xn:Str}
def Iz(en:Ds->List D)(src:List (Option Nat))(i:Nat)(g:VTG)(qf:VTT)(te:VT):VT:=λ ds Q xe=>orF (rdN i ds) λ d=>orF d.lstOf λ ys=>D.imms ys=true/\Gq g qf te (λ acc ι'=>Q (.l false acc) ((Gz src ι' (Bl src (ds.set i .u)).2).set i d)) (en ys) [] (Bl src (ds.set i .u)).1
theorem qz2{en:Ds->List D}(a:Blk X NY sc src tg ifs elt g qf te):Ij (Iz en src i g qf te):=λ f Q Q' h b c j=>qa5 λ d=>qa5 λ k=>And.imp_right (qk1 a (λ e ι=>c _ _) _ _ _)
theorem qar2{K:W.Frag}{en:Ds->List D}{wi:TI}{J:γ->It}(r:Blk X NY sc src tg ifs elt g qf te)(G:X.N[i]? = some xn)(L:∀{a:γ}{vs:List V}{z:Bool}{ys:Ds}{T:List γ}{τ:List (Option V)}{o0:Ds}{Dd:γ}{F0:γ->Prop}{H0 H:Hp}{A0:List γ}{K0:Ds->Ds->Prop}{av:List (Option V)}{Q:Hp->Prop}{σ':St},D.imms ys=true->Mid src av (λ F H=>M3 F H (.ref a) (.l z ys) T/\H a=some (.l vs)) T τ o0 Dd F0 H0 A0 g qf te K0 (en ys) σ' H ->
     (∀ σ2 H2,Mid src av (λ F H=>M3 F H (.ref a) (.l z ys) T/\H a=some (.l vs)) T τ o0 Dd F0 H0 A0 g qf te K0 [] σ2 H2->Q H2)->qD0 (J a) (qr6 src g) (qr5 src qf) (B7 src te) Dd Q σ' H)(j:∀ σ H R,Hl i σ H (λ x H1=>∃ a,x=.ref a/\(∃ xs,SqL K H1 a xs)/\R (J a) H1)->wi σ H R):Imp c X (Iz en src i g qf te) (Gf wi src (qr6 src g) (qr5 src qf) (B7 src te)):=by
 rintro Fb s σ H Q I ⟨F,M,A,xe,S,x,q⟩;have h:=r.lt Fb σ H s I;have O:=qm9 G Fb σ H s I;refine j σ H _ ?_;obtain⟨d,k,q⟩:=qa7.mp q;obtain⟨k,hk⟩:=qj3.mp k;obtain⟨ys,P,U,q⟩:=qa7.mp q;obtain⟨z,rfl⟩:=qu3 P;obtain⟨v,B,C,l,t,u,Y⟩:=S.put1 k D.noConfusion;have n:=l;rw[zAt O] at l;obtain⟨A1,Z,q2⟩:=Y .u [] (Kp.same (F:=F) λ _ _ z=>z) (λ _ _ z=>z) (.u v);have w:Ok F H (B++A1):=S.ok.count λ b=>by rw[zA0,q2,u];simp
 have s1:M5 F H A F H (B++A1):=⟨λ b o e _=>e,λ b o e z=>by rw[zA0,q2];have:=u b;simp;lia,λ _ f=>f,λ _ _ _ _ f=>f⟩
 have S1:M6 c F H σ (M.set i .u) A1:=⟨Z,w.right,S.len,S.ag⟩
 obtain⟨a,vs,Ael,rfl,y,rs,_⟩:=t.lst_inv;refine⟨.ref a,l,a,rfl,⟨vs,.inl (.inl y)⟩,λ Dd hD=>L U (qL5 h S1 w ⟨t,y⟩ qn7 hD (qk1 r (λ a0 ι q v H' F' B' A' rv S' hp E s=>?_) _ _ _ q)) λ σ2 H2 m=>qL6 h S1 m⟩;obtain⟨A2,k1,k2⟩:=qz6 S'.loc n hp.1;have p:∀ b,(B'++A2).count b<=(B'++(B++A')).count b:=λ b=>by have:=k2 b;simp only[zA0] at *;lia
 exact q v H' F' B' A2 rv ⟨k1,(E.count p).right,S.len,S.ag⟩ (E.count p) ((s1.trans s).count p)
theorem qaJ6{K:W.Frag}(a:Blk X NY sc src tg ifs elt g qf te)(b:X.N[i]? = some xn):Imp c X (Iz (λ ys=>ys) src i g qf te) (Gf (Jb K (Hl i)) src (qr6 src g) (qr5 src qf) (B7 src te)) :=
 qar2 (K:=K) (J:=Itl K) a b (λ d m e=>qH1 a d m e) λ σ H R h=>h
theorem qaJ7{K:W.Frag}(b:Blk X NY sc src tg ifs elt g qf te)(d:X.N[i]? = some xn):Imp c X (Iz enD src i g qf te) (Gf (iEnum K (tCons (Hl i) tNil)) src (qr6 src g) (qr5 src qf) (B7 src te)) :=
 qar2 (K:=K) (J:=Ite K) b d (λ f m h=>qaf4 b f m h) λ σ H R ⟨v,j,a,e,k,l⟩=>⟨v,j,a,by rw[e],k,l⟩
theorem ecN(i:Nat)(a:Blk X NY sc src tg ifs elt g qf te)(d:X.N[i]? = some xn:=by rfl)(e:Vis X.env.scope xn:=by first | exact Or.inl rfl | exact Or.inr (Or.inl rfl) | exact Or.inr (Or.inr rfl))(f:N' xn:=by decide)(b:(xn == ("__classdict__" : Str))=false:=by decide)(h:X.calm=true:=by rfl)(j:qv5 X NY src sc=true:=by rfl)(k:∀ x,Lu (.Name xn p0) X.env x=pure x:=by intro _;rfl):VE c X (.ListComp elt [⟨tg,.Name xn p0,ifs,0⟩] sc pos) (Iz (λ ys=>ys) src i g qf te) :=
 qaf5 (qE1 NY src (qt8 (qp1 d e f b)) a.pg a.pf a.pe h j k) (qaJ6 a d) (qz2 a)
theorem ecEN(i:Nat){elts:List Expr}{f:Nat}{p cpos tpos:Pos}(hm:X.mg "enumerate" = none)(a:Blk X NY sc src (.Tuple elts f tpos) ifs elt g qf te)(h:X.N[i]? = some xn:=by rfl)(j:Vis X.env.scope xn:=by first | exact Or.inl rfl | exact Or.inr (Or.inl rfl) | exact Or.inr (Or.inr rfl))(k:N' xn:=by decide)(d:(xn == ("__classdict__" : Str))=false:=by decide)(e:Gl X "enumerate" := by rfl)(b:Lq [.Name xn p0] X.env=[(false,eval (.Name xn p0) X.env)]:=by rfl)(l:X.calm=true:=by rfl)(m:qv5 X NY src sc=true:=by rfl)(n:∀ x,Lu (.Call (.Name "enumerate" p) [.Name xn p0] [] cpos) X.env x=pure x:=by intro _;rfl):VE c X (.ListComp elt [⟨.Tuple elts f tpos,.Call (.Name "enumerate" p) [.Name xn p0] [] cpos,ifs,0⟩] sc pos) (Iz enD src i g qf te) :=
 qaf5 (qE1 NY src (qaE8 e hm (qe6 (qp1 h j k d) qt9 b) b) a.pg a.pf a.pe l m n) (qaJ7 a h) (qz2 a)
theorem scN(i j:Nat)(d:X.N.Nodup)(a:Blk X NY sc src tg ifs elt g qf te)(l:c.W i=false:=by rfl)(k:X.N[j]? = some xn:=by rfl)(m:Vis X.env.scope xn:=by first | exact Or.inl rfl | exact Or.inr (Or.inl rfl) | exact Or.inr (Or.inr rfl))(n:N' xn:=by decide)(e:(xn == ("__classdict__" : Str))=false:=by decide)(b:X.N[i]? = some x:=by rfl)(o:Loc X.env.scope x:=by first | exact Or.inl rfl | exact Or.inr rfl)(p:X.calm=true:=by rfl)(q:qv5 X NY src sc=true:=by rfl)(f:swapsWith (.ListComp elt [⟨tg,.Name xn p0,ifs,0⟩] sc pos) (some (.Name x px)) spos.line X.env=pure true:=by rfl)(r:∀ x,Lu (.Name xn p0) X.env x=pure x:=by intro _;rfl)(h:X.fn x=true∨X.env.scope.names.lookup x=some .local:=by first | exact .inl rfl | exact .inr rfl | assumption):VS c X (.Assign [.Name x px] (.ListComp elt [⟨tg,.Name xn p0,ifs,0⟩] sc pos) spos) (Ft (Iz (λ ys=>ys) src j g qf te) (gNm i)) :=
 qaM7 (qaE3 i NY src d (qt8 (qp1 k m n e)) a.pg a.pf a.pe b o p q f r h) (qaJ6 a k) (qz2 a) l b
theorem qar3{d0:D}{ds:Ds}(h:ds[i]? = some (.hole w)):bk1 i [] w d0 ds=some (ds.set i d0):=by
 unfold bk1 Ap;rw[qC0 h];simp only[if_true];unfold Ap;rw[qz7 h]
theorem qk2{g:VTG}{qf:VTT}{te:VT}{K:Ds->Ds->Prop}(I:Ds->Prop)(f:D->Option D):∀(xs:List D)(acc ι:Ds),acc.length+xs.length < big->I ι->(∀ x∈xs,∀ ι acc,I ι->∀ R:Ds->Ds->Prop,(∀ ι',I ι'->R (acc++(f x).toList) ι')->acc.length < big->g x ι λ ι1=>qf ι1 (λ b ι2=>if b=true then te ι2 (λ d ι3=>acc.length < big/\R (acc++[d]) ι3) (λ _ _=>False) else R acc ι2) (λ _ _=>False))->(∀ ι',I ι'->K (acc++xs.filterMap f) ι')->Gq g qf te K xs acc ι
 | [],acc,ι,_,h,_,hK=>by
   have:=hK ι h
   rw[List.filterMap_nil,zAf] at this;exact this
 | x::xs,acc,ι,hl,h,hs,hK=>by
   refine hs x zAc ι acc h (λ a i=>Gq g qf te K xs a i) (λ ι' hι=>?_) (by simp at hl;lia);refine qk2 I f xs _ ι' ?_ hι (λ y e=>hs y (zA5 _ e)) λ ι2 j=>?_
   . cases c:f x with
     | none=>simp at hl ⊢;lia
     | some y=>simp at hl ⊢;lia
   have:=hK ι2 j
   rw[zC5] at this;cases c:f x with
   | none=>rw[c] at this;simpa using this
   | some y=>rw[c] at this;simpa using this
end
def spX1(C:γ)(fl:Str):Sp:=λ vs H Q _=>∃(e:γ)(v:V),vs=[.ref e,v]/\H e=some (Be e C none true)/\∀ dx,H dx=none->dx≠e->Q .non (upd (upd H dx (XD dx [(fl,v)])) e (Be e C (some dx) true))
section
variable{c:Vc}{X:Cx}{e:Expr}{te:VT}{pos cpos np:Pos}{k:Nat}{f C:γ}{fd:δ}{ps:List Str}{x fl:Str}
def qaC7(C:γ)(fl:Str)(te:VT):VTS:=λ e ds=>te ds (λ d a=>d.imm=true/\e.xe ⟨C,[(fl,d)]⟩ a) e.xe
theorem qaB9(M:MkE X.K C f)(Fn:Gc X.prog X.w X.K X.mg X.base CX0 k f fd ps (spX1 C fl))(N:Room (k+1) X.A)(hm:X.mg x=some (.ref C))(O:Binds X.K fd ps [])(P:Lands X c.E)(n:VE c X e te)(Q:Gl X x:=by rfl)(p:N' x:=by decide)(J:Lq [e] X.env=(false,eval e X.env)::Lq [] X.env:=by rfl)(t:(backTo cpos (Lq [] X.env)).any (·.1)=false:=by rfl) :
   VS c X (.Raise (some (.Call (.Name x np) [e] [] cpos)) none pos) (qaC7 C fl te):=by
 refine⟨PS.mono (qau4 M Fn N hm O P (qe6 n.h qt9 J) Q p J t) λ E σ H y=>?_,λ e Z L h=>n.m _ _ _ _ _ (λ d i z=>⟨z.1,h.xe _ _ z.2⟩) h.xe⟩;obtain⟨F,L,A,ends,S,l,q⟩:=y;refine⟨F,L,A,ends.xe,S,l.xe,n.m _ _ _ _ _ (λ d i ⟨R,q⟩ v H' F' T A' r S' o s=>?_) (λ _ _ z=>z) q⟩;refine⟨by show 1<=1000;decide,λ a U=>⟨a,v,rfl,qb3,λ g V D=>⟨rfl,some g,qb3,?_⟩⟩⟩;have W:H' g=none:=by rwa[qb4 D] at V
 obtain rfl:=r.imm R;have G:Same H' (upd (upd (upd (upd H' a (Be a C none true)) g (XD g [(fl,v)])) a (Be a C (some g) true)) a (Be a C (some g) false)):=λ b u j=>by
   have I:b≠a:=λ z=>by rw[z,U] at j;cases j
   have Y:b≠g:=λ z=>by rw[z,W] at j;cases j
   rw[qb4 I,qb4 I,qb4 Y,qb4 I];exact j
 refine l.xe ⟨C,[(fl,d)]⟩ i σ a _ F' A' q ⟨some g,qb3,.inr ⟨g,[(fl,v)],rfl,?_,rfl,?_⟩⟩ (S'.same G) ((s.count λ b=>by rw[zA0];lia).trans (M5.same G))
 . rw[qb4 D,qb4 D,qb3]
 exact .cons (A:=[]) (B:=[]) (r.same G) .nil
end
structure MdN(K:W.Frag)(C:γ)(m qual:Str)(st:Stmt)(f:γ)(fd:δ)(ps:List Str):Prop where
 F:FunE K m qual st f fd
 b:Binds K fd ps []
 bn:Binds K fd ps [.none]
 me:Jt K C m f
 isf:W.isFn K (.ref f)=true
theorem mdmkN{K:W.Frag}{C:γ}{m qual:Str}{st:Stmt}{f T:γ}{ps:List Str}{oc to:V'}{od td g:Option γ}{p q:Array (Option V')}{kV e h d j:V'}(l:K.lookup f=some ⟨oc,od,.func (W.fnOf m qual (qe1 st) (qc7 st) (qa3 st) (.ref T) kV e h g d j),p⟩)(c:W.codeIn K d qual=true)(k:W.keepIn K (.ref f)=true)(a:W.findIn K (.ref C) m=some (some (.ref f)))(i:W.isFn K (.ref f)=true)(t:K.lookup T=some ⟨to,td,.seq #[.none] n,q⟩)(b:∀(kV e h:V')(g:Option γ)(d j:V')(us:List V'),us.length=ps.length->∃ k,bindArgs (W.fnOf m qual (qe1 st) (qc7 st) (qa3 st) (.ref T) kV e h g d j) ⟨us,[]⟩=seqItems? (.ref T) >>= k/\k (some #[.none])=pure (ps.zip us))(v:∀(kV e h:V')(g:Option γ)(d j:V')(us:List V'),us.length+1=ps.length->∃ k,bindArgs (W.fnOf m qual (qe1 st) (qc7 st) (qa3 st) (.ref T) kV e h g d j) ⟨us,[]⟩=seqItems? (.ref T) >>= k/\k (some #[.none])=pure (ps.zip (us++[.none]))) :
   MdN K C m qual st f (W.fnOf m qual (qe1 st) (qc7 st) (qa3 st) (.ref T) kV e h g d j) ps :=
 ⟨⟨⟨_,_,_,_,_,_,_,_,_,_,rfl,l,c⟩⟩,λ s us X o=>(by
   rw[zAf] at o ⊢;obtain⟨k,r,u⟩:=b kV e h g d j us o;exact W.binds_K X rfl t rfl r u),λ s us X o=>(by
   obtain⟨k,r,u⟩:=v kV e h g d j us (by rw[zAd] at o;exact o);exact W.binds_K X rfl t rfl r u),⟨a,i,k⟩,i⟩
end LV
namespace L2
open PySem PySem.Spec PyProof.Rows
section
variable{prog:Program}{w:World}{A:Around}{E:V'->Sh->Prop}{s:Sh}{K:W.Frag}{x C:γ}
theorem qal4{Q:Option V'->Sh->Prop}{ox:Obj}{a:Option Obj}(X:K.In s.heap)(c:Exc K C)(I:W.InstAt s.heap x ox C a)(e:W.findObj K C a "__class__" = some (.bind (.builtin "getset_descriptor.__get__") (.builtin "object.__class__")))(hm:W.mroIn K C (.type "object")=some true)(h:Q (some (.ref C)) { s with toks:=s.toks+1 }):wpAny (model prog w) A (getAttr? (.ref x) "__class__") Q E s:=by
 have FB:=F.excAttr_ValueError;obtain⟨b,g,d,t,f⟩:=s;have L0:=I.type (M:=model prog w);have L1:=W.looks_findIn (M:=model prog w) X c.ga;have L2:=W.looks_findIn (M:=model prog w) X c.gt;have L3:=W.looks_find (M:=model prog w) X I e;have sub:W.Looks (model prog w) b (isInstance (.ref x) (.type "BaseException")) true:=L0.andThen (W.looks_mroIn X c.be);have i:builtinKind "BaseException.__getattribute__" = some .slot:=by decide +kernel
 have j:splitId "BaseException.__getattribute__" = some ("BaseException", "__getattribute__"):=by decide +kernel
 unfold getAttr? getAttrBy? getAttrBy;refine G' (wpAny_mkText (G' (wpAny_attempt (Lv (G' (L0.at (G' (L1.at ?_))))))));dsimp only;have k:(Value.builtin "BaseException.__getattribute__" == Value.builtin "object.__getattribute__")=false:=by decide +kernel
 rw[k,Bool.and_false,if_neg zAh];unfold getAttrByItsOwn hookBefore;refine G' ?_;rw[if_pos (by rfl)];refine L2.at ?_;unfold callGetattribute boundAndCalled;rw[if_neg (by decide)];refine G' (wpAny_attempt (Lv ?_));rw[FB.ga.bind (.ref x)];refine G' (J' (wpAny_call ?_));refine codeAny_call_builtin FB.ga.plain F.entry_bexc_ga (@W.check_slot (model prog w) _ _ _ "BaseException.__getattribute__" "BaseException" "__getattribute__" (.ref x) [.str "__class__" t] [] _ i j sub (F.args_bexc_ga (.ref x) (.str "__class__" t)) ?_);unfold Builtin.«object.__getattribute__»;refine G' (J' (G' (J' (G' (L0.at (G' (L3.at ?_)))))));dsimp only;show wpAny _ _ (holding [Value.builtin "object.__class__"] (call (Value.builtin "getset_descriptor.__get__") [Value.builtin "object.__class__",.ref x,.ref C]) >>= ret) _ _ _;refine G' (Lv (wpAny_call (W.class_get (s:=⟨b,g,d,t+1,f⟩) (ox:=ox) (od:=a) X I hm ?_)));refine J' ?_;exact W.handed_on rfl (J' h)
end
structure IsX(K:W.Frag)(C:γ):Prop where
 ex:Exc K C
 ca:W.findIn K (.ref C) "__class__" = some (some (.builtin "object.__class__"))
 cn:W.specialIn K (.builtin "object.__class__") "__get__" = some (some (.builtin "getset_descriptor.__get__"))
 ct:W.takesIn K (.builtin "object.__class__")=some true
theorem qax5{K:W.Frag}{x C:γ}{ox od:Obj}(i:IsX K C):W.KitX K (.ref x) (.ref C) (λ h=>W.InstAt h x ox C (some od)) where
 ty:=λ _ _ _ I=>I.type
 it:=λ _ _ X _=>by
   obtain⟨b,a,_⟩:=W.any_some i.ex.hd;unfold W.clsIn at a;split at a
   . rename_i c' d' cd' sl' ho
     intro A' Q' E' j k q;unfold isType loadHead;exact G' (wpAny_loadPart (k _ _ (X _ _ ho)) (J' q))
   cases a
 ne:=λ h d l f n m X c=>by
   obtain⟨b,a,_⟩:=W.any_some i.ex.hd;refine Bool.eq_false_iff.mpr λ q=>?_
   have e:C=d:=Value.ref.inj (zBp.mp q);subst e;unfold W.clsIn at a;split at a
   . rename_i c' d' cd' sl' ho
     have z:=(X _ _ ho).symm.trans c;cases z
   cases a
 ca:=λ X I k=>qal4 X i.ex I (W.findObj_data (by obtain⟨o,g,_⟩:=W.any_some i.ex.hd;rw[g];rfl) i.ca i.cn i.ct) i.ex.ob k
def rIsX(K:W.Frag):List V->Hp->VK->Prop:=λ xs H Q=>∃ a d u C dx fr fs b,xs=[.ref a,d]/\Mx d u/\(∀ c,Mx d c->c=u)/\H a=some (Be a C (some dx) fr)/\H dx=some (XD dx fs)/\IsX K C/\W.kitOne K (.ref C) u=some b/\Q (.bl b) H
theorem qaz8{X:Cx}:CallR X (.builtin "isinstance") (rIsX X.K):=by
 intro Fb s σ H G L Q I r h;obtain⟨a,d,u,C,j,M,N,b,rfl,O,c,k,l,ix,m,q⟩:=h;obtain⟨n,P,rfl,o,p⟩:=Hr r;obtain rfl:n=Value.ref a:=o;obtain rfl:=c _ p;obtain⟨t,v,w,f,g,i,_⟩:=qL2 I.hok k;obtain⟨R,x,r,S,_⟩:=Kr I.hok l;obtain⟨y,A,B⟩:=qs4 x;obtain⟨T,D,E,e⟩:=t;dsimp only at f g i;subst f g i;have J:W.InstAt s.heap a ⟨.ref C,some j,.fields v,e⟩ C (some y):=⟨w,rfl,rfl,A⟩
 exact W.kia_one (qax5 ix) I.kIn J m (λ z=>nomatch z) λ F=>⟨.bl b,H,I.tok F,rfl,q⟩
end L2
namespace LV
open PySem L2
section
theorem qy2{F:γ->Prop}{H:Hp}{f:Str}{d:D}:∀(a:List (Str×V))(b:List (Str×D)),a.map (·.1)=b.map (·.1)->Mr F H (a.map (·.2)) (b.map (·.2)) []->b.lookup f=some d->∃ v,a.lookup f=some v/\M3 F H v d []
 | [],[],_,_,h=>by cases h
 | [],_::_,e,_,_=>by cases e
 | _::_,[],e,_,_=>by cases e
 | (k,v)::a,(k',d')::b,e,r,h=>by
   have g:k=k':=(List.cons.inj e).1;subst g;have r:Mr F H (v::a.map (·.2)) (d'::b.map (·.2)) []:=r;generalize i:([]:List γ)=N at r;cases r with
   | @cons _ _ B _ _ B' h1 t =>
     obtain⟨rfl,rfl⟩:=List.append_eq_nil_iff.mp i.symm;rw[zAu] at h ⊢;cases c:f == k with
     | true =>
       rw[c] at h;cases h;exact⟨v,rfl,h1⟩
     | false =>
       rw[c] at h;exact qy2 a b (List.cons.inj e).2 t h
end
theorem rm{cm:Bool}{j k:Nat}{A:Around}(r:M7 cm k A)(h:j<=k:=by decide):M7 cm j A:=r.mono h
theorem VFn.mk2{cm:Bool}{P:Program}{w:World}{K:PySem.W.Frag}{mg:Str->Option V'}{base:Heap}{x qual:Str}{st:Stmt}{f:γ}{fd:δ}{N ps:List Str}{k:Nat}{s:VSp}(Fu:Fun K x qual st f fd)(Sc:qa9 N ps (qa3 st))(W:Nat->Bool)(c:Bp s)(h:∀ ds Q xe,s ds Q xe->ds.length=ps.length/\Iy W 0 ds=true)(hbody:∀(a:V')(A:Around)(outer:List Env)(b:Sh)(H:Hp)(E:XK)(av:List (Option V)),M7 cm k (A.deeper (PyProof.Rows.envOfC qual (qa3 st) b.heap.objs.size f a)) ->
     ∃ t,VSs ⟨λ _=>E,W,av,[]⟩ (Fv cm (CX1 P w) P w K mg base N qual (qa3 st) f a A outer b H E) (qc7 st) t/\∀ ds Q xe,s ds Q xe->t (qal6 W ds Q xe) (ds++List.replicate (N.length - ds.length) .u)) :
   G7 cm P w K mg base (k+1) f fd ps s:=VFn.mk' Fu Sc W c (λ ds Q xe z=>(h ds Q xe z).1) (λ ds Q xe z=>(h ds Q xe z).2) hbody
end LV
namespace S6
open PySem PyProof.Rows
variable{Q:Unit->SortSt->Prop}{arr xs:Array Keyed}{f:Nat->Keyed}{g n q:Nat}{key x:Keyed}{kf:V'->Int×Int}{l:Bool}{vs:List V'}
section
variable{α:Type}{le:α->α->Bool}
theorem mg_l{A2:List α}:∀{A1 Y:List α},(∀ a∈A1,∀ y∈Y,le a y=true)->List.merge (A1++A2) Y le=A1++List.merge A2 Y le
 | [],_,_=>rfl
 | x::A1,[],_=>by simp
 | x::A1,y::Y,h=>by
   rw[zBr,zB3,if_pos (h x (by simp) y (by simp)),mg_l λ a b=>h a (by simp[b])];rfl
theorem mg_r{B2:List α}:∀{B1 X:List α},(∀ b∈B1,∀ x∈X,le x b=false)->List.merge X (B1++B2) le=B1++List.merge X B2 le
 | [],_,_=>rfl
 | b::B1,[],_=>by simp
 | b::B1,x::X,h=>by
   rw[zBr,zB3,if_neg (by simp[h b (by simp) x (by simp)]),mg_r λ a c=>h a (by simp[c])];rfl
theorem Lf{A2:List α}:∀{A1 Y:List α},(∀ a∈A2,∀ y∈Y,le a y=false)->List.merge (A1++A2) Y le=List.merge A1 Y le++A2
 | [],Y,h=>by
   have:=mg_r (B2:=[]) (B1:=Y) (X:=A2) (le:=le) λ y c a b=>h a b y c
   simpa using this
 | x::A1,[],_=>by simp
 | x::A1,y::Y,h=>by
   rw[zBr,zB3,zB3];split
   . rw[Lf h];rfl
   rw[<- zBr,Lf λ a b z d=>h a b z (by simp[d])];rfl
theorem Jo{B2:List α}:∀{B1 X:List α},(∀ b∈B2,∀ x∈X,le x b=true)->List.merge X (B1++B2) le=List.merge X B1 le++B2
 | [],X,h=>by
   have:=mg_l (A2:=[]) (A1:=X) (Y:=B2) (le:=le) λ y d a c=>h a c y d
   simpa using this
 | b::B1,[],_=>by simp
 | b::B1,x::X,h=>by
   rw[zBr,zB3,zB3];split
   . rw[<- zBr,Jo λ a c z e=>h a c z (by simp[e])];rfl
   rw[Jo h];rfl
end
noncomputable def gal:Bool->Keyed->Array Keyed->Nat->Nat->Nat->StateT SortSt Sem (Option Nat):=sortPriv% PySem.Builtin.gallop
def bey(l:Bool)(key:Keyed)(arr:Array Keyed)(i:Nat):StateT SortSt Sem (Option Bool):=do
 let x <- elem' arr i
 if l then lt' x key else return (<- lt' key x).map (!·)
theorem qaT1(l:Bool)(key:Keyed)(arr:Array Keyed)(a n g:Nat):gal l key arr a n g=(do
 let mut p:=0
 let mut o:=1
 let mut u:=0
 let mut v:=0
 let some t <- bey l key arr (a+g) | return none
 if t then
   let mo:=n - g
   for _ in [0:n] do
     if o ≥ mo then break
     let some c <- bey l key arr (a+(g+o)) | return none
     if !c then break
     p:=o
     o:=2 * o+1
   u:=g+p+1
   v:=g+min o mo
 else
   let mo:=g+1
   for _ in [0:n] do
     if o ≥ mo then break
     let some c <- bey l key arr (a+(g - o)) | return none
     if c then break
     p:=o
     o:=2 * o+1
   u:=g+1 - min o mo
   v:=g - p
 for _ in [0:n] do
   if u ≥ v then break
   let m:=u+(v - u) / 2
   let some c <- bey l key arr (a+m) | return none
   if c then u:=m+1 else v:=m
 return some v):=rfl
structure Od(lt:Keyed->Keyed->Bool):Prop where
 as:∀ x y,lt x y=true->lt y x=false
 tr:∀ x y z,lt y x=false->lt z y=false->lt z x=false
def Cm(prog:Program)(w:World)(A:Around)(s:Sh)(kd:SortKind)(P:Keyed->Prop)(lt:Keyed->Keyed->Bool):Prop :=
 ∀ x y,P x->P y->∀(E:V'->Sh->Prop)(Q:Bool->Sh->Prop),Q (lt x y) s->wpAny (model prog w) A (keyLt' kd x.1 y.1) Q E s
section
variable{prog:Program}{w:World}{A:Around}{E:V'->Sh->Prop}{s:Sh}{kd:SortKind}{P:Keyed->Prop}{lt:Keyed->Keyed->Bool}{st:SortSt}
theorem Od.ir(h:Od lt)(x:Keyed):lt x x=false:=by
 cases e:lt x x with
 | false=>rfl
 | true=>rw[h.as x x e] at e;cases e
theorem wlt{y:Keyed}{Q:Option Bool->SortSt->Prop}(a:Cm prog w A s kd P lt)(b:kindOf st=kd)(c:P x)(d:P y)(h:Q (some (lt x y)) st):wpS (model prog w) A E s (lt' x y) Q st:=by
 rw[lt'_eq];refine Mg (Mn ?_);rw[b];exact Mg (wpS_lift (wpAny_attempt (a x y c d _ _ ⟨rfl,Mh h⟩)))
theorem wel{i:Nat}{p:Keyed}{Q:Keyed->SortSt->Prop}(hi:arr[i]? = some p)(h:Q p st):wpS (model prog w) A E s (elem' arr i) Q st:=by
 rw[elem'_eq,hi];exact Mh h
def B(lt:Keyed->Keyed->Bool)(l:Bool)(key x:Keyed):Bool:=if l then lt x key else !lt key x
theorem wbey{i:Nat}{Q:Option Bool->SortSt->Prop}(a:Cm prog w A s kd P lt)(b:kindOf st=kd)(hi:arr[i]? = some x)(c:P x)(d:P key)(h:Q (some (B lt l key x)) st):wpS (model prog w) A E s (bey l key arr i) Q st:=by
 unfold bey;refine Mg (wel hi ?_);cases l with
 | true=>exact wlt a b c d h
 | false=>exact Mg (wlt a b d c (Mh h))
theorem wgal{O:Nat}{Q:Option Nat->SortSt->Prop}(H:Cm prog w A s kd P lt)(J:kindOf st=kd)(K:P key)(L:∀ i,i < n->arr[O+i]? = some (f i))(M:∀ i,i < n->P (f i))(hm:∀ i j,i<=j->j < n->B lt l key (f j)=true->B lt l key (f i)=true)(R:g < n)(h:∀ k,k<=n->(∀ i,i < k->B lt l key (f i)=true)->(∀ i,k<=i->i < n->B lt l key (f i)=false)->Q (some k) st):wpS (model prog w) A E s (gal l key arr O n g) Q st:=by
 have D:∀ i j,i<=j->j < n->B lt l key (f i)=false->B lt l key (f j)=false:=λ i j a b c=>by
   cases e:B lt l key (f j) with
   | false=>rfl
   | true=>rw[hm i j a b e] at c;cases c
 have fin:∀ u v,u<=v->v<=n->(∀ i,i < u->B lt l key (f i)=true)->(∀ i,v<=i->i < n->B lt l key (f i)=false) ->
    wpS (model prog w) A E s (do
      let mut u:=u
      let mut v:=v
      for _ in [0:n] do
       if u ≥ v then break
       let m:=u+(v - u) / 2
       let some c <- bey l key arr (O+m) | return none
       if c then u:=m+1 else v:=m
      return some v) Q st:=by
   intro u v W X Y Z;refine Mg (Ml (Mi (I:=λ x c d=>d=st/\∃ u v,c=(none,u,v)/\u<=v/\v<=n/\v - u<=n - x/\(∀ i,i < u->B lt l key (f i)=true)/\(∀ i,v<=i->i < n->B lt l key (f i)=false))
     (Q:=λ c d=>d=st/\∃ v,c=(none,v,v)/\v<=n/\(∀ i,i < v->B lt l key (f i)=true)/\(∀ i,v<=i->i < n->B lt l key (f i)=false)) ?_ ?_ ⟨rfl,u,v,rfl,W,X,by omega,Y,Z⟩) ?_)
   . rintro x c d - S ⟨rfl,u,v,rfl,t,y,r,q,z⟩
     dsimp only;by_cases T:u ≥ v
     . rw[if_pos T]
       obtain rfl:u=v:=by omega
       exact Mh ⟨rfl,u,rfl,y,q,z⟩
     rw[if_neg T];refine Mg (wbey H J (L _ (by omega)) (M _ (by omega)) K ?_);cases C:B lt l key (f (u+(v - u) / 2)) with
     | true=>exact Mh ⟨rfl,_,v,rfl,by omega,y,by omega,λ i U=>hm i _ (by omega) (by omega) C,z⟩
     | false=>exact Mh ⟨rfl,u,_,rfl,by omega,by omega,by omega,q,λ i N F=>D _ i N F C⟩
   . rintro c d ⟨rfl,u,v,rfl,t,y,r,q,z⟩
     obtain rfl:u=v:=by omega
     exact⟨rfl,u,rfl,y,q,z⟩
   rintro c d ⟨rfl,v,rfl,y,q,z⟩;exact Mh (h v y q z)
 rw[qaT1];refine Mg (wbey H J (L _ R) (M _ R) K ?_);dsimp only;cases V:B lt l key (f g) with
 | true =>
   rw[if_pos rfl];refine Mg (Ml (Mi (I:=λ x c d=>d=st/\∃ p o,c=(none,p,o)/\p < o/\x+1<=o/\g+p < n/\B lt l key (f (g+p))=true)
     (Q:=λ c d=>d=st/\∃ p o,c=(none,p,o)/\p < o/\g+p < n/\B lt l key (f (g+p))=true/\(o < n - g->B lt l key (f (g+o))=false)) ?_ ?_ ⟨rfl,0,1,rfl,by omega,by omega,by omega,V⟩) ?_)
   . rintro x c d - S ⟨rfl,p,o,rfl,t,y,r,q⟩
     dsimp only;by_cases G:o ≥ n - g
     . rw[if_pos G];exact Mh ⟨rfl,p,o,rfl,t,r,q,λ h=>by omega⟩
     rw[if_neg G];refine Mg (wbey H J (L _ (by omega)) (M _ (by omega)) K ?_);cases C:B lt l key (f (g+o)) with
     | true=>exact Mh ⟨rfl,o,_,rfl,by omega,by omega,by omega,C⟩
     | false=>exact Mh ⟨rfl,p,o,rfl,t,r,q,λ _=>C⟩
   . rintro c d ⟨rfl,p,o,rfl,t,y,r,q⟩
     exact⟨rfl,p,o,rfl,t,r,q,λ h=>by omega⟩
   rintro c d ⟨rfl,p,o,rfl,t,r,q,z⟩;refine fin (g+p+1) (g+min o (n - g)) (by omega) (by omega) (λ i U=>hm i _ (by omega) r q) λ i N F=>?_
   exact D (g+o) i (by omega) F (z (by omega))
 | false =>
   rw[if_neg (by decide)];refine Mg (Ml (Mi (I:=λ x c d=>d=st/\∃ p o,c=(none,p,o)/\p < o/\x+1<=o/\p<=g/\B lt l key (f (g - p))=false)
     (Q:=λ c d=>d=st/\∃ p o,c=(none,p,o)/\p < o/\p<=g/\B lt l key (f (g - p))=false/\(o < g+1->B lt l key (f (g - o))=true)) ?_ ?_ ⟨rfl,0,1,rfl,by omega,by omega,by omega,V⟩) ?_)
   . rintro x c d - S ⟨rfl,p,o,rfl,t,y,r,q⟩
     dsimp only;by_cases G:o ≥ g+1
     . rw[if_pos G];exact Mh ⟨rfl,p,o,rfl,t,r,q,λ h=>by omega⟩
     rw[if_neg G];refine Mg (wbey H J (L _ (by omega)) (M _ (by omega)) K ?_);cases C:B lt l key (f (g - o)) with
     | true=>exact Mh ⟨rfl,p,o,rfl,t,r,q,λ _=>C⟩
     | false=>exact Mh ⟨rfl,o,_,rfl,by omega,by omega,by omega,C⟩
   . rintro c d ⟨rfl,p,o,rfl,t,y,r,q⟩
     exact⟨rfl,p,o,rfl,t,r,q,λ h=>by omega⟩
   rintro c d ⟨rfl,p,o,rfl,t,r,q,z⟩;refine fin (g+1 - min o (g+1)) (g - p) (by omega) (by omega) (λ i U=>hm i (g - o) (by omega) (by omega) (z (by omega))) λ i N F=>D _ i N F q
end
noncomputable abbrev lee(lt:Keyed->Keyed->Bool):Keyed->Keyed->Bool:=λ x y=>!lt y x
section
variable{α:Type}{le:α->α->Bool}
theorem Lg{A2 Y:List α}{y:α}:∀{A1:List α},(∀ a∈A1,le a y=true)->List.merge (A1++A2) (y::Y) le=A1++List.merge A2 (y::Y) le
 | [],_=>rfl
 | x::A1,h=>by rw[zBr,zB3,if_pos (h x (by simp)),Lg λ a b=>h a (by simp[b])];rfl
theorem Lh{B2 X:List α}{x:α}:∀{B1:List α},(∀ b∈B1,le x b=false)->List.merge (x::X) (B1++B2) le=B1++List.merge (x::X) B2 le
 | [],_=>rfl
 | b::B1,h=>by rw[zBr,zB3,if_neg (by simp[h b (by simp)]),Lh λ a c=>h a (by simp[c])];rfl
end
noncomputable def att(a:Array Keyed)(i:Nat):Keyed:=a.getD i (Value.none,Value.none)
theorem qb7{a:Array Keyed}{i:Nat}(h:i < a.size):a[i]? = some (att a i):=by simp[att,Array.getD,h]
theorem Ga{a:Array Keyed}{i:Nat}(h:i < a.size):a.toList.drop i=att a i::a.toList.drop (i+1):=by
 rw[List.drop_eq_getElem_cons (by simpa using h)];simp[att,Array.getD,h]
def Srt(lt:Keyed->Keyed->Bool)(f:Nat->Keyed)(n:Nat):Prop:=∀ i j,i<=j->j < n->lt (f j) (f i)=false
theorem Srt.drop{lt:Keyed->Keyed->Bool}{k:Nat}(h:Srt lt f n):Srt lt (λ i=>f (k+i)) (n - k):=λ i j a b=>h _ _ (by lia) (by lia)
theorem qq3{a:Array Keyed}{i k:Nat}(h:x∈(a.toList.drop i).take k):∃ j,j < k/\i+j < a.size/\x=att a (i+j):=by
 obtain⟨j,b,e⟩:=List.mem_iff_getElem.mp h;rw[zBq,zC8,zB1] at b;refine⟨j,by lia,by lia,?_⟩;rw[<- e,List.getElem_take,List.getElem_drop];simp[att,Array.getD,show i+j < a.size by lia]
theorem qc6{a:Array Keyed}{i j:Nat}:(a.extract i j).toList=(a.toList.drop i).take (j - i):=by simp[List.take_drop]
section
variable{prog:Program}{w:World}{A:Around}{E:V'->Sh->Prop}{s:Sh}{kd:SortKind}{P:Keyed->Prop}{lt:Keyed->Keyed->Bool}{st:SortSt}
theorem wgs{a:Nat}{Q:Option Nat->SortSt->Prop}(c:Od lt)(o:Cm prog w A s kd P lt)(p:kindOf st=kd)(q:P key)(y:a+n<=arr.size)(r:∀ i,i < arr.size->P (att arr i))(t:Srt lt (λ i=>att arr (a+i)) n)(u:g < n)(h:∀ k,k<=n->(∀ i,i < k->B lt l key (att arr (a+i))=true)->(∀ i,k<=i->i < n->B lt l key (att arr (a+i))=false)->Q (some k) st):wpS (model prog w) A E s (gal l key arr a n g) Q st:=by
 refine wgal (f:=λ i=>att arr (a+i)) o p q (λ i v=>qb7 (by lia)) (λ i v=>r _ (by lia)) (λ i j b x d=>?_) u h;have m:=t i j b x;cases l with
 | false =>
   have e:lt key (att arr (a+j))=false:=by simpa[B] using d
   show (!lt key (att arr (a+i)))=true;rw[c.tr _ _ _ m e];rfl
 | true =>
   show lt (att arr (a+i)) key=true;cases e:lt (att arr (a+i)) key with
   | true=>rfl
   | false=>have:=c.tr _ _ _ e m;rw[show lt (att arr (a+j)) key=true from d] at this;cases this
def R(st a:SortSt):Prop:=kindOf a=kindOf st/\arrOf a=arrOf st/\Mj a=Mj st/\Mm a=Mm st
noncomputable def mlo:Array Keyed->Array Keyed->StateT SortSt Sem (Array Keyed):=sortPriv% PySem.Builtin.mergeLo
noncomputable def smg:Nat->StateT SortSt Sem Unit:=sortPriv% PySem.Builtin.setMinGallop
theorem wsmg{a:SortSt}(c:R a st)(h:∀ b,R a b->Q () b):wpS (model prog w) A E s (smg g) Q st :=
 Mo (h _ c)
theorem qaR0(a b:Array Keyed):mlo a b=(do
 rule "list.sort.merge-lo"
 let tt:=a.size+b.size
 let dn (o:Array Keyed) (i j:Nat):=o++a.extract i a.size++b.extract j b.size
 let la (o:Array Keyed) (i j:Nat):=o++b.extract j b.size++a.extract i a.size
 let mut o:Array Keyed:=#[<- elem' b 0]
 let mut i:=0
 let mut j:=1
 if j == b.size then return dn o i j
 if i+1 == a.size then return la o i j
 let mut g:=gallopOf (<- get)
 for _ in [0:tt] do
   let mut x:=0
   let mut y:=0
   for _ in [0:tt] do
     let some t <- lt' (<- elem' b j) (<- elem' a i) | return dn o i j
     if t then
       o:=o.push (<- elem' b j);j:=j+1;y:=y+1;x:=0
       if j == b.size then return dn o i j
       if y ≥ g then break
     else
       o:=o.push (<- elem' a i);i:=i+1;x:=x+1;y:=0
       if i+1 == a.size then return la o i j
       if x ≥ g then break
   rule "list.sort.gallop"
   g:=g+1
   for _ in [0:tt] do
     if g > 1 then g:=g - 1
     smg g
     let some k <- gal false (<- elem' b j) a i (a.size - i) 0 | return dn o i j
     x:=k
     if k > 0 then
       o:=o++a.extract i (i+k);i:=i+k
       if i+1 == a.size then return la o i j
       if i == a.size then return dn o i j
     o:=o.push (<- elem' b j);j:=j+1
     if j == b.size then return dn o i j
     let some k <- gal true (<- elem' a i) b j (b.size - j) 0 | return dn o i j
     y:=k
     if k > 0 then
       o:=o++b.extract j (j+k);j:=j+k
       if j == b.size then return dn o i j
     o:=o.push (<- elem' a i);i:=i+1
     if i+1 == a.size then return la o i j
     if x < 7&&y < 7 then break
   g:=g+1
   smg g
 unsupported "internal:list.sort.merge-bound"):=rfl
theorem wif{α:Type}{c:Prop}[Decidable c]{m n:StateT SortSt Sem α}{Q:α->SortSt->Prop}(h1:c->wpS (model prog w) A E s m Q st)(h2:¬ c->wpS (model prog w) A E s n Q st):wpS (model prog w) A E s (if c then m else n) Q st:=by
 by_cases h:c
 . rw[if_pos h];exact h1 h
 rw[if_neg h];exact h2 h
def Eq2(lt:Keyed->Keyed->Bool)(a b o:Array Keyed)(i j:Nat):Prop:=o.toList++List.merge (a.toList.drop i) (b.toList.drop j) (lee lt)=List.merge a.toList b.toList (lee lt)
variable{a b o:Array Keyed}{i j k:Nat}
theorem Eq2.done(h:Eq2 lt a b o i j)(c:j=b.size∨i=a.size):(o++a.extract i a.size++b.extract j b.size).toList=List.merge a.toList b.toList (lee lt):=by
 rw[<- h,zB2,zB2,qc6,qc6,zAq];congr 1;rw[zAs (by simp),zAs (by simp)];rcases c with rfl | rfl
 . rw[show b.toList.drop b.size=[] by simp,zAf,List.merge_right]
 rw[show a.toList.drop a.size=[] by simp,zB6,List.nil_merge]
theorem Eq2.last(h:Eq2 lt a b o i j)(hi:i+1=a.size)(d:∀ n,n < b.size->lt (att b n) (att a i)=true):(o++b.extract j b.size++a.extract i a.size).toList=List.merge a.toList b.toList (lee lt):=by
 rw[<- h,zB2,zB2,qc6,qc6,zAq];congr 1;rw[zAs (by simp),zAs (by simp),Ga (a:=a) (i:=i) (by lia),show a.toList.drop (i+1)=[] from List.drop_eq_nil_of_le (by simp;lia)]
 have:=Lh (le:=lee lt) (B2:=[]) (X:=[]) (x:=att a i) (B1:=b.toList.drop j) λ x c=>by
   rw[<- zAs (l:=b.toList.drop j) (zA3 _)] at c;obtain⟨n,_,e,rfl⟩:=qq3 c;simp[d _ e]
 rw[zAf] at this;rw[this];simp
theorem Eq2.pb(h:Eq2 lt a b o i j)(hi:i < a.size)(c:j < b.size)(d:lt (att b j) (att a i)=true):Eq2 lt a b (o.push (att b j)) i (j+1):=by
 unfold Eq2 at h ⊢;rw[<- h,Array.toList_push,zAq,Ga hi,Ga c,zB3,if_neg (by simp[d])];rfl
theorem Eq2.pa(h:Eq2 lt a b o i j)(hi:i < a.size)(c:j < b.size)(d:lt (att b j) (att a i)=false):Eq2 lt a b (o.push (att a i)) (i+1) j:=by
 unfold Eq2 at h ⊢;rw[<- h,Array.toList_push,zAq,Ga hi,Ga c,zB3,if_pos (by simp[d])];rfl
theorem Eq2.ga(h:Eq2 lt a b o i j)(c:j < b.size)(d:∀ n,n < k->i+n < a.size->lt (att b j) (att a (i+n))=false):Eq2 lt a b (o++a.extract i (i+k)) (i+k) j:=by
 unfold Eq2 at h ⊢;rw[<- h,zB2,qc6,zAq,show i+k - i=k by lia,Ga c];congr 1
 conv=>rhs;rw[<- zBd k (a.toList.drop i)]
 rw[Lg (le:=lee lt),List.drop_drop];intro x e;obtain⟨n,f,g,rfl⟩:=qq3 e;simp[d n f g]
theorem Eq2.gb(h:Eq2 lt a b o i j)(hi:i < a.size)(c:∀ n,n < k->j+n < b.size->lt (att b (j+n)) (att a i)=true):Eq2 lt a b (o++b.extract j (j+k)) i (j+k):=by
 unfold Eq2 at h ⊢;rw[<- h,zB2,qc6,zAq,show j+k - j=k by lia,Ga hi];congr 1
 conv=>rhs;rw[<- zBd k (b.toList.drop j)]
 rw[Lh (le:=lee lt),List.drop_drop];intro x d;obtain⟨n,e,f,rfl⟩:=qq3 d;simp[c n e f]
theorem wmlo{Q:Array Keyed->SortSt->Prop}(hO:Od lt)(W:Cm prog w A s kd P lt)(X:kindOf st=kd)(L:∀ n,n < a.size->P (att a n))(M:∀ n,n < b.size->P (att b n))(Y:Srt lt (att a) a.size)(Z:Srt lt (att b) b.size)(a0:0 < a.size)(O:0 < b.size)(h0:lt (att b 0) (att a 0)=true)(hl:∀ n,n < b.size->lt (att b n) (att a (a.size - 1))=true)(h:∀ r f,R st f->r.toList=List.merge a.toList b.toList (lee lt)->Q r f):wpS (model prog w) A E s (mlo a b) Q st:=by
 have F:∀ i,i+1=a.size->∀ n,n < b.size->lt (att b n) (att a i)=true:=λ i e n hn=>by rw[show i=a.size - 1 by lia];exact hl n hn
 rw[qaR0];refine Mg (wpS_lift (Ma ⟨rfl,?_⟩));refine Mg (wel (qb7 O) ?_);have e1:Eq2 lt a b #[att b 0] 0 1:=Eq2.pb (o:=#[]) (i:=0) (j:=0) rfl a0 O h0;by_cases c1:1=b.size
 . rw[if_pos (by simpa using c1)]
   exact Mh (h _ st ⟨rfl,rfl,rfl,rfl⟩ (e1.done (.inl c1)))
 rw[if_neg (by simpa using c1)];by_cases U:0+1=a.size
 . rw[if_pos (by simpa using U)]
   exact Mh (h _ st ⟨rfl,rfl,rfl,rfl⟩ (e1.last U (F 0 U)))
 rw[if_neg (by simpa using U)];refine Mg (Mn ?_)
 let D (c:Option (Array Keyed)):Prop:=∃ r,c=some r/\r.toList=List.merge a.toList b.toList (lee lt)
 let G (n:Nat) (o:Array Keyed) (i j:Nat):Prop:=Eq2 lt a b o i j/\i+1 < a.size/\j < b.size/\n<=i+j
 refine Mg (Ml (Mi (I:=λ x c f=>R st f/\∃ o i j g,c=(none,o,i,j,g)/\G (x+1) o i j)
   (Q:=λ c f=>R st f/\D c.1) ?_ ?_ ⟨⟨rfl,rfl,rfl,rfl⟩,_,_,_,_,rfl,e1,by lia,by lia,by lia⟩) ?_)
 . rintro x c N - hx ⟨V,o,i,j,g,rfl,g1,g2,g3,g4⟩
   refine Mg (Ml (Mi (I:=λ y c f=>R st f/\∃ o i j p t,c=(none,o,i,j,p,t)/\G (x+1+y) o i j)
     (Q:=λ c f=>R st f/\(D c.1∨∃ o i j p t,c=(none,o,i,j,p,t)/\G (x+2) o i j)) ?_ ?_ ⟨V,_,_,_,_,_,rfl,g1,g2,g3,g4⟩) ?_)
   . rintro y c H - hy ⟨m,o,i,j,p,t,rfl,u,v,l,J⟩
     dsimp only;refine Mg (wel (qb7 l) (Mg (wel (qb7 (show i < a.size by lia)) (Mg (wlt W (m.1.trans X) (M _ l) (L _ (by lia)) ?_)))));cases hb:lt (att b j) (att a i) with
     | true =>
       refine Mg (wel (qb7 l) ?_);have e2:=u.pb (by lia) l hb;by_cases K:j+1=b.size
       . rw[if_pos (by simpa using K)]
         exact Mh ⟨m,.inl ⟨_,rfl,e2.done (.inl K)⟩⟩
       rw[if_neg (by simpa using K)];by_cases S:t+1 ≥ g
       . rw[if_pos S];exact Mh ⟨m,.inr ⟨_,_,_,_,_,rfl,e2,v,by lia,by lia⟩⟩
       rw[if_neg S];exact Mh ⟨m,_,_,_,_,_,rfl,e2,v,by lia,by lia⟩
     | false =>
       refine Mg (wel (qb7 (show i < a.size by lia)) ?_);have e2:=u.pa (by lia) l hb;by_cases K:i+1+1=a.size
       . rw[if_pos (by simpa using K)]
         exact Mh ⟨m,.inl ⟨_,rfl,e2.last K (F _ K)⟩⟩
       rw[if_neg (by simpa using K)];by_cases S:p+1 ≥ g
       . rw[if_pos S];exact Mh ⟨m,.inr ⟨_,_,_,_,_,rfl,e2,by lia,l,by lia⟩⟩
       rw[if_neg S];exact Mh ⟨m,_,_,_,_,_,rfl,e2,by lia,l,by lia⟩
   . rintro c H ⟨m,o,i,j,p,t,rfl,u,v,l,J⟩
     exact⟨m,.inr ⟨_,_,_,_,_,rfl,u,v,l,by lia⟩⟩
   rintro⟨c,c'⟩ H ⟨m,⟨r,rfl,e⟩ | ⟨o,i,j,p,t,e,u,v,l,J⟩⟩
   . exact Mh ⟨m,r,rfl,e⟩
   cases e;refine Mg (wpS_lift (Ma ⟨rfl,?_⟩));refine Mg (Ml (Mi (I:=λ y c f=>R st f/\∃ o i j g p t,c=(none,o,i,j,g,p,t)/\G (x+2) o i j)
     (Q:=λ c f=>R st f/\(D c.1∨∃ o i j g p t,c=(none,o,i,j,g,p,t)/\G (x+2) o i j)) ?_ ?_ ⟨m,_,_,_,_,_,_,rfl,u,v,l,J⟩) ?_)
   . rintro y c a2 - hy ⟨r3,o,i,j,g,p,t,rfl,u,v,l,J⟩
     dsimp only;refine wif (λ _=>?_) λ _=>?_
     all_goals
       refine Mg (wsmg r3 λ a1 C=>?_);refine Mg (wel (qb7 l) ?_);refine Mg (wgs hO W (C.1.trans X) (M _ l) (by lia) L Y.drop (by lia) λ k q1 q2 q3=>?_);have ea:=u.ga (k:=k) l λ n h1 h2=>by simpa[B] using q2 n h1
       have zz:i+k < a.size->lt (att b j) (att a (i+k))=true:=λ h=>by simpa[B] using q3 k (zA3 _) (by lia)
       refine wif (λ c=>wif (λ d=>Mh ⟨C,.inl ⟨_,rfl,ea.last (by simpa using d) (F _ (by simpa using d))⟩⟩) λ d=>wif (λ d'=>Mh ⟨C,.inl ⟨_,rfl,ea.done (.inr (by simpa using d'))⟩⟩) λ d'=>?_) λ c=>?_
       all_goals first
         | (have z1:i+k+1 < a.size:=by (simp at d d';lia)
            have e:=ea;have z:=zz (by lia);have zb:x+2<=i+k+j:=by lia)
         | (obtain rfl:k=0:=by lia
            have e:=u;have z1:=v;have z:=zz (by lia);have zb:=J)
       all_goals
         refine Mg (wel (qb7 l) (wif (λ d=>Mh ⟨C,.inl ⟨_,rfl,(e.pb (by lia) l z).done (.inl (by simpa using d))⟩⟩) λ d=>?_));have e2:=e.pb (by lia) l z;have z2:j+1 < b.size:=by simp at d;lia
         refine Mg (wel (qb7 (by lia)) (Mg (wgs hO W (C.1.trans X) (L _ (by lia)) (by lia) M Z.drop (by lia) λ q p1 p2 p3=>?_)));have eb:=e2.gb (k:=q) (by lia) λ n h1 h2=>p2 n h1
         refine wif (λ c=>wif (λ d=>Mh ⟨C,.inl ⟨_,rfl,eb.done (.inl (by simpa using d))⟩⟩) λ d2=>?_) λ c=>?_
         all_goals first
           | (have T:j+1+q < b.size:=by (simp at d2;lia)
              have e3:=eb;have z4:=p3 q (zA3 _) (by lia))
           | (obtain rfl:q=0:=by lia
              have e3:=e2;have T:=z2;have z4:=p3 0 (zA3 _) (by lia))
         all_goals
           refine Mg (wel (qb7 (by lia)) (wif (λ d=>Mh ⟨C,.inl ⟨_,rfl,(e3.pa (by lia) T z4).last (by simpa using d) (F _ (by simpa using d))⟩⟩) λ d=>?_));have z5:=e3.pa (by lia) T z4;exact wif (λ _=>Mh ⟨C,.inr ⟨_,_,_,_,_,_,rfl,z5,by simp at d;lia,T,by lia⟩⟩) λ _=>Mh ⟨C,_,_,_,_,_,_,rfl,z5,by simp at d;lia,T,by lia⟩
   . rintro c H ⟨m,o,i,j,g,p,t,rfl,u,v,l,J⟩
     exact⟨m,.inr ⟨_,_,_,_,_,_,rfl,u,v,l,J⟩⟩
   rintro⟨c,c'⟩ H ⟨m,⟨r,rfl,e⟩ | ⟨o,i,j,g,p,t,e,u,v,l,J⟩⟩
   . exact Mh ⟨m,r,rfl,e⟩
   cases e;exact Mg (wsmg m λ a1 C=>Mh ⟨C,_,_,_,_,rfl,u,v,l,J⟩)
 . rintro c N ⟨V,o,i,j,g,rfl,g1,g2,g3,g4⟩
   lia
 rintro⟨c,c'⟩ N ⟨V,r,rfl,e⟩;exact Mh (h r N V e)
end
section
variable{prog:Program}{w:World}{A:Around}{E:V'->Sh->Prop}{s:Sh}{kd:SortKind}{P:Keyed->Prop}{lt:Keyed->Keyed->Bool}{st:SortSt}
noncomputable def mhi:Array Keyed->Array Keyed->StateT SortSt Sem (Array Keyed):=sortPriv% PySem.Builtin.mergeHi
theorem qaR1(a b:Array Keyed):mhi a b=(do
 rule "list.sort.merge-hi"
 let tt:=a.size+b.size
 let dn (o:Array Keyed) (i j:Nat):=a.extract 0 i++b.extract 0 j++o.reverse
 let fb (o:Array Keyed) (i j:Nat):=b.extract 0 j++a.extract 0 i++o.reverse
 let mut i:=a.size - 1
 let mut j:=b.size
 let mut o:Array Keyed:=#[<- elem' a i]
 if i == 0 then return dn o i j
 if j == 1 then return fb o i j
 let mut g:=gallopOf (<- get)
 for _ in [0:tt] do
   let mut x:=0
   let mut y:=0
   for _ in [0:tt] do
     let some t <- lt' (<- elem' b (j - 1)) (<- elem' a (i - 1)) | return dn o i j
     if t then
       i:=i - 1;o:=o.push (<- elem' a i);x:=x+1;y:=0
       if i == 0 then return dn o i j
       if x ≥ g then break
     else
       j:=j - 1;o:=o.push (<- elem' b j);y:=y+1;x:=0
       if j == 1 then return fb o i j
       if y ≥ g then break
   rule "list.sort.gallop"
   g:=g+1
   for _ in [0:tt] do
     if g > 1 then g:=g - 1
     smg g
     let some q <- gal false (<- elem' b (j - 1)) a 0 i (i - 1) | return dn o i j
     let k:=i - q
     x:=k
     if k > 0 then
       o:=o++(a.extract q i).reverse;i:=q
       if i == 0 then return dn o i j
     j:=j - 1;o:=o.push (<- elem' b j)
     if j == 1 then return fb o i j
     let some q <- gal true (<- elem' a (i - 1)) b 0 j (j - 1) | return dn o i j
     let k:=j - q
     y:=k
     if k > 0 then
       o:=o++(b.extract q j).reverse;j:=q
       if j == 1 then return fb o i j
       if j == 0 then return dn o i j
     i:=i - 1;o:=o.push (<- elem' a i)
     if i == 0 then return dn o i j
     if x < 7&&y < 7 then break
   g:=g+1
   smg g
 unsupported "internal:list.sort.merge-bound"):=rfl
def Eq3(lt:Keyed->Keyed->Bool)(a b o:Array Keyed)(i j:Nat):Prop:=List.merge (a.toList.take i) (b.toList.take j) (lee lt)++o.toList.reverse=List.merge a.toList b.toList (lee lt)
variable{a b o:Array Keyed}{i j k:Nat}
theorem qY9{a:Array Keyed}{k:Nat}(h:x∈a.toList.take k):∃ j,j < k/\j < a.size/\x=att a j:=by
 obtain⟨j,b,c,e⟩:=qq3 (i:=0) (k:=k) (by simpa using h);exact⟨j,b,by lia,by rw[e,zAr]⟩
theorem qU6{a:Array Keyed}{i:Nat}(h:q<=i):a.toList.take i=a.toList.take q++(a.extract q i).toList:=by
 rw[qc6]
 conv=>lhs;rw[show i=q+(i - q) by lia,List.take_add]
theorem ext1{a:Array Keyed}{i:Nat}(h:0 < i)(hi:i<=a.size):(a.extract (i - 1) i).toList=[att a (i - 1)]:=by
 rw[qc6,Ga (by lia),show i - (i - 1)=1 by lia];rfl
theorem Eq3.done(h:Eq3 lt a b o i j)(c:i=0∨j=0):(a.extract 0 i++b.extract 0 j++o.reverse).toList=List.merge a.toList b.toList (lee lt):=by
 rw[<- h,zB2,zB2,qc6,qc6,Array.toList_reverse];congr 1;rcases c with rfl | rfl
 . simp
 simp
theorem Eq3.first(h:Eq3 lt a b o i j)(c:j=1)(k:0 < b.size)(d:∀ n,n < a.size->lt (att b 0) (att a n)=true):(b.extract 0 j++a.extract 0 i++o.reverse).toList=List.merge a.toList b.toList (lee lt):=by
 rw[<- h,zB2,zB2,qc6,qc6,Array.toList_reverse];congr 1;subst c
 have:=mg_r (le:=lee lt) (B2:=[]) (B1:=b.toList.take 1) (X:=a.toList.take i) λ y e x f=>by
   obtain⟨n,_,g,rfl⟩:=qY9 f;obtain⟨m,l,p,rfl⟩:=qY9 e;obtain rfl:m=0:=by lia
   simp[d _ g]
 rw[zAf] at this;rw[this];simp
theorem Eq3.ga(h:Eq3 lt a b o i j)(f:Od lt)(c:Srt lt (att b) b.size)(g:q<=i)(s:0 < j)(k:j<=b.size)(l:∀ n,q<=n->n < i->n < a.size->lt (att b (j - 1)) (att a n)=true) :
   Eq3 lt a b (o++(a.extract q i).reverse) q j:=by
 unfold Eq3 at h ⊢;rw[<- h,qU6 g,Lf (le:=lee lt)]
 . simp
 intro x d y p;rw[qc6] at d;obtain⟨n,t,r,rfl⟩:=qq3 d;obtain⟨m,u,v,rfl⟩:=qY9 p;have e:=l (q+n) (by lia) (by lia) r;show (!lt (att b m) (att a (q+n)))=false;cases e2:lt (att b m) (att a (q+n)) with
 | true=>rfl
 | false=>rw[f.tr _ _ _ e2 (c m (j - 1) (by lia) (by lia))] at e;cases e
theorem Eq3.gb(h:Eq3 lt a b o i j)(f:Od lt)(c:Srt lt (att a) a.size)(g:q<=j)(hi:0 < i)(k:i<=a.size)(l:∀ n,q<=n->n < j->n < b.size->lt (att b n) (att a (i - 1))=false) :
   Eq3 lt a b (o++(b.extract q j).reverse) i q:=by
 unfold Eq3 at h ⊢;rw[<- h,qU6 g,Jo (le:=lee lt)]
 . simp
 intro y d x p;rw[qc6] at d;obtain⟨n,s,r,rfl⟩:=qq3 d;obtain⟨m,t,u,rfl⟩:=qY9 p;have e:=l (q+n) (by lia) (by lia) r;show (!lt (att b (q+n)) (att a m))=true;rw[f.tr _ _ _ (c m (i - 1) (by lia) (by lia)) e];rfl
theorem Eq3.pa(h:Eq3 lt a b o i j)(f:Od lt)(c:Srt lt (att b) b.size)(hi:0 < i)(d:i<=a.size)(g:0 < j)(e:j<=b.size)(k:lt (att b (j - 1)) (att a (i - 1))=true):Eq3 lt a b (o.push (att a (i - 1))) (i - 1) j:=by
 have:=h.ga f c (q:=i - 1) (by lia) g e λ n l m _=>by rw[show n=i - 1 by lia];exact k
 rwa[show o++(a.extract (i - 1) i).reverse=o.push (att a (i - 1)) from Array.toList_inj.mp (by rw[zB2,Array.toList_reverse,ext1 hi d,Array.toList_push];rfl)] at this
theorem Eq3.pb(h:Eq3 lt a b o i j)(f:Od lt)(c:Srt lt (att a) a.size)(hi:0 < i)(d:i<=a.size)(g:0 < j)(e:j<=b.size)(k:lt (att b (j - 1)) (att a (i - 1))=false):Eq3 lt a b (o.push (att b (j - 1))) i (j - 1):=by
 have:=h.gb f c (q:=j - 1) (by lia) hi d λ n l m _=>by rw[show n=j - 1 by lia];exact k
 rwa[show o++(b.extract (j - 1) j).reverse=o.push (att b (j - 1)) from Array.toList_inj.mp (by rw[zB2,Array.toList_reverse,ext1 g e,Array.toList_push];rfl)] at this
theorem wmhi{Q:Array Keyed->SortSt->Prop}(M:Od lt)(hC:Cm prog w A s kd P lt)(hk:kindOf st=kd)(T:∀ n,n < a.size->P (att a n))(U:∀ n,n < b.size->P (att b n))(N:Srt lt (att a) a.size)(H:Srt lt (att b) b.size)(a0:0 < a.size)(J:0 < b.size)(Z:∀ n,n < a.size->lt (att b 0) (att a n)=true)(hl:lt (att b (b.size - 1)) (att a (a.size - 1))=true)(h:∀ r f,R st f->r.toList=List.merge a.toList b.toList (lee lt)->Q r f):wpS (model prog w) A E s (mhi a b) Q st:=by
 rw[qaR1];refine Mg (wpS_lift (Ma ⟨rfl,?_⟩));refine Mg (wel (qb7 (by lia)) ?_);have e1:Eq3 lt a b #[att a (a.size - 1)] (a.size - 1) b.size :=
   Eq3.pa (o:=#[]) (i:=a.size) (j:=b.size) (by unfold Eq3;rw[show a.toList.take a.size=a.toList from zAs (zC4 zB1),show b.toList.take b.size=b.toList from zAs (zC4 zB1)];simp) M H a0 (zA3 _) J (zA3 _) hl
 refine wif (λ c=>Mh (h _ st ⟨rfl,rfl,rfl,rfl⟩ (e1.done (.inl (by simpa using c))))) λ c1=>?_
 refine wif (λ c=>Mh (h _ st ⟨rfl,rfl,rfl,rfl⟩ (e1.first (by simpa using c) J Z))) λ c2=>?_
 refine Mg (Mn ?_)
 let D (c:Option (Array Keyed)):Prop:=∃ r,c=some r/\r.toList=List.merge a.toList b.toList (lee lt)
 let G (n:Nat) (o:Array Keyed) (i j:Nat):Prop:=Eq3 lt a b o i j/\0 < i/\i<=a.size/\1 < j/\j<=b.size/\n+i+j<=a.size+b.size
 simp at c1 c2;refine Mg (Ml (Mi (I:=λ x c f=>R st f/\∃ i j o g,c=(none,i,j,o,g)/\G (x+1) o i j)
   (Q:=λ c f=>R st f/\D c.1) ?_ ?_ ⟨⟨rfl,rfl,rfl,rfl⟩,_,_,_,_,rfl,e1,by lia,by lia,by lia,by lia,by lia⟩) ?_)
 . rintro x c V - hx ⟨r1,i,j,o,g,rfl,g1,g2,g3,g4,g5,g6⟩
   refine Mg (Ml (Mi (I:=λ y c f=>R st f/\∃ i j o v C,c=(none,i,j,o,v,C)/\G (x+1+y) o i j)
     (Q:=λ c f=>R st f/\(D c.1∨∃ i j o v C,c=(none,i,j,o,v,C)/\G (x+2) o i j)) ?_ ?_ ⟨r1,_,_,_,_,_,rfl,g1,g2,g3,g4,g5,by lia⟩) ?_)
   . rintro y c O - hy ⟨k,i,j,o,v,C,rfl,F,t,u,K,l,S⟩
     dsimp only;refine Mg (wel (qb7 (by lia)) (Mg (wel (qb7 (by lia)) (Mg (wlt hC (k.1.trans hk) (U _ (by lia)) (T _ (by lia)) ?_)))));cases hb:lt (att b (j - 1)) (att a (i - 1)) with
     | true =>
       refine Mg (wel (qb7 (by lia)) ?_);have e2:=F.pa M H t u (by lia) l hb;refine wif (λ c=>Mh ⟨k,.inl ⟨_,rfl,e2.done (.inl (by simpa using c))⟩⟩) λ c=>?_
       simp at c;exact wif (λ _=>Mh ⟨k,.inr ⟨_,_,_,_,_,rfl,e2,by lia,by lia,K,l,by lia⟩⟩) λ _=>Mh ⟨k,_,_,_,_,_,rfl,e2,by lia,by lia,K,l,by lia⟩
     | false =>
       refine Mg (wel (qb7 (by lia)) ?_);have e2:=F.pb M N t u (by lia) l hb;refine wif (λ c=>Mh ⟨k,.inl ⟨_,rfl,e2.first (by simpa using c) J Z⟩⟩) λ c=>?_
       simp at c;exact wif (λ _=>Mh ⟨k,.inr ⟨_,_,_,_,_,rfl,e2,t,u,by lia,by lia,by lia⟩⟩) λ _=>Mh ⟨k,_,_,_,_,_,rfl,e2,t,u,by lia,by lia,by lia⟩
   . rintro c O ⟨k,i,j,o,v,C,rfl,F,t,u,K,l,S⟩
     exact⟨k,.inr ⟨_,_,_,_,_,rfl,F,t,u,K,l,by lia⟩⟩
   rintro⟨c,c'⟩ O ⟨k,⟨r,rfl,e⟩ | ⟨i,j,o,v,C,e,F,t,u,K,l,S⟩⟩
   . exact Mh ⟨k,r,rfl,e⟩
   cases e;refine Mg (wpS_lift (Ma ⟨rfl,?_⟩));refine Mg (Ml (Mi (I:=λ y c f=>R st f/\∃ i j o g v C,c=(none,i,j,o,g,v,C)/\G (x+2) o i j)
     (Q:=λ c f=>R st f/\(D c.1∨∃ i j o g v C,c=(none,i,j,o,g,v,C)/\G (x+2) o i j)) ?_ ?_ ⟨k,_,_,_,_,_,_,rfl,F,t,u,K,l,S⟩) ?_)
   . rintro y c a2 - hy ⟨r3,i,j,o,g,v,C,rfl,F,t,u,K,l,S⟩
     dsimp only;refine wif (λ _=>?_) λ _=>?_
     all_goals
       refine Mg (wsmg r3 λ a1 L=>?_);refine Mg (wel (qb7 (by lia)) ?_);refine Mg (wgs M hC (L.1.trans hk) (U _ (by lia)) (by lia) T (λ n m X Y=>N _ _ (by lia) (by lia)) (by lia) λ q q1 q2 q3=>?_);have ea:=F.ga M H q1 (by lia) l λ n X Y _=>by simpa[B] using q3 n X Y
       have zz:0 < q->lt (att b (j - 1)) (att a (q - 1))=false:=λ h=>by simpa[B] using q2 (q - 1) (by lia)
       refine wif (λ c=>wif (λ d=>Mh ⟨L,.inl ⟨_,rfl,ea.done (.inl (by simpa using d))⟩⟩) λ d'=>?_) λ c=>?_
       all_goals first
         | (have W:0 < q:=by (simp at d';lia)
            have e:=ea;have z2:q<=a.size:=by lia
            have z:=zz W;have zb:x+2+q+j<=a.size+b.size:=by lia)
         | (obtain rfl:q=i:=by lia
            have e:=F;have W:=t;have z2:=u;have z:=zz W;have zb:=S)
       all_goals
         have e2:=e.pb M N W z2 (by lia) l z;refine Mg (wel (qb7 (by lia)) (wif (λ d=>Mh ⟨L,.inl ⟨_,rfl,e2.first (by simpa using d) J Z⟩⟩) λ d=>?_));simp at d;refine Mg (wel (qb7 (by lia)) (Mg (wgs M hC (L.1.trans hk) (T _ (by lia)) (by lia) U (λ n m X Y=>H _ _ (by lia) (by lia)) (by lia) λ p p1 p2 p3=>?_)));have eb:=e2.gb M N p1 W z2 λ n X Y _=>by simpa[B] using p3 n X Y
         have yy:0 < p->lt (att b (p - 1)) (att a (_ - 1))=true:=λ h=>by simpa[B] using p2 (p - 1) (by lia)
         refine wif (λ c=>wif (λ d=>Mh ⟨L,.inl ⟨_,rfl,eb.first (by simpa using d) J Z⟩⟩) λ d1=>wif (λ d=>Mh ⟨L,.inl ⟨_,rfl,eb.done (.inr (by simpa using d))⟩⟩) λ d2=>?_) λ c=>?_
         all_goals first
           | (have y1:1 < p:=by (simp at d1 d2;lia)
              have e3:=eb;have y2:p<=b.size:=by lia
              have y4:=yy (by lia);have y5:x+2+_+p<=a.size+b.size:=zAn (Nat.add_le_add_left (by lia:p<=j) _) zb)
           | (obtain rfl:p=j - 1:=by lia
              have e3:=e2;have y1:1 < j - 1:=by lia
              have y2:j - 1<=b.size:=by lia
              have y4:=yy (by lia);have y5:x+2+_+(j - 1)<=a.size+b.size:=zAn (Nat.add_le_add_left (by lia:j - 1<=j) _) zb)
         all_goals
           have e4:=e3.pa M H W z2 (by lia) y2 y4;refine Mg (wel (qb7 (by lia)) (wif (λ d=>Mh ⟨L,.inl ⟨_,rfl,e4.done (.inl (by simpa using d))⟩⟩) λ d=>?_));simp at d;exact wif (λ _=>Mh ⟨L,.inr ⟨_,_,_,_,_,_,rfl,e4,by lia,by lia,y1,y2,by lia⟩⟩) λ _=>Mh ⟨L,_,_,_,_,_,_,rfl,e4,by lia,by lia,y1,y2,by lia⟩
   . rintro c O ⟨k,i,j,o,g,v,C,rfl,F,t,u,K,l,S⟩
     exact⟨k,.inr ⟨_,_,_,_,_,_,rfl,F,t,u,K,l,S⟩⟩
   rintro⟨c,c'⟩ O ⟨k,⟨r,rfl,e⟩ | ⟨i,j,o,g,v,C,e,F,t,u,K,l,S⟩⟩
   . exact Mh ⟨k,r,rfl,e⟩
   cases e;exact Mg (wsmg k λ a1 L=>Mh ⟨L,_,_,_,_,rfl,F,t,u,K,l,by lia⟩)
 . rintro c V ⟨r1,i,j,o,g,rfl,g1,g2,g3,g4,g5,g6⟩
   lia
 rintro⟨c,c'⟩ V ⟨r1,r,rfl,e⟩;exact Mh (h r V r1 e)
end
theorem qk5{ys:Array Keyed}{i j:Nat}(h:xs[i]? = ys[j]?):att xs i=att ys j:=by
 have e:∀(a:Array Keyed) k,att a k=(a[k]?).getD (Value.none,Value.none):=λ a k=>by simp[att,Array.getD_eq_getD_getElem?]
 rw[e,e,h]
theorem qae2{src d:Nat}(a:src < xs.size)(b:d<=src)(k:Nat) :
   att (bubble xs src d) k=if k=src - d then att xs src else if src - d < k/\k<=src then att xs (k - 1) else att xs k:=by
 have e:=getElem?_bubble a d b k;split at e
 . rw[if_pos (by assumption)];exact qk5 e
 rw[if_neg (by assumption)];split at e
 . rw[if_pos (by assumption)];exact qk5 e
 rw[if_neg (by assumption)];exact qk5 e
theorem qae1{i j:Nat}(a:j<=xs.size)(k:Nat) :
   att (mirror xs i j ((j - i) / 2)) k=if i<=k/\k < j then att xs (i+j - 1 - k) else att xs k:=by
 have e:=getElem?_mirror_all (i:=i) a k;split at e
 . rw[if_pos (by assumption)];exact qk5 e
 rw[if_neg (by assumption)];exact qk5 e
theorem qar5{a:Array Keyed}{i:Nat}(h:i < a.size):att a i∈a.toList:=by simp[att,Array.getD,h]
theorem Srt.more{lt:Keyed->Keyed->Bool}{x:Nat}(h:Srt lt f x)(d:Od lt)(e:0 < x->lt (f x) (f (x - 1))=false):Srt lt f (x+1):=λ i j a b=>by
 by_cases c:j < x
 . exact h i j a c
 obtain rfl:j=x:=by lia
 by_cases q:i=j
 . rw[q];exact d.ir _
 exact d.tr _ _ _ (h i (j - 1) (by lia) (by lia)) (e (by lia))
structure Bt(a0:Array Keyed)(lo:Nat)(st st':SortSt):Prop where
 kd:kindOf st'=kindOf st
 fl:Mm st'=Mm st
 pd:Mj st'=Mj st
 pm:(arrOf st').Perm a0
 pr:∀ i,i < lo->att (arrOf st') i=att (arrOf st) i
section
variable{prog:Program}{w:World}{A:Around}{E:V'->Sh->Prop}{s:Sh}{kd:SortKind}{lt:Keyed->Keyed->Bool}{st st1:SortSt}{a0:Array Keyed}{lo:Nat}
theorem Bt.sz(h:Bt a0 lo st st1):(arrOf st1).size=a0.size:=h.pm.size_eq
theorem Bt.mem(h:Bt a0 lo st st1){i:Nat}(hi:i < a0.size):att (arrOf st1) i∈a0.toList:=(zBj.mp h.pm).mem_iff.mp (qar5 (by rw[h.sz];exact hi))
theorem Bt.set(h:Bt a0 lo st st1)(b:xs.Perm (arrOf st1))(c:∀ i,i < lo->att xs i=att (arrOf st1) i):Bt a0 lo st (setArr st1 xs) :=
 ⟨h.kd,h.fl,h.pd,b.trans h.pm,λ i a=>(c i a).trans (h.pr i a)⟩
abbrev Cn(prog:Program)(w:World)(A:Around)(s:Sh)(kd:SortKind)(a0:Array Keyed)(lt:Keyed->Keyed->Bool):Prop:=Cm prog w A s kd (λ x=>x∈a0.toList) lt
theorem wat{i j:Nat}{Q:Option Bool->SortSt->Prop}(b:Cn prog w A s kd a0 lt)(c:kindOf st=kd)(h:Bt a0 lo st st1)(hi:i < a0.size)(a:j < a0.size)(d:Q (some (lt (att (arrOf st1) i) (att (arrOf st1) j))) st1):wpS (model prog w) A E s (ltAt' i j) Q st1:=by
 rw[ltAt'_eq];refine Mg (Mn ?_);exact Mg (wel (qb7 (by rw[h.sz];exact hi)) (Mg (wel (qb7 (by rw[h.sz];exact a)) (wlt b (h.kd.trans c) (h.mem hi) (h.mem a) d))))
theorem wmv{p:Nat}(h:Q () (setArr st1 (bubble (arrOf st1) p (p - q)))):wpS (model prog w) A E s (moveDown' p q) Q st1:=by
 rw[moveDown'_eq];exact Mo h
theorem wbin{t:Nat}{Q:Bool->SortSt->Prop}(u:Od lt)(C:Cn prog w A s kd a0 lt)(D:kindOf st=kd)(R:lo+n<=a0.size)(F:t<=n)(h1:1<=t)(G:Bt a0 lo st st1)(H:Srt lt (λ i=>att (arrOf st1) (lo+i)) t)(h:∀ e,Bt a0 lo st e->Srt lt (λ i=>att (arrOf e) (lo+i)) n->Q true e):wpS (model prog w) A E s (binarySort' lo n t) Q st1:=by
 rw[binarySort'_eq];refine Mg (Ml (Mi (I:=λ k c e=>c=(none,())/\Bt a0 lo st e/\Srt lt (λ i=>att (arrOf e) (lo+i)) (min k n))
   (Q:=λ c e=>c=(none,())/\Bt a0 lo st e/\Srt lt (λ i=>att (arrOf e) (lo+i)) n) ?_ ?_ ⟨rfl,G,λ i j a b=>H i j a (by lia)⟩) ?_)
 . rintro k c f J K ⟨rfl,o,g⟩
   rw[show min k n=k by lia] at g;refine Mg (Ml (Mi (I:=λ x c e=>e=f/\∃ l r,c=(none,l,r)/\l<=r/\r<=k/\r - l<=k - x /\
       (∀ i,i < l->lt (att (arrOf f) (lo+k)) (att (arrOf f) (lo+i))=false)/\(∀ i,r<=i->i < k->lt (att (arrOf f) (lo+i)) (att (arrOf f) (lo+k))=false))
     (Q:=λ c e=>e=f/\∃ l,c=(none,l,l)/\l<=k /\
       (∀ i,i < l->lt (att (arrOf f) (lo+k)) (att (arrOf f) (lo+i))=false)/\(∀ i,l<=i->i < k->lt (att (arrOf f) (lo+i)) (att (arrOf f) (lo+k))=false)) ?_ ?_ ⟨rfl,0,k,rfl,by lia,by lia,by lia,λ i L=>by lia,λ i h1 y=>by lia⟩) ?_)
   . rintro x c m - S ⟨rfl,l,r,rfl,M,v,N,p,q⟩
     dsimp only;refine wif (λ d=>?_) λ d=>?_
     . obtain rfl:l=r:=by lia
       exact Mh ⟨rfl,l,rfl,v,p,q⟩
     refine Mg (wat C D o (by lia) (by lia) ?_);cases B:lt (att (arrOf m) (lo+k)) (att (arrOf m) (lo+(l+r) / 2)) with
     | true=>exact Mh ⟨rfl,l,_,rfl,by lia,by lia,by lia,p,λ i h1 y=>u.tr _ _ _ (u.as _ _ B) (g _ _ h1 y)⟩
     | false=>exact Mh ⟨rfl,_,r,rfl,by lia,by lia,by lia,λ i h1=>u.tr _ _ _ (g i _ (by lia) (by lia)) B,q⟩
   . rintro c m ⟨rfl,l,r,rfl,M,v,N,p,q⟩
     obtain rfl:l=r:=by lia
     exact⟨rfl,l,rfl,v,p,q⟩
   rintro c m ⟨rfl,l,rfl,v,p,q⟩;dsimp only;have z:lo+k < (arrOf m).size:=by rw[o.sz];lia
   refine Mg (wmv (Mh ⟨rfl,o.set (bubble_perm _ _ _) λ i L=>?_,?_⟩))
   . rw[qae2 z (by lia),if_neg (by lia),if_neg (by lia)]
   rw[show min (k+1) n=k+1 by lia];intro i j O T;show lt (att (bubble _ _ _) _) (att (bubble _ _ _) _)=false;rw[qae2 z (by lia),qae2 z (by lia)]
   repeat' split
   all_goals first
     | (exfalso;lia)
     | exact u.ir _
     | exact p _ (by lia)
     | (rw[show lo+j - 1=lo+(j - 1) by lia];exact q _ (by lia) (by lia))
     | (rw[show lo+j - 1=lo+(j - 1) by lia];exact g _ _ (by lia) (by lia))
     | (rw[show lo+j - 1=lo+(j - 1) by lia,show lo+i - 1=lo+(i - 1) by lia];exact g _ _ (by lia) (by lia))
     | exact g _ _ (by lia) (by lia)
 . rintro c f ⟨P,o,g⟩
   rw[show min (max (max t 1) n) n=n by lia] at g;exact⟨P,o,g⟩
 rintro c f ⟨rfl,o,g⟩;exact Mh (h f o g)
def Ds(lt:Keyed->Keyed->Bool)(a0:Array Keyed):Prop:=a0.toList.Pairwise λ x y=>lt x y=true∨lt y x=true
theorem Ds.at(h:Ds lt a0)(b:Bt a0 lo st st1){i j:Nat}(c:i≠j)(hi:i < a0.size)(n:j < a0.size)(e:lt (att (arrOf st1) i) (att (arrOf st1) j)=false):lt (att (arrOf st1) j) (att (arrOf st1) i)=true:=by
 have d:(arrOf st1).toList.Pairwise λ x y=>lt x y=true∨lt y x=true:=((zBj.mp b.pm).pairwise_iff λ h=>h.symm).mpr h
 rw[List.pairwise_iff_getElem] at d;have g:∀ k,k < a0.size->∃ a,(arrOf st1).toList[k]'a=att (arrOf st1) k:=λ k a=>⟨by rw[zB1,b.sz];exact a,by simp[att,Array.getD,show k < (arrOf st1).size by rw[b.sz];exact a]⟩
 obtain⟨f,l⟩:=g i hi;obtain⟨m,e2⟩:=g j n;rcases Nat.lt_or_gt_of_ne c with q | q
 . have:=d i j f m q
   rw[l,e2,e] at this;simpa using this
 have:=d j i m f q
 rw[l,e2,e] at this;simpa using this
theorem wcnt{m:Nat}{Q:Option Nat->SortSt->Prop}(u:Od lt)(D:Cn prog w A s kd a0 lt)(L:Ds lt a0)(F:kindOf st=kd)(S:lo+m<=a0.size)(h1:1<=m)(r:Bt a0 lo st st1)(h:∀ n f,Bt a0 lo st f->1<=n->n<=m->Srt lt (λ i=>att (arrOf f) (lo+i)) n->Q (some n) f):wpS (model prog w) A E s (countRun' lo m) Q st1:=by
 rw[countRun'_eq];refine Mg (Ml (Mi (I:=λ x c f=>f=st1/\c=(none,x)/\Srt lt (λ i=>att (arrOf st1) (lo+i)) x)
   (Q:=λ c f=>f=st1/\∃ n,c=(none,n)/\1<=n/\n<=m/\Srt lt (λ i=>att (arrOf st1) (lo+i)) n/\(n=m∨lt (att (arrOf st1) (lo+n)) (att (arrOf st1) (lo+n - 1))=true)) ?_ ?_ ⟨rfl,rfl,λ i j a b=>by rw[show i=j by lia];exact u.ir _⟩) ?_)
 . rintro x c l o M ⟨rfl,rfl,t⟩
   refine Mg (wat D F r (by lia) (by lia) ?_);cases v:lt (att (arrOf l) (lo+x)) (att (arrOf l) (lo+x - 1)) with
   | true=>exact Mh ⟨rfl,x,rfl,o,by lia,t,.inr v⟩
   | false=>exact Mh ⟨rfl,rfl,t.more u λ _=>by rw[<- Nat.add_sub_assoc o];exact v⟩
 . rintro c l ⟨rfl,rfl,t⟩
   rw[show max 1 m=m by lia] at t ⊢;exact⟨rfl,m,rfl,h1,zA3 _,t,.inl rfl⟩
 rintro c l ⟨rfl,n,rfl,J,K,t,d⟩;dsimp only;refine wif (λ _=>Mh (h n l r J K t)) λ c=>?_
 have d:=d.resolve_left (by simpa using c);refine wif (λ O=>Mg (wat D F r (by lia) (by lia) ?_)) λ O=>?_
 . have e:lt (att (arrOf l) lo) (att (arrOf l) (lo+n - 1))=true:=L.at r (by lia) (by lia) (by lia) (by rw[Nat.add_sub_assoc J];exact t 0 (n - 1) (by lia) (by lia))
   rw[e];exact Mh (h n l r J K t)
 obtain rfl:n=1:=by lia
 simp at c;refine Mg (wpS_lift (Ma ⟨rfl,?_⟩));have N:Od λ x y=>lt y x:=⟨λ x y q=>u.as _ _ q,λ x y z p q=>u.tr _ _ _ q p⟩
 refine Mg (Ml (Mi (I:=λ x c f=>f=l/\c=(none,x,0)/\Srt (λ x y=>lt y x) (λ i=>att (arrOf l) (lo+i)) x)
   (Q:=λ c f=>f=l/\∃ n,c=(none,n,0)/\2<=n/\n<=m/\Srt (λ x y=>lt y x) (λ i=>att (arrOf l) (lo+i)) n) ?_ ?_ ⟨rfl,rfl,?_⟩) ?_)
 . rintro x c g o M ⟨rfl,rfl,B⟩
   dsimp only;refine Mg (wat D F r (by lia) (by lia) ?_);dsimp only;cases v:lt (att (arrOf g) (lo+x)) (att (arrOf g) (lo+x - 1)) with
   | true=>exact wif (λ _=>wif (λ c=>absurd c (zC0 0)) λ _=>Mh ⟨rfl,rfl,B.more N λ _=>by rw[<- Nat.add_sub_assoc (by lia)];exact u.as _ _ v⟩) λ c=>absurd rfl c
   | false =>
     refine Mg (wat D F r (by lia) (by lia) ?_);rw[L.at r (by lia) (by lia) (by lia) v];exact Mh ⟨rfl,x,rfl,o,by lia,B⟩
 . rintro c g ⟨rfl,rfl,B⟩
   rw[show max (1+1) m=m by lia] at B ⊢;exact⟨rfl,m,rfl,by lia,zA3 _,B⟩
 . refine Srt.more (λ i j a b=>?_) N λ _=>u.as _ _ d
   obtain rfl:i=j:=by lia
   exact u.ir _
 rintro c g ⟨rfl,n,rfl,J,K,B⟩;refine wif (λ c=>absurd c (zC0 0)) λ _=>?_
 dsimp only;have z:lo+n<=(arrOf g).size:=by rw[r.sz];lia
 have G:=r.set (mirror_perm (arrOf g) lo (lo+n) ((lo+n - lo) / 2)) λ i T=>by rw[qae1 z,if_neg (by lia)]
 refine Mg (wpS_reverse ?_);refine Mg (Ml (Mi (I:=λ x c f=>f=setArr g (mirror (arrOf g) lo (lo+n) ((lo+n - lo) / 2))/\c=(none,x)/\Srt lt (λ i=>att (arrOf f) (lo+i)) x)
   (Q:=λ c f=>f=setArr g (mirror (arrOf g) lo (lo+n) ((lo+n - lo) / 2))/\∃ k,c=(none,k)/\1<=k/\k<=m/\Srt lt (λ i=>att (arrOf f) (lo+i)) k) ?_ ?_ ⟨rfl,rfl,λ i j a b=>?_⟩) ?_)
 . rintro x c H o M ⟨rfl,rfl,C⟩
   refine Mg (wat D F G (by lia) (by lia) ?_);cases v:lt (att (arrOf (setArr g (mirror (arrOf g) lo (lo+n) ((lo+n - lo) / 2)))) (lo+x)) (att (arrOf (setArr g (mirror (arrOf g) lo (lo+n) ((lo+n - lo) / 2)))) (lo+x - 1)) with
   | true=>exact Mh ⟨rfl,x,rfl,by lia,by lia,C⟩
   | false=>exact Mh ⟨rfl,rfl,C.more u λ _=>by rw[<- Nat.add_sub_assoc (by lia)];exact v⟩
 . rintro c H ⟨rfl,rfl,C⟩
   rw[show max n m=m by lia] at C ⊢;exact⟨rfl,m,rfl,by lia,zA3 _,C⟩
 . show lt (att (mirror _ _ _ _) _) (att (mirror _ _ _ _) _)=false
   rw[qae1 z,qae1 z,if_pos (by lia),if_pos (by lia)]
   have:=B (n - 1 - j) (n - 1 - i) (by lia) (by lia)
   rw[show lo+(lo+n) - 1 - (lo+j)=lo+(n - 1 - j) by lia,show lo+(lo+n) - 1 - (lo+i)=lo+(n - 1 - i) by lia];exact this
 rintro c H ⟨rfl,k,rfl,P,R,C⟩;exact Mh (h k _ G P R C)
end
theorem qaR2(i:Nat):mergeAt' i=(do
 let s <- get
 let (some (p,n,pw),some (q,m,_)):=((Mj s)[i]?,(Mj s)[i+1]?) | unsupported "internal:list.sort.pending"
 set (setPending s (((Mj s).setIfInBounds i (p,n+m,pw)).eraseIdxIfInBounds (i+1)))
 let some k <- gal false (<- elem' (arrOf s) q) (arrOf s) p n 0 | return false
 let (p,n):=(p+k,n - k)
 if n == 0 then return true
 let some m <- gal true (<- elem' (arrOf s) (p+n - 1)) (arrOf s) q m (m - 1) | return false
 if m == 0 then return true
 let x:=(arrOf s).extract p q
 let y:=(arrOf s).extract q (q+m)
 let r <- if n<=m then mlo x y else mhi x y
 modify λ s=>setArr s (r.toList.zipIdx.foldl (λ a (z,j)=>a.setIfInBounds (p+j) z) (arrOf s))
 return (Mm (<- get)).isNone):=rfl
theorem wr{p:Nat}:∀(L:List Keyed)(n:Nat)(a:Array Keyed),p+n+L.length<=a.size ->
   ((L.zipIdx n).foldl (λ(a:Array Keyed)(z:Keyed×Nat)=>a.setIfInBounds (p+z.2) z.1) a).toList=a.toList.take (p+n)++L++a.toList.drop (p+n+L.length)
 | [],n,a,_=>by simp
 | x::L,n,a,h=>by
   rw[zAg] at h;rw[List.zipIdx_cons,List.foldl_cons,wr L (n+1) _ (by rw[Array.size_setIfInBounds];lia),Array.toList_setIfInBounds,<- Nat.add_assoc,zAg,
     List.drop_set_of_lt (by lia),List.take_set,List.take_add_one,show a.toList[p+n]?.toList=[att a (p+n)] from ?_,List.set_append_right _ _ (by simp;lia),show p+n+1+L.length=p+n+(L.length+1) by lia]
   . simp[show min (p+n) a.size=p+n by lia]
   rw[Array.getElem?_toList,qb7 (by lia)];rfl
theorem qar6{a:Array Keyed}{i j:Nat}(h:i+n < j)(b:j<=a.size):att (a.extract i j) n=att a (i+n) :=
 qk5 (by rw[Array.getElem?_extract];rw[if_pos (by lia)])
section
variable{prog:Program}{w:World}{A:Around}{E:V'->Sh->Prop}{s:Sh}{kd:SortKind}{lt:Keyed->Keyed->Bool}{st:SortSt}{a0:Array Keyed}
theorem wset{a:SortSt}{Q:PUnit->SortSt->Prop}(h:Q ⟨⟩ a):wpS (model prog w) A E s (set a:StateT SortSt Sem PUnit) Q st:=by
 unfold wpS;rw[StateT.run_set];exact J' ⟨rfl,h⟩
theorem wmat{Q:Bool->SortSt->Prop}{m F pv:Nat}(G:Od lt)(I:Cn prog w A s kd a0 lt)(J:kindOf st=kd)(K:Mm st=none)(Y:Mj st = #[(0,n,F),(n,m,pv)])(H:(arrOf st).Perm a0)(Z:0 < n)(hm:0 < m)(hz:n+m=a0.size)(h1:Srt lt (att (arrOf st)) n)(h2:Srt lt (λ i=>att (arrOf st) (n+i)) m)(h:∀ u,Mm u=none->Mj u = #[(0,n+m,F)]->(arrOf u).toList=List.merge ((arrOf st).toList.take n) ((arrOf st).toList.drop n) (lee lt)->Q true u):wpS (model prog w) A E s (mergeAt' 0) Q st:=by
 have a1:(arrOf st).size=n+m:=H.size_eq.trans hz.symm;have D:∀ i,i < (arrOf st).size->att (arrOf st) i∈a0.toList:=λ i C=>(zBj.mp H).mem_iff.mp (qar5 C)
 rw[qaR2];refine Mg (Mn ?_);rw[Y];have ep:(#[(0,n,F),(n,m,pv)].setIfInBounds 0 (0,n+m,F)).eraseIdxIfInBounds (0+1) = #[(0,n+m,F)]:=by simp[Array.eraseIdxIfInBounds]
 refine Mg (wset ?_);rw[ep];refine Mg (wel (qb7 (by lia)) (Mg (wgs G I J (D _ (by lia)) (by lia) D (λ i j a b=>by dsimp only;rw[zAr,zAr];exact h1 i j a b) Z λ k S T N=>?_)));simp only[zAr] at T N ⊢;have sD:(arrOf st).toList.drop n=att (arrOf st) n::(arrOf st).toList.drop (n+1):=Ga (by lia);have O:List.merge ((arrOf st).toList.take n) ((arrOf st).toList.drop n) (lee lt)=(arrOf st).toList.take k++List.merge (((arrOf st).toList.drop k).take (n - k)) ((arrOf st).toList.drop n) (lee lt):=by
   rw[<- List.drop_take,<- show ((arrOf st).toList.take n).take k=(arrOf st).toList.take k by rw[List.take_take,Nat.min_eq_left S]]
   conv=>lhs;rw[<- zBd k ((arrOf st).toList.take n)]
   rw[sD,Lg (le:=lee lt)];intro x L;rw[List.take_take,Nat.min_eq_left S] at L;obtain⟨i,U,i2,rfl⟩:=qY9 L;exact T i U
 refine wif (λ c=>Mh (h _ K rfl ?_)) λ c=>?_
 . obtain rfl:k=n:=by simp at c;lia
   rw[O,Nat.sub_self,List.take_zero,List.nil_merge,zBd]
 have c:k < n:=by simp at c;lia
 rw[show k+(n - k) - 1=n - 1 by lia];refine Mg (wel (qb7 (by lia)) (Mg (wgs G I J (D _ (by lia)) (by lia) D h2 (by lia) λ v v1 v2 v3=>?_)));have V:List.merge (((arrOf st).toList.drop k).take (n - k)) ((arrOf st).toList.drop n) (lee lt)=List.merge (((arrOf st).toList.drop k).take (n - k)) (((arrOf st).toList.drop n).take v) (lee lt)++(arrOf st).toList.drop (n+v):=by
   conv=>lhs;rw[<- zBd v ((arrOf st).toList.drop n)]
   rw[List.drop_drop,Jo (le:=lee lt)];intro y W x L;obtain⟨i,U,i2,rfl⟩:=qq3 L;rw[<- zAs (l:=(arrOf st).toList.drop (n+v)) (zA3 _)] at W;obtain⟨j,_,j2,rfl⟩:=qq3 W;have e1:=h1 (k+i) (n - 1) (by lia) (by lia);have e2:lt (att (arrOf st) (n+(v+j))) (att (arrOf st) (n - 1))=false:=v3 (v+j) (by lia) (by lia);rw[<- Nat.add_assoc] at e2;show (!lt _ _)=true;rw[G.tr _ _ _ e1 e2];rfl
 dsimp only;refine wif (λ c=>Mh (h _ K rfl ?_)) λ d=>?_
 . obtain rfl:v=0:=by simpa using c
   rw[O,V,List.take_zero,List.merge_right,Nat.add_zero,<- zAq,<- List.take_add,show k+(n - k)=n by lia,zBd]
 have d:0 < v:=by simp at d;lia
 have P:((arrOf st).extract k n).size=n - k:=by rw[Array.size_extract];lia
 have X:((arrOf st).extract n (n+v)).size=v:=by rw[Array.size_extract];lia
 have g:∀ i,i < n - k->att ((arrOf st).extract k n) i=att (arrOf st) (k+i):=λ i C=>qar6 (by lia) (by lia)
 have o:∀ i,i < v->att ((arrOf st).extract n (n+v)) i=att (arrOf st) (n+i):=λ i C=>qar6 (by lia) (by lia)
 have post:∀(r:Array Keyed)(f:SortSt),R (setPending st #[(0,n+m,F)]) f ->
     r.toList=List.merge ((arrOf st).extract k n).toList ((arrOf st).extract n (n+v)).toList (lee lt)->wpS (model prog w) A E s (do
       modify λ s=>setArr s (List.foldl (λ(a:Array Keyed)(x:Keyed×Nat)=>match x with | (z,j)=>a.setIfInBounds (k+j) z) (arrOf s) r.toList.zipIdx)
       let t <- get
       pure (Mm t).isNone) Q f:=by
   intro r f M e;have len:r.toList.length=n - k+v:=by rw[e,List.length_merge,zB1,zB1,P,X]
   refine Mg (Mo (Mg (Mn ?_)));show wpS _ _ _ _ (pure (Mm f).isNone) Q _;rw[M.2.2.2];show wpS _ _ _ _ (pure (Mm st).isNone) Q _;rw[K];refine Mh (h _ (M.2.2.2.trans K) M.2.2.1 ?_);show (List.foldl _ (arrOf f) _).toList=_;rw[show arrOf f=arrOf st from M.2.1];have q:=wr (p:=k) r.toList 0 (arrOf st) (by lia);rw[Nat.add_zero,len,show k+(n - k+v)=n+v by lia,e,qc6,qc6,show n+v - n=v by lia,zAq,<- V,<- O] at q;rw[e,qc6,qc6,show n+v - n=v by lia];exact q
 refine wif (λ _=>Mg (wmlo G I J (λ i C=>?_) (λ i C=>?_) (λ i j a b=>?_) (λ i j a b=>?_) (by lia) (by lia) ?_ (λ i C=>?_) post)) λ _=>Mg (wmhi G I J (λ i C=>?_) (λ i C=>?_) (λ i j a b=>?_) (λ i j a b=>?_) (by lia) (by lia) (λ i C=>?_) ?_ post)
 . rw[g i (by lia)];exact D _ (by lia)
 . rw[o i (by lia)];exact D _ (by lia)
 . rw[g i (by lia),g j (by lia)];exact h1 _ _ (by lia) (by lia)
 . rw[o i (by lia),o j (by lia)];exact h2 _ _ (by lia) (by lia)
 . rw[g 0 (by lia),o 0 (by lia)];simpa[B] using N k (zA3 _) c
 . rw[P,g _ (by lia),o i (by lia),show k+(n - k - 1)=n - 1 by lia];exact v2 i (by lia)
 . rw[g i (by lia)];exact D _ (by lia)
 . rw[o i (by lia)];exact D _ (by lia)
 . rw[g i (by lia),g j (by lia)];exact h1 _ _ (by lia) (by lia)
 . rw[o i (by lia),o j (by lia)];exact h2 _ _ (by lia) (by lia)
 . rw[g i (by lia),o 0 (by lia)];simpa[B] using N (k+i) (by lia) (by lia)
 rw[P,X,g _ (by lia),o _ (by lia),show k+(n - k - 1)=n - 1 by lia];exact v2 _ (by lia)
end
section
variable{prog:Program}{w:World}{A:Around}{E:V'->Sh->Prop}{s:Sh}{kd:SortKind}{lt:Keyed->Keyed->Bool}{st:SortSt}{a0:Array Keyed}
theorem qas9{i:Nat}(a:Srt lt (λ j=>att xs (i+j)) n)(f:i+n<=xs.size):((xs.toList.drop i).take n).Pairwise λ x y=>lee lt x y=true:=by
 rw[List.pairwise_iff_getElem];intro p q b c d;rw[zBq,zC8,zB1] at b c;have e:∀ p (h:p < ((xs.toList.drop i).take n).length),((xs.toList.drop i).take n)[p]=att xs (i+p):=λ p h=>by
   rw[List.getElem_take,List.getElem_drop];rw[zBq,zC8,zB1] at h;simp[att,Array.getD,show i+p < xs.size by lia]
 rw[e,e];show (!lt _ _)=true;rw[a p q (by lia) (by lia)];rfl
def I8(lt:Keyed->Keyed->Bool)(a0:Array Keyed)(st:SortSt):Prop:=(arrOf st).toList.Perm a0.toList/\(arrOf st).toList.Pairwise (λ x y=>lee lt x y=true)/\Mm st=none
structure One(lt:Keyed->Keyed->Bool)(kd:SortKind)(a0:Array Keyed)(n:Nat)(st:SortSt):Prop where
 pm:(arrOf st).Perm a0
 k:kindOf st=kd
 f:Mm st=none
 p:Mj st = #[(0,n,0)]
 s:Srt lt (att (arrOf st)) n
structure Two(lt:Keyed->Keyed->Bool)(kd:SortKind)(a0:Array Keyed)(n m pw:Nat)(st:SortSt):Prop where
 pm:(arrOf st).Perm a0
 k:kindOf st=kd
 f:Mm st=none
 p:Mj st = #[(0,n,pw),(n,m,0)]
 s:Srt lt (att (arrOf st)) n
 t:Srt lt (λ i=>att (arrOf st) (n+i)) m
theorem One.fin(h:One lt kd a0 n st)(c:n=a0.size):I8 lt a0 st:=by
 refine⟨zBj.mp h.pm,?_,h.f⟩
 have:=qas9 (i:=0) (n:=n) (xs:=arrOf st) (λ i j a b=>by dsimp only;rw[zAr,zAr];exact h.s i j a b) (by rw[h.pm.size_eq];lia)
 rwa[List.drop_zero,zAs (by rw[zB1,h.pm.size_eq];lia)] at this
theorem wrun(D:Od lt)(J:Cn prog w A s kd a0 lt)(S:Ds lt a0)(N:kindOf st=kd)(Y:Mm st=none)(O:Mj st = #[])(K:(arrOf st).Perm a0)(F:a0.size=64)(h:∀ l,I8 lt a0 l->Q () l):wpS (model prog w) A E s sortRuns' Q st:=by
 rw[sortRuns'_eq];refine Mg (Mn ?_);dsimp only;simp only[K.size_eq,F];have Z:minRun' 64 64 0=32:=rfl;rw[Z];refine Mg (Ml (Mi
   (I:=λ x c l=>(x=0/\c=(none,0)/\l=st)∨(x=1/\∃ n,c=(none,n)/\32<=n/\n<=64/\One lt kd a0 n l)∨(2<=x/\c=(none,64)/\∃ n m B,n+m=64/\0 < n/\0 < m/\Two lt kd a0 n m B l))
   (Q:=λ c l=>c=(none,64)/\(One lt kd a0 64 l∨∃ n m B,n+m=64/\0 < n/\0 < m/\Two lt kd a0 n m B l)) ?_ ?_ (.inl ⟨rfl,rfl,rfl⟩)) ?_)
 . rintro x c u - hx (⟨rfl,rfl,rfl⟩ | ⟨rfl,n,rfl,H,n2,o⟩ | ⟨x2,rfl,n,m,B,e,H,P,o⟩)
   . dsimp only
     refine wif (λ c=>absurd c (by lia)) λ _=>?_
     have R:Bt a0 0 u u:=⟨rfl,rfl,rfl,K,λ _ _=>rfl⟩
     refine Mg (wcnt D J S N (by lia) (by lia) R λ n r C H n2 L=>?_);have fin:∀ k g,Bt a0 0 u g->32<=k->k<=64->Srt lt (λ i=>att (arrOf g) (0+i)) k->One lt kd a0 k (setPending g ((Mj g).push (0,k,0))):=λ k g v _ _ G =>
       ⟨v.pm,v.kd.trans N,v.fl.trans Y,by show (Mj g).push _=_;rw[v.pd,O];rfl,λ i j a b=>by have:=G i j a b;dsimp only at this;rwa[zAr,zAr] at this⟩
     refine wif (λ c=>?_) λ c=>?_
     . refine Mg (wpS_lift (Ma ⟨rfl,?_⟩))
       refine Mg (wbin D J N (by lia) (by lia) H C L λ g v G=>?_);refine wif (λ c=>by cases c) λ _=>?_
       refine Mg (Mn ?_);rw[show (Mj g).back? = none by rw[v.pd,O];rfl];exact Mg (Mo (Mh (.inr (.inl ⟨rfl,_,rfl,by lia,by lia,fin _ g v (by lia) (by lia) G⟩))))
     refine Mg (Mn ?_);rw[show (Mj r).back? = none by rw[C.pd,O];rfl];exact Mg (Mo (Mh (.inr (.inl ⟨rfl,_,rfl,by lia,by lia,by rw[zAr];exact fin _ r C (by lia) (by lia) L⟩))))
   . dsimp only
     refine wif (λ c=>?_) λ c=>?_
     . obtain rfl:n=64:=by lia
       exact Mh ⟨rfl,.inl o⟩
     have R:Bt a0 n u u:=⟨rfl,rfl,rfl,o.pm,λ _ _=>rfl⟩
     refine Mg (wcnt D J S o.k (by lia) (by lia) R λ k r C k1 k2 L=>?_);have T:∀ q g,Bt a0 n u g->q=64 - n->Srt lt (λ i=>att (arrOf g) (n+i)) q->∀ B,Two lt kd a0 n q B (setPending (setPending g ((Mj g).modify ((Mj g).size - 1) λ x=>(x.fst,x.2.fst,B))) (((Mj g).modify ((Mj g).size - 1) λ x=>(x.fst,x.2.fst,B)).push (n,q,0))):=λ q g v hq G B =>
       ⟨v.pm,v.kd.trans o.k,v.fl.trans o.f,by show ((Mj g).modify _ _).push _=_;rw[v.pd,o.p];rfl,λ i j a b=>by show lt (att (arrOf g) j) (att (arrOf g) i)=false;rw[v.pr i (by lia),v.pr j b];exact o.s i j a b,G⟩
     have M:∀ g,Bt a0 n u g->(Mj g).back? = some (0,n,0)/\¬ (Mj g).size > 1:=λ g v=>by rw[v.pd,o.p];exact⟨rfl,zC0 1⟩
     refine wif (λ d=>?_) λ d=>?_
     . refine Mg (wpS_lift (Ma ⟨rfl,?_⟩))
       refine Mg (wbin D J o.k (by lia) (by lia) k1 C L λ g v G=>?_);refine wif (λ c=>by cases c) λ _=>?_
       refine Mg (Mn ?_);rw[(M g v).1];refine Mg (Ml (Mi (I:=λ x c l=>l=g/\c=(none,())) (Q:=λ c l=>l=g/\c=(none,())) ?_ (λ _ _ h=>h) ⟨rfl,rfl⟩) ?_)
       . rintro x c y - - ⟨rfl,rfl⟩
         refine Mg (Mn ?_);rw[if_neg (M y v).2];exact Mh ⟨rfl,rfl⟩
       rintro c y ⟨rfl,rfl⟩;exact Mg (Mo (Mg (Mo (Mh (.inr (.inr ⟨zA3 2,by rw[show n+min (64 - n) 32=64 by lia],n,_,_,by lia,by lia,by lia,T _ y v (by lia) G _⟩))))))
     refine Mg (Mn ?_);rw[(M r C).1];refine Mg (Ml (Mi (I:=λ x c l=>l=r/\c=(none,())) (Q:=λ c l=>l=r/\c=(none,())) ?_ (λ _ _ h=>h) ⟨rfl,rfl⟩) ?_)
     . rintro x c y - - ⟨rfl,rfl⟩
       refine Mg (Mn ?_);rw[if_neg (M y C).2];exact Mh ⟨rfl,rfl⟩
     rintro c y ⟨rfl,rfl⟩;exact Mg (Mo (Mg (Mo (Mh (.inr (.inr ⟨zA3 2,by rw[show n+k=64 by lia],n,_,_,by lia,by lia,by lia,T _ y C (by lia) L _⟩))))))
   dsimp only;exact wif (λ _=>Mh ⟨rfl,.inr ⟨n,m,B,e,H,P,o⟩⟩) λ c=>absurd (zA3 _) c
 . rintro c u (⟨U,_⟩ | ⟨U,_⟩ | ⟨x2,rfl,o⟩)
   . lia
   . lia
   exact⟨rfl,.inr o⟩
 rintro c u ⟨rfl,o⟩;dsimp only;refine Mg (Ml (Mi (I:=λ x c l=>c=(none,())/\(x=0/\l=u∨I8 lt a0 l/\(Mj l).size<=1)) (Q:=λ c l=>c=(none,())/\I8 lt a0 l) ?_ ?_ ⟨rfl,.inl ⟨rfl,rfl⟩⟩) ?_)
 . rintro x c r - - ⟨rfl,⟨rfl,rfl⟩ | ⟨f,z⟩⟩
   . refine Mg (Mn ?_)
     rcases o with o | ⟨n,m,B,e,H,P,o⟩
     . rw[if_pos (by rw[o.p];exact zA3 1)]
       exact Mh ⟨rfl,o.fin F.symm⟩
     rw[o.p];refine wif (λ c=>absurd c (by simp)) λ _=>?_
     refine Mg (wmat D J o.k o.f o.p o.pm H P (by lia) o.s o.t λ g f3 p3 V=>?_);refine Mh ⟨rfl,.inr ⟨⟨?_,?_,f3⟩,by rw[p3];exact zA3 1⟩⟩
     . rw[V]
       have q:=List.merge_perm_append (le:=lee lt) (xs:=(arrOf r).toList.take n) (ys:=(arrOf r).toList.drop n);rw[zBd] at q;exact q.trans (zBj.mp o.pm)
     rw[V];have sz:(arrOf r).size=64:=o.pm.size_eq.trans F;refine List.pairwise_merge (λ a b c W X=>?_) (λ a b=>?_) _ _ ?_ ?_
     . simp only[Bool.not_eq_true',lee] at W X ⊢
       exact D.tr _ _ _ W X
     . cases q:lt b a with
       | false=>simp[lee,q]
       | true=>simp[lee,q,D.as _ _ q]
     . have:=qas9 (i:=0) (n:=n) (xs:=arrOf r) (λ i j a b=>by dsimp only;rw[zAr,zAr];exact o.s i j a b) (by lia)
       rwa[List.drop_zero] at this
     have:=qas9 o.t (by lia)
     rwa[zAs (by rw[zC8,zB1];lia)] at this
   refine Mg (Mn ?_);rw[if_pos z];exact Mh ⟨rfl,f⟩
 . rintro c r ⟨rfl,⟨U,_⟩ | ⟨f,z⟩⟩
   . lia
   exact⟨rfl,f⟩
 rintro c r ⟨rfl,f⟩;exact Mh (h r f)
end
noncomputable def plt(p q:Int×Int):Bool:=decide (p.1 < q.1∨p.1=q.1/\p.2 < q.2)
def TP(h:Heap)(v:V')(p:Int×Int):Prop:=∃ b t u o n,v=.ref b/\h.get? b=some o/\o.cls=.type "tuple" /\ o.data=.seq #[.int p.1 t,.int p.2 u] n
section
variable{prog:Program}{w:World}{A:Around}{E:V'->Sh->Prop}{s:Sh}{kd:SortKind}{lt:Keyed->Keyed->Bool}{st:SortSt}{a0:Array Keyed}
theorem wrunS(B:Od lt)(C:Cn prog w A s kd a0 lt)(F:Ds lt a0)(t:kindOf st=kd)(G:Mm st=none)(u:Mj st = #[])(r:(arrOf st).Perm a0)(h2:2<=a0.size)(v:a0.size < 64)(h:∀ d,I8 lt a0 d->Q () d):wpS (model prog w) A E s sortRuns' Q st:=by
 rw[sortRuns'_eq];refine Mg (Mn ?_);obtain⟨f,H⟩:∃ f,a0.size=f+1:=⟨a0.size - 1,by lia⟩
 have J:minRun' a0.size a0.size 0=a0.size:=by
   conv=>lhs;rw[show minRun' a0.size=minRun' (f+1) by rw[H]]
   rw[minRun'_succ,if_pos v];rfl
 dsimp only;simp only[r.size_eq,J];refine Mg (Ml (Mi
   (I:=λ x c d=>(x=0/\c=(none,0)/\d=st)∨(1<=x/\c=(none,a0.size)/\One lt kd a0 a0.size d))
   (Q:=λ c d=>c=(none,a0.size)/\One lt kd a0 a0.size d) ?_ ?_ (.inl ⟨rfl,rfl,rfl⟩)) ?_)
 . rintro x c l - N (⟨rfl,rfl,rfl⟩ | ⟨K,rfl,o⟩)
   . dsimp only
     refine wif (λ c=>absurd c (by lia)) λ _=>?_
     have L:Bt a0 0 l l:=⟨rfl,rfl,rfl,r,λ _ _=>rfl⟩
     refine Mg (wcnt B C F t (by lia) (by lia) L λ n m y M O D=>?_);have fin:∀ k g,k=a0.size->Bt a0 0 l g->Srt lt (λ i=>att (arrOf g) (0+i)) k->One lt kd a0 a0.size (setPending g ((Mj g).push (0,k,0))):=λ k g e q z =>
       ⟨q.pm,q.kd.trans t,q.fl.trans G,by show (Mj g).push _=_;rw[q.pd,u,e];rfl,λ i j a b=>by have:=z i j a (by lia);dsimp only at this;rwa[zAr,zAr] at this⟩
     refine wif (λ c=>?_) λ c=>?_
     . refine Mg (wpS_lift (Ma ⟨rfl,?_⟩))
       refine Mg (wbin B C t (by lia) (by lia) M y D λ g q z=>?_);refine wif (λ c=>by cases c) λ _=>?_
       refine Mg (Mn ?_);rw[show (Mj g).back? = none by rw[q.pd,u];rfl];exact Mg (Mo (Mh (.inr ⟨by lia,by rw[show 0+min (a0.size - 0) a0.size=a0.size by lia],fin _ g (by lia) q z⟩)))
     refine Mg (Mn ?_);rw[show (Mj m).back? = none by rw[y.pd,u];rfl];exact Mg (Mo (Mh (.inr ⟨by lia,by rw[show 0+n=a0.size by lia],fin _ m (by lia) y D⟩)))
   dsimp only;exact wif (λ _=>Mh ⟨rfl,o⟩) λ c=>absurd (zA3 _) c
 . rintro c l (⟨P,_⟩ | ⟨K,rfl,o⟩)
   . lia
   exact⟨rfl,o⟩
 rintro c l ⟨rfl,o⟩;dsimp only;refine Mg (Ml (Mi (I:=λ x c d=>c=(none,())/\d=l) (Q:=λ c d=>c=(none,())/\d=l) ?_ (λ _ _ h=>h) ⟨rfl,rfl⟩) ?_)
 . rintro x c m - - ⟨rfl,rfl⟩
   refine Mg (Mn ?_);rw[if_pos (by rw[o.p];exact zA3 1)];exact Mh ⟨rfl,rfl⟩
 rintro c m ⟨rfl,rfl⟩;exact Mh (h m (o.fin rfl))
theorem cmpP{x y:V'}{p q:Int×Int}{Q:Bool->Sh->Prop}(f:TP s.heap x p)(g:TP s.heap y q)(h:Q (plt p q) s):wpAny (model prog w) A (keyLt' (tuples' true) x y) Q E s:=by
 obtain⟨b,t,u,o,n,rfl,i,_,j⟩:=f;obtain⟨c,m,v,B,C,rfl,k,_,l⟩:=g;have z:∀ r:Bool,r=plt p q->Q r s:=λ r e=>e ▸ h
 refine W.kat_lt i j k l (W.kat_cons (wpAny_eqBool_int (W.kat_go (λ a=>W.kat_yes (W.kat_cons (wpAny_eqBool_int (W.kat_go (λ d=>W.kat_yes (W.kat_nil (z _ ?_))) λ d=>W.kat_no (W.kat_one _ _ (lt_int (z _ ?_))))))) λ a=>W.kat_no (oneLt_int (z _ ?_)))))
 . simp at a d;simp[plt,a,d]
 . simp at a d;simp[plt,a]
 simp at a;simp[plt,a]
theorem TP.keep{h h':Heap}{v:V'}{p:Int×Int}(t:TP h v p)(k:∀ b o,h.get? b=some o->o.cls=.type "tuple" -> h'.get? b=some o):TP h' v p:=by
 obtain⟨b,t,u,o,n,rfl,c,a,d⟩:=t;exact⟨b,t,u,o,n,rfl,k _ _ c a,a,d⟩
end
def kl(kf:V'->Int×Int)(x y:Keyed):Bool:=plt (kf x.1) (kf y.1)
theorem kl_od(kf:V'->Int×Int):Od (kl kf) :=
 ⟨λ x y h=>by simp[kl,plt] at h ⊢;lia,λ x y z a b=>by simp[kl,plt] at a b ⊢;lia⟩
section
variable{prog:Program}{w:World}{A:Around}{E:V'->Sh->Prop}{s:Sh}
theorem kl_ds(c:(vs.map kf).Nodup):Ds (kl kf) (pairsOf vs):=by
 unfold Ds;rw[pairsOf_toList,show vs.zip vs=vs.map λ v=>(v,v) by induction vs with | nil=>rfl | cons v vs d=>simp at c;rw[List.zip_cons_cons,d c.2];rfl,zBl];unfold List.Nodup at c;rw[zBl] at c;refine c.imp λ{a b} h=>?_
 have e:¬ ((kf a).1=(kf b).1/\(kf a).2=(kf b).2):=λ q=>h (Prod.ext q.1 q.2)
 simp only[kl,plt,zBh];lia
theorem qag8{a:γ}{P:PySem.Fin->Sh->Prop}{kd:SortKind}(g:s.heap.get? a=some (seqObj "list" vs.toArray n))(C:vs.length<=64)(k:(vs.map kf).Nodup)(D:∀ h',(∀ b o,s.heap.get? b=some o->o.cls=.type "tuple" -> h'.get? b=some o)->2<=vs.length ->
     (∀(Q':SortKind->Sh->Prop),Q' kd { s with heap:=h' }->wpAny (model prog w) A (keyKind' vs.toArray) Q' E { s with heap:=h' })/\Cm prog w A { s with heap:=h' } kd (λ x=>x.1∈vs) (kl kf))(h:∀ out:List V',out.Perm vs->(out.map kf).Pairwise (λ p q=>plt q p=false)->P (.done (.ret .none)) { s with heap:=sortedHeap s.heap a vs out.toArray }) :
   wpAny (model prog w) A (Builtin.«list.sort» ⟨[.ref a],[]⟩) P E s:=by
 have F:vs.toArray.size=vs.length:=zA4;have S:a < s.heap.objs.size:=zA7 g;obtain⟨l,m⟩:∃ e,(s.heap.update a (Obj.mapSeq λ _=>#[])).get? a=some (seqObj "list" #[] e):=⟨_,get?_update_seq g λ _=>#[]⟩
 have r:(((s.heap.update a (Obj.mapSeq λ _=>#[])).push (seqObj "tuple" vs.toArray 0)).push (seqObj "list" #[] 0)).get? a=some (seqObj "list" #[] l):=zA2 _ (zA2 _ m);have G:∀ b o,s.heap.get? b=some o->o.cls=.type "tuple" -> (((s.heap.update a (Obj.mapSeq λ _=>#[])).push (seqObj "tuple" vs.toArray 0)).push (seqObj "list" #[] 0)).get? b=some o:=λ b o q H=>by
   have I:b≠a:=λ z=>by rw[z,g] at q;cases q;simp at H
   exact zA2 _ (zA2 _ (by rw[Heap.get?_update_ne _ _ _ _ I];exact q))
 rw[list_sort_plain];refine G' (listItems_at g rfl (G' (listUpdate_at g rfl (G' (seqEpoch_at m rfl (G' (wpAny_newTuple (G' (wpAny_newList (Lv ?_) (zBi _))) (by show vs.length<=_;rw[Lz];lia))))) (by rw[F,Lz];lia) (zBi _))));show wpAny (model prog w) A _ P E { s with heap:=((s.heap.update a (Obj.mapSeq λ _=>#[])).push (seqObj "tuple" vs.toArray 0)).push (seqObj "list" #[] 0) };have last:∀ d:SortSt,(arrOf d).toList.Perm (pairsOf vs).toList->(arrOf d).toList.Pairwise (λ x y=>lee (kl kf) x y=true)->Mm d=none ->
     P (.done (.ret .none)) { s with heap:=sortedHeap s.heap a vs ((arrOf d).map (·.2)) }/\((arrOf d).map (·.2)).size<=Lr+1:=λ d i J _=>by
   rw[pairsOf_toList] at i;have u:∀ p∈(arrOf d).toList,p.1=p.2:=λ p K=>(mem_zip_self (i.mem_iff.mp K)).1
   have e2:((arrOf d).map (·.2))=((arrOf d).toList.map (·.2)).toArray:=Array.toList_inj.mp (by rw[Array.toList_map]);have pv:((arrOf d).toList.map (·.2)).Perm vs:=by
     have:=i.map Prod.snd
     rwa[List.map_snd_zip (zA3 _)] at this
   rw[e2];refine⟨h _ pv ?_,by rw[zA4,pv.length_eq,Lz];lia⟩;rw[List.map_map,zBl];refine(List.Pairwise.and_mem.mp J).imp λ{x y} ⟨L,M,q⟩=>?_
   show plt (kf y.2) (kf x.2)=false;rw[<- u x L,<- u y M];simpa[lee,kl] using q
 have tail:∀ d:SortSt,I8 (kl kf) (pairsOf vs) d->wpAny (model prog w) A (do
     let t:=(<- seqEpoch a) != l
     Builtin.List.listUpdate (.ref a) λ _=>(arrOf d).map (·.2)
     if let some e:=Mm d then rule "list.sort.comparison-raised";throw e
     if t then rule "list.sort.modified";raiseError "ValueError" "list modified during sort"
     ret .none) P E { s with heap:=((s.heap.update a (Obj.mapSeq λ _=>#[])).push (seqObj "tuple" vs.toArray 0)).push (seqObj "list" #[] 0) }:=λ d f=>by
   have z:=last d f.1 f.2.1 f.2.2;refine G' (seqEpoch_at r rfl (G' (listUpdate_at r rfl ?_ (zBi _) z.2)));rw[f.2.2];simp only[bne_self_eq_false,Bool.false_eq_true,if_false];exact J' z.1
 by_cases c:vs.toArray.size < 2
 . rw[if_pos c,if_pos c]
   refine G' (J' ?_);dsimp only;rw[StateT.run_pure];refine G' (J' (tail (SortSt.mk' general' (vs.toArray.zip vs.toArray) #[] 7 none) ⟨List.Perm.refl _,?_,rfl⟩));show (pairsOf vs).toList.Pairwise _;rw[pairsOf_toList]
   match vs,c with
   | [],_=>exact .nil
   | [v],_=>simp
   | _::_::_,c=>simp at c;lia
 rw[if_neg c,if_neg c];obtain⟨N,O⟩:=D _ G (by lia);refine G' (N _ ?_);have B:Cn prog w A { s with heap:=((s.heap.update a (Obj.mapSeq λ _=>#[])).push (seqObj "tuple" vs.toArray 0)).push (seqObj "list" #[] 0) } kd (pairsOf vs) (kl kf):=λ x y Q R=>O x y (mem_zip_self (pairsOf_toList vs ▸ Q)).2 (mem_zip_self (pairsOf_toList vs ▸ R)).2
 have j:wpS (model prog w) A E { s with heap:=((s.heap.update a (Obj.mapSeq λ _=>#[])).push (seqObj "tuple" vs.toArray 0)).push (seqObj "list" #[] 0) } sortRuns' (λ _ d=>I8 (kl kf) (pairsOf vs) d) (SortSt.mk' kd (vs.toArray.zip vs.toArray) #[] 7 none):=by
   rcases Nat.lt_or_ge vs.length 64 with q | q
   . exact wrunS (kl_od kf) B (kl_ds k) rfl rfl rfl (Array.Perm.refl _) (by rw[pairsOf_size];lia) (by rw[pairsOf_size];exact q) λ _ f=>f
   exact wrun (kl_od kf) B (kl_ds k) rfl rfl rfl (Array.Perm.refl _) (by rw[pairsOf_size];lia) λ _ f=>f
 refine G' (L9 j ?_ λ _ _ e=>e);rintro⟨⟨⟩,d⟩ T ⟨rfl,f⟩;exact tail d f
theorem sorted6{l:γ}{Q:V'->Sh->Prop}{kd:SortKind}(f:s.heap.IsList l vs.toArray)(a:vs.length<=64)(g:(vs.map kf).Nodup)(i:∀(A:Around)(E:V'->Sh->Prop) h',(∀ b o,s.heap.get? b=some o->o.cls=.type "tuple" -> h'.get? b=some o)->2<=vs.length ->
     (∀(Q':SortKind->Sh->Prop),Q' kd { s with heap:=h' }->wpAny (model prog w) A (keyKind' vs.toArray) Q' E { s with heap:=h' })/\Cm prog w A { s with heap:=h' } kd (λ x=>x.1∈vs) (kl kf))(h:∀ out:List V',out.Perm vs->(out.map kf).Pairwise (λ p q=>plt q p=false)->Q (.ref (s.heap.objs.size+1)) { s with heap:=sortedAll s.heap vs out.toArray }) :
   wpAny (model prog w) A (call (.builtin "sorted") [.ref l]) Q E s:=by
 refine Calls.call_function_entry kind_sorted plain_sorted entry_sorted (args_sorted1 _) ?_;unfold Builtin.«sorted»;refine G' (m:=checkCount "sorted" 1 1 _) (J' (G' (collect_list f (G' (wpAny_newList ?_ (by rw[Lz];lia))) (by rw[Lz];lia))));have d:((s.heap.push (seqObj "list" #[] 0)).update s.heap.objs.size (Obj.mapSeq (·++vs.toArray))).objs.size=s.heap.objs.size+1:=by rw[Heap.size_update,size_push']
 have e:(((s.heap.push (seqObj "list" #[] 0)).update s.heap.objs.size (Obj.mapSeq (·++vs.toArray))).push (seqObj "list" vs.toArray 0)).get? (s.heap.objs.size+1)=some (seqObj "list" vs.toArray 0):=by
   rw[<- d];exact zAz _ rfl
 have j:∀ b o,s.heap.get? b=some o->(((s.heap.push (seqObj "list" #[] 0)).update s.heap.objs.size (Obj.mapSeq (·++vs.toArray))).push (seqObj "list" vs.toArray 0)).get? b=some o:=λ b o q =>
   zA2 _ (by rw[Heap.get?_update_ne _ _ _ _ (zAl (zA7 q))];exact zA2 _ q)
 show wpAny _ _ _ _ _ { s with heap:=((s.heap.push (seqObj "list" #[] 0)).update s.heap.objs.size (Obj.mapSeq (·++vs.toArray))).push (seqObj "list" vs.toArray 0) };rw[d];refine G' (Lv (wpAny_call_entry slot_list_sort ⟨_,e,rfl⟩ entry_list_sort (qag8 e a g (λ h' k c=>i _ _ h' (λ b o q n=>k b o (j _ _ q) n) c) λ out r t=>⟨_,rfl,?_⟩) (args_list_sort _)));exact J' ⟨_,rfl,h out r t⟩
end
end S6
namespace LV
open PySem L2 PyProof.Rows
variable{ps:List (Int×Int)}
abbrev Fd(ps:List (Int×Int)):List (Int×Int):=ps.mergeSort λ p q=>!S6.plt q p
def PrA(H:Hp)(v:V)(p:Int×Int):Prop:=∃ b,v=.ref b/\H b=some (.q [.int p.1,.int p.2])
noncomputable def kfh(h:Heap):V'->Int×Int
 | .ref b=>match h.get? b with
   | some o=>match o.data with
     | .seq xs _=>(numOf (xs.getD 0 .none),numOf (xs.getD 1 .none))
     | _=>(0,0)
   | none=>(0,0)
 | _=>(0,0)
theorem qaR7{h:Heap}{v:V'}{p:Int×Int}(t:S6.TP h v p):kfh h v=p:=by
 obtain⟨b,t,u,o,n,rfl,a,d,c⟩:=t;simp only[kfh,a,c];rfl
noncomputable def vOf:V'->V
 | .ref b=>.ref b
 | _=>.non
section
variable{X:Cx}{Fb:List (γ×Obj)}{σ:List (Option V)}{H:Hp}{s:Sh}
theorem qaE6(I:M4 X Fb σ H s){vs:List V}{its:List V'}(r:Mz vs its)(t:Paired (PrA H) vs ps) :
   its.map (kfh s.heap)=ps/\∀ u∈its,S6.TP s.heap u (kfh s.heap u)/\∃ b,u=.ref b/\H b=some (.q [.int (kfh s.heap u).1,.int (kfh s.heap u).2]):=by
 induction t generalizing its with
 | nil=>cases r;exact⟨rfl,nofun⟩
 | @cons v p vs ps h t f =>
   cases r with
   | @cons _ u _ its ru rt =>
     obtain⟨b,rfl,c⟩:=h;cases ru;obtain⟨w,q,⟨o,g,i,n,j⟩,_⟩:=I.tuple (.inl (.inl c));have d:S6.TP s.heap (.ref b) p:=by
       obtain⟨x,y,rfl,⟨t1,rfl⟩,t2,rfl⟩:=Mz.two q;exact⟨b,t1,t2,o,n,rfl,g,i,j⟩
     have e:=qaR7 d;obtain⟨k,l⟩:=f rt;refine⟨by rw[zAx,e,k],λ u a=>?_⟩;rcases zAm.mp a with rfl | a
     . rw[e];exact⟨d,b,rfl,c⟩
     exact l u a
theorem qao7{h:Heap}:∀{out:List V'},(∀ u∈out,∃ b,u=.ref b/\H b=some (.q [.int (kfh h u).1,.int (kfh h u).2]))->Mz (out.map vOf) out/\Paired (PrA H) (out.map vOf) (out.map (kfh h))
 | [],_=>⟨.nil,.nil⟩
 | u::out,k=>by
   obtain⟨b,rfl,c⟩:=k u zAc;have a:=qao7 (out:=out) λ v d=>k v (zA5 _ d)
   exact⟨.cons rfl a.1,.cons ⟨b,rfl,c⟩ a.2⟩
theorem qM3{h:Heap}{kf:V'->Int×Int}:∀{its:List V'},(∀ u∈its,S6.TP h u (kf u))->∃ fs,W.KatTups h its fs/\fs.length=its.length/\∀ f∈fs,∃ i t,f=Value.int i t
 | [],_=>⟨[],trivial,rfl,nofun⟩
 | u::its,k=>by
   obtain⟨fs,f1,f2,f3⟩:=qM3 (its:=its) λ v c=>k v (zA5 _ c)
   obtain⟨b,t,w,o,n,rfl,d,e,g⟩:=k u zAc;refine⟨Value.int _ t::fs,W.KatTups.cons d e g rfl f1,by rw[zAg,f2];rfl,λ f a=>?_⟩;rcases zAm.mp a with rfl | a
   . exact⟨_,_,rfl⟩
   exact f3 f a
theorem qV7(ps:List (Int×Int)):(Fd ps).Pairwise λ p q=>S6.plt q p=false:=by
 refine(List.pairwise_mergeSort (λ a b c d e=>?_) (λ a b=>?_) ps).imp λ{a b} h=>by simpa using h
 . simp[S6.plt] at d e ⊢;lia
 simp[S6.plt];lia
theorem qat2{c:List (Int×Int)}(d:c.Perm ps)(e:c.Pairwise λ p q=>S6.plt q p=false):c=Fd ps:=by
 refine List.Perm.eq_of_pairwise (le:=λ p q=>S6.plt q p=false) (λ a b _ _ f g=>?_) e (qV7 ps) (d.trans (List.mergeSort_perm _ _).symm);simp[S6.plt] at f g;exact Prod.ext (by lia) (by lia)
def qaD0(K:W.Frag):List V->Hp->VK->Prop:=λ xs H Q=>∃ a vs ps,xs=[.ref a]/\SqL K H a vs/\Paired (PrA H) vs ps/\ps.Nodup/\ps.length<=64/\∀ l b,H l=none->Paired (PrA H) b (Fd ps)->Q (.ref l) (upd H l (.l b))
theorem qae0:CallR X (.builtin "sorted") (qaD0 X.K):=by
 intro Fb s σ H V Y Q I r h;obtain⟨a,Z,B,rfl,C,t,D,hl,q⟩:=h;obtain⟨u,rfl,F⟩:=Bo r;cases F;obtain⟨f,G,J,hz⟩:=I.list C;obtain⟨j,g⟩:=qaE6 I G t;have L:f.length<=64:=by have:=congrArg List.length j;rw[zA8] at this;lia
 refine S6.sorted6 (kf:=kfh s.heap) (kd:=tuples' true) J.isList L (by rw[j];exact D) (λ A E h' k c=>⟨λ Q' l=>?_,λ x y M N E Q l=>?_⟩) λ d m O=>?_
 . obtain⟨fs,f1,f2,f3⟩:=qM3 λ u n=>(g u n).1.keep k
   refine W.kat_kind (T:=.type "int") f1 (by lia) (λ v P=>?_) rfl l;obtain⟨i,t,rfl⟩:=f3 v P;exact W.Looks.of_pure rfl
 . exact S6.cmpP ((g _ M).1.keep k) ((g _ N).1.keep k) l
 obtain⟨R,p⟩:=qao7 (H:=H) (h:=s.heap) (out:=d) λ u n=>(g u (m.mem_iff.mp n)).2
 obtain⟨e,S⟩:=sortedAll_at s.heap f d.toArray;have U:d.map (kfh s.heap)=Fd B:=qat2 (j ▸ m.map _) O;rw[U] at p;refine⟨.ref _,_,I.laid (t':=s.toks) (λ b o z=>sortedAll_old z) (Nat.le_succ _) (show ObjOk X.prog X.w _ _ _ (.l (d.map vOf)) from⟨?_,d,e,R,S⟩),rfl,q _ _ (I.hok.fresh (Nat.le_succ _)) p⟩;rw[zA8,m.length_eq,Lz];lia
noncomputable def Kb:D->Option (Int×Int)
 | .q [.int a,.int b]=>some (a,b)
 | _=>none
noncomputable def prD2(p:Int×Int):D:=.q [.int p.1,.int p.2]
def qaq4(x:D):Option D:=match x with
 | .l _ ys=>(ys.mapM Kb).bind λ ps=>gd (ps.Nodup/\ps.length<=64) (.l false ((Fd ps).map prD2))
 | _=>none
theorem qX2:∀{ys:List D}{ps:List (Int×Int)},ys.mapM Kb=some ps->ys=ps.map prD2
 | [],ps,h=>by cases h;rfl
 | y::ys,ps,h=>by
   rw[List.mapM_cons] at h;obtain⟨p,a,h⟩:=zA1.mp h;obtain⟨c,b,h⟩:=zA1.mp h;cases h;rw[zAx,qX2 b];congr 1;unfold Kb at a;split at a
   . cases a;rfl
   cases a
theorem qaE7{F:γ->Prop}{H:Hp}:∀{ps:List (Int×Int)}{vs:List V}{A:List γ},Mr F H vs (ps.map prD2) A->Paired (PrA H) vs ps
 | [],_,_,r=>by cases r;exact .nil
 | p::ps,_,_,r=>by
   cases r with
   | cons h t =>
     cases h with
     | q e r =>
       refine .cons ⟨_,rfl,?_⟩ (qaE7 t);cases r with
       | cons a t1 =>
         cases a;cases t1 with
         | cons b t2=>cases b;cases t2;exact e
theorem qau6{F:γ->Prop}{H:Hp}{a:List V}(t:Paired (PrA H) a ps):Mr F H a (ps.map prD2) []:=by
 induction t with
 | nil=>exact .nil
 | cons h t c =>
   obtain⟨b,rfl,d⟩:=h;exact .cons (A:=[]) (B:=[]) (.q d (.cons (A:=[]) (B:=[]) (.int _) (.cons (A:=[]) (B:=[]) (.int _) .nil))) c
theorem qaz6{K:W.Frag}:CS1 true (qaD0 K) qaq4:=by
 intro F H v x B d Q r h q;cases x with
 | l z n =>
   obtain⟨c,e,f⟩:=zA1.mp h;obtain⟨⟨g,i⟩,rfl⟩:=qn4 f;cases qX2 e;obtain⟨a,j,A,rfl,k,m,_⟩:=r.lst_inv;exact⟨a,j,c,rfl,.inl (.inl k),qaE7 m,g,i,λ l o b t=>q _ _ [l] (qq1 b (qau6 t)) (Same.new b) (qf3 b)⟩
 | _=>cases h
end
noncomputable abbrev Fe(ns:List Int):List Int:=ns.mergeSort λ a b=>decide (a<=b)
theorem qV8{d ns:List Int}(g:d.Perm ns)(i:d.Pairwise λ a b=>a<=b):d=Fe ns:=by
 refine List.Perm.eq_of_pairwise (le:=λ a b:Int=>a<=b) (λ a b _ _ e f=>Int.le_antisymm e f) i ?_ (g.trans (List.mergeSort_perm _ _).symm);exact(List.pairwise_mergeSort (λ a b c e f=>by simp at e f ⊢;lia) (λ a b=>by simp;lia) ns).imp λ{a b} h=>by simpa using h
theorem qab2:∀{ns:List Int}{its:List V'},Mz (ns.map V.int) its->IntsAre its ns/\its.map numOf=ns
 | [],_,r=>by cases r;exact⟨.nil,rfl⟩
 | n::ns,_,r=>by
   cases r with
   | cons h t =>
     obtain⟨t1,rfl⟩:=h;have a:=qab2 t;exact⟨.cons _ _ a.1,by rw[zAx,a.2];rfl⟩
theorem qab0:∀{out:List V'},(∀ u∈out,∃ n t,u=Value.int n t)->Mz ((out.map numOf).map V.int) out
 | [],_=>.nil
 | u::out,k=>by
   obtain⟨n,t,rfl⟩:=k u zAc;exact .cons ⟨t,rfl⟩ (qab0 λ v a=>k v (zA5 _ a))
theorem qaN0:∀{l:List V'},2<=l.length->∃ v w vs,l=v::w::vs
 | v::w::vs,_=>⟨v,w,vs,rfl⟩
 | [_],h=>absurd h (by simp)
 | [],h=>absurd h (by decide)
def qaD1(K:W.Frag):List V->Hp->VK->Prop:=λ xs H Q=>∃ a ns,xs=[.ref a]/\SqL K H a (ns.map V.int)/\ns.Nodup/\ns.length<=64/\∀ l,H l=none->Q (.ref l) (upd H l (.l ((Fe ns).map V.int)))
theorem qG2{X:Cx}:CallR X (.builtin "sorted") (qaD1 X.K):=by
 intro Fb s σ H Z us Q I r h;obtain⟨a,l,rfl,G,i,hl,q⟩:=h;obtain⟨u,rfl,J⟩:=Bo r;cases J;obtain⟨f,L,M,hz⟩:=I.list G;obtain⟨g,j⟩:=qab2 L;have N:f.length<=64:=by have:=congrArg List.length j;rw[zA8] at this;lia
 refine S6.sorted6 (kf:=λ v=>(numOf v,0)) (kd:=oneType') M.isList N ?_ (λ A E h' kp c=>⟨λ Q' k=>?_,λ x y O P E Q k=>?_⟩) λ d p B=>?_
 . rw[<- j] at i
   unfold List.Nodup at i ⊢;rw[zBl] at i ⊢;exact i.imp λ h z=>h (congrArg Prod.fst z)
 . obtain⟨v,w,vs,e⟩:=qaN0 c
   rw[e] at g ⊢;rw[keyKind_ints g];exact J' k
 . obtain⟨m,t,C⟩:=g.all _ O
   obtain⟨R,S,D⟩:=g.all _ P;rw[keyLt'_oneType,C,D];refine oneLt_int ?_;have e:S6.kl (λ v=>(numOf v,0)) x y=decide (m < R):=by simp[S6.kl,S6.plt,C,D,numOf]
   rwa[e] at k
 have T:∀ u∈d,∃ n t,u=Value.int n t:=λ u U=>g.all _ (p.mem_iff.mp U)
 have F:=qab0 T;obtain⟨e,W⟩:=sortedAll_at s.heap f d.toArray;have Y:d.map numOf=Fe l:=qV8 (j ▸ p.map _) (by
   rw[zBl] at B ⊢;exact B.imp λ{a b} h=>by simp[S6.plt] at h;exact h)
 rw[Y] at F;refine⟨.ref _,_,I.laid (t':=s.toks) (λ b o z=>sortedAll_old z) (Nat.le_succ _) (show ObjOk X.prog X.w _ _ _ (.l ((Fe l).map V.int)) from⟨?_,d,e,F,W⟩),rfl,q _ (I.hok.fresh (Nat.le_succ _))⟩;rw[zA8,List.length_mergeSort,Lz];lia
def qaK2(x:D):Option D:=match x with
 | .l _ ys=>(intsD ys).bind λ ns=>gd (ns.Nodup/\ns.length<=64) (.l false ((Fe ns).map D.int))
 | _=>none
theorem qN8{F:γ->Prop}{H:Hp}:∀ ns:List Int,Mr F H (ns.map V.int) (ns.map D.int) []
 | []=>.nil
 | n::ns=>.cons (A:=[]) (B:=[]) (.int n) (qN8 ns)
theorem qad3{K:W.Frag}:CS1 true (qaD1 K) qaK2:=by
 intro F H v x B d Q r h q;cases x with
 | l z m =>
   obtain⟨c,e,f⟩:=zA1.mp h;obtain⟨⟨g,i⟩,rfl⟩:=qn4 f;obtain⟨a,n,A,rfl,j,k,_⟩:=r.lst_inv;cases k.intsD e;exact⟨a,c,rfl,.inl (.inl j),g,i,λ l b=>q _ _ [l] (qq1 b (qN8 _)) (Same.new b) (qf3 b)⟩
 | _=>cases h
end LV
namespace LV
open PySem L2
mutual
def D.plain:D->Bool
 | .q ds=>D.plains ds
 | .l z ds=>!z&&D.plains ds
 | .non=>true | .bl _=>true | .int _=>true | .str _=>true
 | _=>false
def D.plains:List D->Bool
 | []=>true
 | d::r=>d.plain&&D.plains r
end
end LV
namespace LV
open PySem L2 PyProof.Rows
section
variable{c:Vc}{X:Cx}{e:Expr}{ta tb:VT}{s:VSp}
def tOrT(ta tb:VT):VT:=λ ds Q xe=>ta ds Q xe∨tb ds Q xe
theorem eAlt(g:VE c X e ta)(i:VE c X e tb):VE c X e (tOrT ta tb):=by
 refine⟨λ Fb s σ H Q I b=>?_,λ d Q Q' f k j a=>Or.imp (g.m _ _ _ _ _ j a) (i.m _ _ _ _ _ j a)⟩;obtain⟨F,d,A,f,S,a,q⟩:=b;rcases q with q | q
 . exact g.h Fb s σ H Q I ⟨F,d,A,f,S,a,q⟩
 exact i.h Fb s σ H Q I ⟨F,d,A,f,S,a,q⟩
end
end LV
namespace L2
open PySem PySem.Spec PyProof.Rows
def tHdM(M:γ->Option Bool)(j:Nat)(ts tr:γ->TS):γ->TS:=λ a D σ H=>∃ C c b,H a=some (Be a C c false)/\M C=some b /\
 if b=true then ts a (qaA1 j D) (σ.set j (some (.ref a))) H else tr a D σ H
theorem M7.u64{cm:Bool}{k:Nat}{A:Around}(a:M7 cm k A):A.units+64 < cLine:=a.units
theorem M7.mark{cm:Bool}{k:Nat}{A:Around}(r:M7 cm k A)(v:Option V'):M7 false k (A.mark v):=⟨λ z=>(nomatch z),r.dp,r.un⟩
section
variable{X:Cx}
theorem hd_go{j:Nat}{y:Str}{pos:Pos}{b₀:Stmt}{suite:List Stmt}{rest:List ExceptHandler}{ts tr:γ->TS}{Fb:List (γ×Obj)}{s:Sh}{σ:St}{H:Hp}{D:Bm}{a:γ}{n:Nat}{b:Bool}(d:X.N.Nodup)(i:∀ a,PSs (Xh X a) (b₀::suite) (ts a))(k:PH X rest tr)(e:X.N[j]? = some y)(c:X.env.scope.names.lookup y=some .local)(I:M4 X Fb σ H s)(F:Fly n H s.heap a)(O:Old X Fb n)(q:if b=true then ts a (qaA1 j D) (σ.set j (some (.ref a))) H else tr a D σ H) :
   (match (Except.ok (if b then Flow.brk else Flow.next):Result) with
     | .ok .brk=>codeAny (model X.prog X.w) (X.A.mark (some (.ref a))) (.handlers (.ref a) [.ExceptHandler none (some y) (b₀::suite) pos] X.env) (λ r s₂=>match r with
         | .ok f=>wpAny (model X.prog X.w) X.A (do bindName X.env y .none;unbindBehindTheSuite X.env y pos) (λ _ s₃=>SP X Fb D f s₃) X.xe s₂
         | .error x=>cameBackBy (model X.prog X.w) X.A X.env X.xe x s₂) s
     | .ok _=>wpAny (model X.prog X.w) X.A (handleBy (.ref a) X.env rest) (SP X Fb D) X.xe s
     | .error x=>cameBackBy (model X.prog X.w) X.A X.env X.xe x s):=by
 cases b with
 | false =>
   simp only[Bool.false_eq_true,if_false] at q ⊢;exact k Fb s σ H D a n I F O q
 | true =>
   simp only[if_true] at q ⊢;refine codeAny_handlers_suite_as (qak6 I F O λ o I1 F1=>?_);refine qz4 (X:=Xh X a) (v:=.ref a) I1.h d e (.inl c) rfl (λ l I2=>?_) (.inr c);refine L9 (i a Fb l (σ.set j (some (.ref a))) H (qaA1 j D) I2 q) (λ f p z=>?_) λ _ _ z=>z.elim
   cases f with
   | next=>obtain⟨σ',H',J,z⟩:=z;exact qO2 (J.unh I.ok) d e c λ g J4=>⟨_,H',J4,z⟩
   | brk=>obtain⟨σ',H',J,z⟩:=z;exact qO2 (J.unh I.ok) d e c λ g J4=>⟨_,H',J4,z⟩
   | cont=>obtain⟨σ',H',J,z⟩:=z;exact qO2 (J.unh I.ok) d e c λ g J4=>⟨_,H',J4,z⟩
   | ret u=>obtain⟨v,σ',H',J,m,z⟩:=z;exact qO2 (J.unh I.ok) d e c λ g J4=>⟨v,_,H',J4,m,z⟩
theorem qaO6(j:Nat){x y:Str}{C':γ}{np pos:Pos}{b₀:Stmt}{suite:List Stmt}{rest:List ExceptHandler}{ts tr:γ->TS}(d:X.N.Nodup)(c:Exc X.K C')(hm:X.mg x=some (.ref C'))(e:∀ a,PSs (Xh X a) (b₀::suite) (ts a))(f:PH X rest tr)(g:X.N[j]? = some y:=by rfl)(i:X.env.scope.names.lookup y=some .local:=by rfl)(k:Gl X x:=by rfl)(l:N' x:=by decide) :
   PH X (.ExceptHandler (some (.Name x np)) (some y) (b₀::suite) pos::rest) (tHdM (λ C=>W.mroIn X.K C (.ref C')) j ts tr):=by
 intro Fb s σ H D a n I F O h;obtain⟨C,t,b,m,o,q⟩:=h;obtain⟨u,v,p,r,_⟩:=qL2 I.hok m;refine wpAny_handleBy_cons (codeAny_handlers_test (qF0 (X:=Xh X a) I.h k hm ?_ l)) (by intro z;cases z);exact qal3 I.kIn c p r o (hd_go d e f g i I F O q)
end
end L2
namespace LV
open PySem L2
variable{H:Hp}{x:Str}
abbrev VH:=Exn->VTS
inductive Jp(c:Vc)(t:VH)(a:γ)(E:Bm)(σ:St)(H:Hp):Prop
 | mk (x:Exn) (F:γ->Prop) (ds:Ds) (A:List γ) (e:VEnds) (r:RepX F H a x) (S:M6 c F H σ ds A) (l:Lk c E F H A e) (q:t x e ds):Jp c t a E σ H
structure VHs(c:Vc)(X:Cx)(hs:List ExceptHandler)(t:VH):Prop where
 h:PH X hs (Jp c t)
 m:∀ x (e e':VEnds) ds,e.Le e'->t x e ds->t x e' ds
section
variable{c:Vc}{X:Cx}{pos np:Pos}{j:Nat}{ts:VTS}{tr:VH}{b₀:Stmt}{suite:List Stmt}{rest:List ExceptHandler}{y:Str}{M:γ->Option Bool}
theorem PH.mono{b:List ExceptHandler}{t t':γ->TS}(h:PH X b t)(i:∀ a D σ H,t' a D σ H->t a D σ H):PH X b t':=λ Fb s σ H D a n I F O q=>h Fb s σ H D a n I F O (i a D σ H q)
theorem vhnil:VHs c X [] (λ _ _ _=>False):=⟨PH.mono qaO5 λ _ _ _ _ ⟨_,_,_,_,_,_,_,_,q⟩=>q,λ _ _ _ _ _ z=>z⟩
noncomputable def Hf(e:VEnds):VEnds:=⟨λ _=>False,e.rt,λ _=>False,λ _=>False,λ _ _=>False⟩
noncomputable abbrev cNo(c:Vc):Vc:={ c with E:=λ _ _ _ _=>False }
def hAs(M:γ->Option Bool)(j:Nat)(ts:VTS)(tr:VH):VH:=λ x e ds=>x.fs≠[]/\∃ b,M x.C=some b/\if b=true then ts (Hf e) (ds.set j (.exn x.C x.fs)) else tr x e ds
theorem RepX.rep{F:γ->Prop}{a:γ}{x:Exn}(r:RepX F H a x)(h:x.fs≠[]):M3 F H (.ref a) (.exn x.C x.fs) []:=by
 obtain⟨g,e,q | ⟨i,b,rfl,c,d,f⟩⟩:=r
 . exact absurd q h
 exact .exn e c d f
theorem hAs_m{X':Cx}{st:List Stmt}(f:VSs (cNo c) X' st ts)(g:VHs c X rest tr):∀ x (e a:VEnds) ds,e.Le a->hAs M j ts tr x e ds->hAs M j ts tr x a ds:=λ x e a ds d ⟨h,b,i,q⟩=>⟨h,b,i,qy5 (f.m (Hf e) (Hf a) _ ⟨λ _ z=>z,d.rt,λ _ z=>z,λ _ z=>z,λ _ _ z=>z⟩) (g.m x e a ds d) q⟩
theorem qaT0(k:c.W j=false){f:TS}(g:f=Fy (cNo c) ts){a:γ}{D:Bm}{σ:St}(m:j < σ.length)(q:Jp c (hAs M j ts tr) a D σ H):tHdM M j (λ _=>f) (Jp c tr) a D σ H:=by
 subst g;obtain⟨x,F,n,A,e,r,S,l,h,b,p,q⟩:=q;obtain⟨t,u,_⟩:=id r;refine⟨x.C,t,b,u,p,?_⟩;cases b with
 | false=>exact⟨x,F,n,A,e,r,S,l,q⟩
 | true =>
   obtain⟨A',S',w⟩:=S.store k m (r.rep h) (by simpa using S.ok);exact⟨F,_,A',Hf e,⟨S'.loc,S'.ok,S'.len,S'.ag⟩,⟨λ _ _ _ _ _ z=>z.elim,λ d i v σ' H' F' T A2 q r S2 o s=>l.rt d i v σ' H' F' T A2 q r ⟨S2.loc,S2.ok,S2.len,S2.ag⟩ o (w.trans s),λ _ _ _ _ _ z=>z.elim,λ _ _ _ _ _ z=>z.elim,λ _ _ _ _ _ _ _ z=>z.elim⟩,q⟩
theorem vhas(j:Nat){C':γ}(f:X.N.Nodup)(ex:Exc X.K C')(hm:X.mg x=some (.ref C'))(b:∀ a,VSs (cNo c) (Xh X a) (b₀::suite) ts)(d:VHs c X rest tr)(g:c.W j=false:=by rfl)(e:X.N[j]? = some y:=by rfl)(i:X.env.scope.names.lookup y=some .local:=by rfl)(k:Gl X x:=by rfl)(l:N' x:=by decide) :
   VHs c X (.ExceptHandler (some (.Name x np)) (some y) (b₀::suite) pos::rest) (hAs (λ C=>W.mroIn X.K C (.ref C')) j ts tr) :=
 ⟨λ Fb s σ H D a n I F O q=>qaO6 j f ex hm (λ a=>(b a).h) d.h e i k l Fb s σ H D a n I F O (qaT0 g rfl (qm9 e Fb σ H s I) q),hAs_m (b 0) d⟩
def sTryW(t:VTS)(th:VH):VTS:=λ e ds=>t { e with xe:=λ x a=>th x e a } ds
theorem stryW{body:List Stmt}{h₀:ExceptHandler}{o:List ExceptHandler}{t:VTS}{th:VH}(p:∀ E xe f,Lands (Xt X xe f) E->VSs { c with E:=E } (Xt X xe f) body t)(s:VHs c X (h₀::o) th)(g:X.stack=X.env::X.outer:=by rfl)(i:X.env.frame=some X.env.locals:=by rfl):VS c X (.Try body (h₀::o) [] [] pos) (sTryW t th):=by
 refine⟨PS.mono (qaO2 (tb:=λ E=>Fy { c with E:=E } t) (λ E xe f w=>(p E xe f w).h) s.h g i) λ D σ H j=>?_,λ e G u h=>(p (λ _ _ _ _=>False) (λ _ _=>True) [] λ _ _ _ _ _ _ _ _ _ z=>z.elim).m _ _ _ ⟨h.nx,h.rt,h.bk,h.ct,λ x b=>s.m x _ _ _ h⟩⟩;obtain⟨F,u,A,e,S,l,q⟩:=j;refine⟨λ σ' y _ H'=>∃ x a b F' A',y=.ref a/\th x e b/\RepX F' H' a x/\M6 c F' H' σ' b A'/\M5 F H A F' H' A',⟨F,u,A,_,⟨S.loc,S.ok,S.len,S.ag⟩,⟨?_,?_,?_,?_,?_⟩,q⟩,λ a σ' H' ⟨x,I,b,F',A',B,C,k,S',n⟩=>?_⟩
 . exact λ b σ' H' F' A' q S'=>l.nx b σ' H' F' A' q ⟨S'.loc,S'.ok,S'.len,S'.ag⟩
 . exact λ d b v σ' H' F' T A' q r S'=>l.rt d b v σ' H' F' T A' q r ⟨S'.loc,S'.ok,S'.len,S'.ag⟩
 . exact λ b σ' H' F' A' q S'=>l.bk b σ' H' F' A' q ⟨S'.loc,S'.ok,S'.len,S'.ag⟩
 . exact λ b σ' H' F' A' q S'=>l.ct b σ' H' F' A' q ⟨S'.loc,S'.ok,S'.len,S'.ag⟩
 . exact λ x b σ' a H' F' A' q k S' n=>⟨x,a,b,F',A',rfl,q,k,⟨S'.loc,S'.ok,S'.len,S'.ag⟩,n⟩
 cases B;exact⟨σ',rfl,λ _ _ z=>z,x,F',b,A',e,k,S',l.step n,C⟩
end
section
variable{c:Vc}{X:Cx}{e e2:Expr}{pos p:Pos}{own:Bool}{f:FV}
theorem M3.exn_inv{F:γ->Prop}{v:V}{C:γ}{fs:List (Str×D)}{B:List γ}(r:M3 F H v (.exn C fs) B):∃ a dx b,v=.ref a/\B=[]/\H a=some (Be a C (some dx) false)/\H dx=some (XD dx b)/\b.map (·.1)=fs.map (·.1)/\Mr F H (b.map (·.2)) (fs.map (·.2)) []:=by
 cases r with
 | exn h g e r=>exact⟨_,_,_,rfl,rfl,h,g,e,r⟩
def Li(K:W.Frag)(f:FV)(u:V'):VT:=λ ds Q _=>orF (f ds) λ d=>∃ C fs b,d=.exn C fs/\IsX K C/\W.kitOne K (.ref C) u=some b/\Q (.bl b) ds
theorem eisX{d:V}{u:V'}(hm:X.mg "isinstance" = none)(o:VV c X e own f)(t:PE X e2 (tC d))(w:Mx d u)(g:∀ l,Mx d l->l=u)(y:Gl X "isinstance" := by rfl)(h1:Lq [e,e2] X.env=(false,eval e X.env)::Lq [e2] X.env:=by rfl)(h2:Lq [e2] X.env=(false,eval e2 X.env)::Lq [] X.env:=by rfl)(i:((backTo pos (Lq [e2] X.env)).any λ x=>x.1)=false:=by rfl) :
   VE c X (.Call (.Name "isinstance" p) [e,e2] [] pos) (Li X.K f u):=by
 refine⟨PE.mono (cbi qaz8 hm (qe6 o.h (qe6 t qt9 h2) h1) y rfl (by decide) (by decide) h1 i) λ σ H Q j=>?_,λ m Q Q' z D E _=>qa5 λ d ⟨C,n,b,h1,h2,G,I⟩=>⟨C,n,b,h1,h2,G,E _ _ I⟩⟩;obtain⟨F,m,A,z,S,x,q⟩:=j;obtain⟨P,J,C,n,b,rfl,ix,L,q⟩:=qa7.mp q;refine⟨F,m,A,_,S,J,λ v H1 B r s _=>?_⟩;obtain⟨a,M,k,rfl,rfl,N,O,_⟩:=r.exn_inv;exact⟨a,d,u,C,M,false,k,b,rfl,w,g,N,O,ix,L,q _ _ F [] A (.bl b) (S.same s) (S.same s).ok (.same s)⟩
theorem Fs(C':γ){np:Pos}(hm:X.mg "isinstance" = none)(g:VV c X e own f)(h:X.mg x=some (.ref C'))(i:Gl X "isinstance" := by rfl)(a:Gl X x:=by rfl)(j:N' x:=by decide)(h1:Lq [e,.Name x np] X.env=(false,eval e X.env)::Lq [.Name x np] X.env:=by rfl)(h2:Lq [.Name x np] X.env=(false,eval (.Name x np) X.env)::Lq [] X.env:=by rfl)(b:((backTo pos (Lq [.Name x np] X.env)).any λ x=>x.1)=false:=by rfl) :
   VE c X (.Call (.Name "isinstance" p) [e,.Name x np] [] pos) (Li X.K f (.ref C')):=eisX (d:=.ref C') hm g (qaF5 C' h a j) rfl (λ _ z=>z) i h1 h2 b
theorem eisXt(n:String){np:Pos}(hm:X.mg "isinstance" = none)(h:VV c X e own f)(a:X.mg x=none)(i:Gl X "isinstance" := by rfl)(b:Gl X x:=by rfl)(j:Lw x=some (.type n):=by rfl)(k:x ≠ "__name__" := by decide)(l:N' x:=by decide)(h1:Lq [e,.Name x np] X.env=(false,eval e X.env)::Lq [.Name x np] X.env:=by rfl)(h2:Lq [.Name x np] X.env=(false,eval (.Name x np) X.env)::Lq [] X.env:=by rfl)(g:((backTo pos (Lq [.Name x np] X.env)).any λ x=>x.1)=false:=by rfl) :
   VE c X (.Call (.Name "isinstance" p) [e,.Name x np] [] pos) (Li X.K f (.type n)):=eisX (d:=.ty n) hm h (qaG0 n a b j k l) rfl (λ _ z=>z) i h1 h2 g
def tEFX(K:W.Frag)(f:FV)(fl:Str):VT:=λ ds Q _=>orF (f ds) λ d=>∃ C fs v,d=.exn C fs/\Exc K C/\qc8 K C fl/\fs.lookup fl=some v/\Q v ds
theorem eefld{fl:Str}{K:W.Frag}(k:X.K=K)(l:VV c X e own f)(m:Ly e fl X.env (eval e X.env)=eval e X.env:=by rfl):VE c X (.Attribute e fl pos) (tEFX K f fl):=by
 subst k;refine⟨PE.mono (qaF8 l.h m) λ σ H Q g=>?_,λ j Q Q' o p t _=>qa5 λ d ⟨C,i,v,u,w,y,z,D⟩=>⟨C,i,v,u,w,y,z,t _ _ D⟩⟩;obtain⟨F,j,A,o,S,x,q⟩:=g;obtain⟨T,E,C,i,d,rfl,G,n,I,q⟩:=qa7.mp q;refine⟨F,j,A,_,S,E,λ v H1 B r s _=>?_⟩;obtain⟨a,J,b,rfl,rfl,L,M,N,O⟩:=r.exn_inv;obtain⟨v,P,R⟩:=qy2 b i N O I;exact⟨a,C,J,false,b,v,rfl,L,M,G,n,P,q _ _ F [] A R (S.same s) (S.same s).ok (.same s)⟩
theorem qZ8{X':Cx}:Lands X' (cNo c).E:=λ _ _ _ _ _ _ _ _ _ z=>z.elim
end
end LV
namespace HT
open PySem PyProof.Rows
noncomputable def lexGt:List Int->List Int->Bool
 | [],[]=>false
 | [],_::_=>false
 | _::_,[]=>true
 | x::xs,y::ys=>if x=y then lexGt xs ys else decide (x > y)
theorem qu5(x y:Int)(xs ys:List Int):lexGt (x::xs) (y::ys)=if x=y then lexGt xs ys else decide (x > y):=rfl
theorem qq4:lexGt [] []=false:=rfl
theorem qB5(y:Int)(ys:List Int):lexGt [] (y::ys)=false:=rfl
theorem qB6(x:Int)(xs:List Int):lexGt (x::xs) []=true:=rfl
theorem qau0(A:Around)(s:Sh)(a:Int)(t:Tok)(c:Int)(u:Tok)(prog:Program)(w:World)(E Q:V'->Sh->Prop)(h:Q (.bool (decide (a > c))) s) :
   wpAny (model prog w) A (richCompare .Gt (.int a t) (.int c u)) Q E s :=
 (PyProof.Rows.gt_int h:wpAny (model prog w) A (Ls .Gt (.int a t) (.int c u)) Q E s)
section
open PySem.SeqAt
open PySem.AutoSeq1 (wpAny_loadPart')
open PySem.MeetsSeq PySem.MeetsSeq2 PySem.MeetsSeq3
theorem qC9(l b:γ)(items items2:Array V')(n P:Nat)(dd I:Option γ)(sl J:Array (Option V'))(ns C:List Int)(hi:IntsAre items.toList ns)(N:IntsAre items2.toList C) :
   Meets (Builtin.«tuple.__gt__» ⟨[.ref l,.ref b],[]⟩)
     (λ _ R s=>s.heap.get? l=some { cls:=.type "tuple",dict:=dd,data:=.seq items n,slots:=sl }/\s.heap.get? b=some { cls:=.type "tuple",dict:=I,data:=.seq items2 P,slots:=J } /\
       R (.ok (.ret (.bool (lexGt ns C)))) s) :=
 .of_wp λ prog w A R s h=>by
   obtain⟨D,g,d,E,F⟩:=s;obtain⟨Q,S,h⟩:=h;have f2:=AutoSeq1.sub_tuple_tuple;have X:items.size=ns.length:=by rw[<- hi.length];simp
   have Y:items2.size=C.length:=by rw[<- N.length];simp
   wp_walk using wpAny_loadPart' Q,wpAny_loadPart' S,wpAny_forIn_list _ (λ rest b K=>b.1=none/\K=⟨D,g,d,E,F⟩/\∃(G H:List V')(i j:List Int),rest=G.zip H /\
     IntsAre G i/\IntsAre H j/\i.length+items2.size=j.length+items.size/\R (.ok (.ret (.bool (lexGt i j)))) ⟨D,g,d,E,F⟩) _
   case turn =>
     rintro⟨y,x⟩ rest b K ⟨r,rfl,G,H,i,j,k,v,m,f,o⟩;cases v with
     | nil=>rw[List.zip_nil_left] at k;cases k
     | cons a t z =>
       cases m with
       | nil=>rw[List.zip_nil_right] at k;cases k
       | cons c u B =>
         rw[List.zip_cons_cons] at k;injection k with L hrest
         injection L with T U
         subst T U;rw[qu5] at o;simp only[zAg] at f;obtain⟨e,V,p⟩:=qaz3 A.in1 ⟨D,g,d,E,F⟩ a t c u;refine G' (V prog w _ _ ?_);cases e with
         | true =>
           rw[if_pos (p.mp rfl)] at o
           wp_walk
           exact⟨rfl,rfl,_,_,_,_,hrest,z,B,by lia,o⟩
         | false =>
           rw[if_neg (λ q=>absurd (p.mpr q) zAh)] at o;have M:=qau0 A.in1 ⟨D,g,d,E,F⟩ a t c u prog w
           wp_walk using M
           exact⟨_,rfl,by simpa using o⟩
   case fin =>
     rintro⟨Z,b2⟩ K ⟨r,rfl,G,H,i,j,k,v,m,f,o⟩;simp only at r;subst r;have O:lexGt i j=decide (items.size > items2.size):=by
       cases v with
       | nil =>
         cases m with
         | nil =>
           simp only[zBn] at f;rw[qq4];exact(zAy (by lia)).symm
         | cons c u W =>
           simp only[zBn,zAg] at f;rw[qB5];exact(zAy (by lia)).symm
       | cons a t O =>
         cases m with
         | nil =>
           simp only[zBn,zAg] at f;rw[qB6];exact(zA9 (by lia)).symm
         | cons c u W =>
           rw[List.zip_cons_cons] at k;cases k
     rw[O] at o
     wp_walk
     exact⟨_,rfl,by simpa[Builtin.Tuple.tupleCompareSizes] using o⟩
   case h =>
     exact⟨rfl,rfl,items.toList,items2.toList,ns,C,rfl,hi,N,by lia,h⟩
end
section
variable{prog:Program}{w:World}{A:Around}{E:V'->Sh->Prop}{s:Sh}
theorem qab8{l b:γ}{items items2:Array V'}{ns a:List Int}{Q:V'->Sh->Prop}(m:IsTup s.heap l items)(o:IsTup s.heap b items2)(hi:IntsAre items.toList ns)(p:IntsAre items2.toList a)(q:A.units < cLine)(h:Q (.bool (lexGt ns a)) s):wpAny (model prog w) A (Ls .Gt (.ref l) (.ref b)) Q E s:=by
 obtain⟨⟨r,t,data,u⟩,i,j,n,k⟩:=id m;obtain⟨⟨cls2,f,data2,g⟩,c,d,v,e⟩:=id o;simp only at j k d e;subst j k d e;exact richCompare_meets_room (op:=.Gt) ⟨_,i,rfl⟩ ⟨_,c,rfl⟩ F.slot_tuple_gt F.entry_tuple_gt (F.args_tuple_gt_2 _ _) (qC9 l b items items2 n v t f u g ns a hi p)
   ⟨i,c,show Value.bool (lexGt ns a)≠Value.notImplemented/\Q (.bool (lexGt ns a)) s from⟨(λ x=>nomatch x),h⟩⟩ q
end
end HT
namespace L2
open PySem PySem.Spec PyProof.Rows
def rGtT(K:W.Frag):R2:=λ x y H Q=>∃ a b ns c,x=.ref a/\y=.ref b/\SqT K H a (ns.map V.int)/\SqT K H b (c.map V.int)/\Q (.bl (HT.lexGt ns c)) H
theorem qaQ3{X:Cx}(c:X.A.units < cLine):OpR X (Ls .Gt) (rGtT X.K):=by
 intro Fb s σ H x y v u Q I d e h;obtain⟨a,b,f,g,rfl,rfl,i,j,q⟩:=h;cases d;cases e;obtain⟨k,l,m,_⟩:=I.tuple i;obtain⟨its2,n,o,_⟩:=I.tuple j;exact HT.qab8 m o (qu8 l) (qu8 n) c ⟨.bl (HT.lexGt f g),H,I,rfl,q⟩
end L2
namespace LV
open PySem L2
def gGtT(x y:D):Option D:=match x,y with
 | .q xs,.q ys=>(intsD xs).bind λ ns=>(intsD ys).map λ a=>.bl (HT.lexGt ns a)
 | _,_=>none
theorem qaP5{K:W.Frag}:A4 true (rGtT K) gGtT:=by
 intro F H v w x y B d Q r h q;cases x with
 | q p =>
   cases y with
   | q s =>
     obtain⟨f,g,h⟩:=zA1.mp h;obtain⟨i,j,h⟩:=zAk.mp h;subst h;obtain⟨t,u,A',C',e,k,l,_⟩:=r.two_inv;cases e;obtain⟨a,A,rfl,m,n⟩:=k.tup_inv;obtain⟨b,C,rfl,o,c⟩:=l.tup_inv;cases n.intsD g;cases c.intsD j;exact⟨a,b,f,i,rfl,rfl,.inl (.inl m),.inl (.inl o),q _ H [] (.bl _) (λ _ _ z=>z) New.nil⟩
   | _=>cases h
 | _=>cases h
end LV
namespace LV.My
open PySem L2 Row _root_.My
variable{N i j l r:Nat}{Q:DK}{R:Ds->D->Prop}{S ks ns:List Int}{b z':Bool}{d p v x y:D}{ds ys:Ds}{e:VEnds}{f fa fb:FV}{fs:List (Str×D)}{k:Int}{m:Str}{qc:VTT}{s:VSp}{t u:VTS}{ta tb te:VT}{tr:VTB}{xe:XKd}{α:Type}
noncomputable def _root_.LV.D.whole:D->Bool
 | .int _=>true
 | _=>false
noncomputable def _root_.LV.D.within(l m:Int):D->Bool
 | .int i=>decide (l<=i)&&decide (i<=m)
 | _=>false
def _root_.LV.D.num:D->Bool:=D.within 0 1000000000000000000
noncomputable def fx3(g:D->D->D->Option D):Ds->Option D
 | [x,y,z]=>g x y z
 | _=>none
theorem qZ6{g:D->Option D}(h:Bq (fx1 g) ds Q xe):ds.length=1:=by
 match ds,h with
 | [_],_=>rfl
theorem qaJ0{g:D->D->D->Option D}(h:Bq (fx3 g) ds Q xe):ds.length=3:=by
 match ds,h with
 | [_,_,_],_=>rfl
theorem imm1{g:D->Option D}(h:Bq (fx1 g) ds Q xe):Iy (wOf [true]) 0 ds=true:=by
 match ds,h with
 | [_],_=>rfl
theorem imm3{g:D->D->D->Option D}(h:Bq (fx3 g) ds Q xe):Iy (wOf [true,true,true]) 0 ds=true:=by
 match ds,h with
 | [_,_,_],_=>rfl
theorem Lj{g:D->Option D}(h:Bq (fx1 g) ds Q xe):∃ x d,ds=[x]/\g x=some d/\Q d [x]:=by
 match ds,h with
 | [x],h=>obtain⟨d,e,q⟩:=qa7.mp h;exact⟨x,d,rfl,e,q⟩
theorem pure3{g:D->D->D->Option D}(h:Bq (fx3 g) ds Q xe):∃ x y z d,ds=[x,y,z]/\g x y z=some d/\Q d [x,y,z]:=by
 match ds,h with
 | [x,y,z],h=>obtain⟨d,e,q⟩:=qa7.mp h;exact⟨x,y,z,d,rfl,e,q⟩
theorem qj8{t:String}(h:x.kind=some t):x.known=true:=by
 cases x<;>first | rfl | cases h
def Aw(P:Ds->D->Prop):VSp:=λ ds Q _=>∃ d,P ds d/\Q d ds
theorem qb2{P:Ds->D->Prop}:Bp (Aw P):=λ _ _ _ _ _ a _ ⟨d,p,q⟩=>⟨d,p,a _ _ q⟩
noncomputable def Mw(ps:Pr):Ds:=ps.map λ p=>.q [.int p.1,.int p.2]
noncomputable def kvD(ps:Pr):List (Key×D):=ps.map λ p=>(.inl p.1,.int p.2)
def Ad(z:Bool)(C:γ)(n:Int)(wr:Bool)(ps:Pr):D:=.ins z C [("rooms",.int n),("wraps",.bl wr),("homes",.l z (Mw ps)),("home_numbers",.dct z (kvD ps))]
noncomputable def Ge:Option Int->D
 | none=>.non
 | some k=>.int k
def Mu(n:Nat)(g:Nat->Option Int):Ds:=(List.range n).map λ i=>Ge (g i)
noncomputable def Ms(ks:List Int):Ds:=ks.map .int
theorem qF1:∀ ps:Pr,D.imms (Mw ps)=true
 | []=>rfl
 | p::r=>by show (D.imms [.int p.1,.int p.2]&&D.imms (Mw r))=true;rw[qF1 r];rfl
theorem qj9:∀ ks:List Int,D.imms (Ms ks)=true
 | []=>rfl
 | k::r=>by show (true&&D.imms (Ms r))=true;rw[qj9 r];rfl
theorem qab4{α:Type}{f:α->D}(h:∀ a,(f a).imm=true):∀ l:List α,D.imms (l.map f)=true
 | []=>rfl
 | a::r=>by show ((f a).imm&&D.imms (r.map f))=true;rw[h a,qab4 h r];rfl
theorem qaJ8(o:Option Int):(Ge o).imm=true:=by cases o<;>rfl
theorem qy4(n:Nat)(g:Nat->Option Int):D.imms (Mu n g)=true:=qab4 (λ i=>qaJ8 _) _
theorem qab1:∀ ks:List Int,intsD (Ms ks)=some ks
 | []=>rfl
 | k::r=>by show (intsD (Ms r)).map (λ is=>k::is)=some (k::r);rw[qab1 r];rfl
theorem qv1:∀ ks:List Int,flats (Ms ks)=some (ks.map V.int)
 | []=>rfl
 | k::r=>by show (Option.bind (some (V.int k)) λ v=>(flats (Ms r)).bind λ a=>some (v::a))=_;rw[qv1 r];rfl
theorem qh4(ks:List Int):(Ms ks).length=ks.length:=zA8 _
theorem qq6(n:Nat)(g:Nat->Option Int):(Mu n g).length=n:=by simp[Mu]
theorem qF4{n:Nat}{g:Nat->Option Int}(h:i < n):(Mu n g)[i]? = some (Ge (g i)):=by
 unfold Mu;rw[zBb,List.getElem?_range h];rfl
theorem qaC3{n:Nat}{g:Nat->Option Int}{o:Option Int}:(Mu n g).set i (Ge o)=Mu n (λ j=>if j=i then o else g j):=by
 apply List.ext_getElem?;intro j;by_cases a:j < n
 . rw[qF4 a]
   by_cases e:i=j
   . subst e
     rw[zBw (by rw[qq6];exact a),if_pos rfl]
   rw[zBf e,qF4 a,if_neg (Ne.symm e)]
 rw[List.getElem?_eq_none (by rw[List.length_set,qq6];lia),List.getElem?_eq_none (by rw[qq6];lia)]
theorem qX7:∀ ps:Pr,qS2 (Mw ps)=some (kvD ps)
 | []=>rfl
 | p::r=>by
   show (Option.bind (some ((Sum.inl p.1:Key),D.int p.2)) λ q=>(qS2 (Mw r)).bind λ ps=>some (q::ps))=_;rw[qX7 r];rfl
theorem qah8{ps:Pr}{m:Int}(h:¬ k∈ps.map (·.1)):Gv (kvD ps) (.inl k) (.int m)=kvD (ps++[(k,m)]):=by
 unfold Gv;rw[if_neg]
 . unfold kvD;rw[zBe];rfl
 intro e;obtain⟨q,a,e⟩:=List.any_eq_true.mp e;obtain⟨r,b,rfl⟩:=zB8.mp a;have e:(Sum.inl r.1:Key)=Sum.inl k:=zAa e;exact h (zB8.mpr ⟨r,b,Sum.inl.inj e⟩)
theorem qN2:∀(a ps:Pr),((ps++a).map (·.1)).Nodup->qq2 (kvD ps) (kvD a)=kvD (ps++a)
 | [],ps,_=>by rw[zAf];rfl
 | q::a,ps,h=>by
   show qq2 (Gv (kvD ps) (.inl q.1) (.int q.2)) (kvD a)=_;have b:¬ q.1∈ps.map (·.1):=by
     rw[zBe,zAx,zBt] at h;exact λ z=>h.2.2 _ z _ zAc rfl
   rw[qah8 b,qN2 a (ps++[(q.1,q.2)]) (by rw[zAq];exact h),zAq];rfl
theorem qaj4{ps:Pr}(h:(ps.map (·.1)).Nodup):qq2 [] (kvD ps)=kvD ps:=qN2 ps [] h
theorem qaq8{z:Bool}{ps:Pr}(h:(ps.map (·.1)).Nodup):Jg (.l z (Mw ps))=some (.dct false (kvD ps)):=by
 show (qS2 (Mw ps)).map (λ ps=>D.dct false (qq2 [] ps))=_;rw[qX7];show some (D.dct false (qq2 [] (kvD ps)))=_;rw[qaj4 h]
theorem qan2(k:Int):∀ ps:Pr,Fi (kvD ps) (.inl k)=(ps.lookup k).map .int
 | []=>rfl
 | (p,m)::r=>by
   show Fi ((.inl p,.int m)::kvD r) _=_;by_cases e:p=k
   . subst e
     simp[Fi,zAu]
   have a:Fi ((.inl p,D.int m)::kvD r) (.inl k)=Fi (kvD r) (.inl k):=by simp[Fi,zBv,e]
   rw[a,qan2 k r]
   have:(k == p)=false:=by simpa using λ z=>e z.symm
   simp only[zAu,this]
theorem qa1{o:Option α}{a:α}{k:α->Prop}(e:o=some a)(h:k a):orF o k:=by rw[e];exact h
theorem Br{p:Prop}[Decidable p]{a b:Prop}(h:p)(x:a):if p then a else b:=by rw[if_pos h];exact x
theorem Gi{p:Prop}[Decidable p]{a b:Prop}(h:¬ p)(x:b):if p then a else b:=by rw[if_neg h];exact x
theorem ite_b{p:Bool}{a b:Prop}(h1:p=true->a)(h2:p=false->b):if p=true then a else b:=by cases p with | true=>exact h1 rfl | false=>exact h2 rfl
noncomputable def G1:Option Int->D
 | some f=>.int f
 | none=>.non
theorem qU0(b:rdN i ds=some x)(h:s [x] (λ d ys=>orF (Ap [.sl i] ys (ds.set i .u)) λ a=>Q d a) (λ e ys=>orF (Ap [.sl i] ys (ds.set i .u)) λ a=>xe e a)):qi0 s [] (tbN i Ay) ds Q xe :=
 ⟨by rw[b];rfl,by show orF (rdN i ds) _;rw[b];exact h⟩
theorem qA7{f:Ds->Option D}(e:f ds=some d)(q:Q d ds):Bq f ds Q xe:=qa1 e q
theorem qf1(e:R ds d)(q:Q d ds):Aw R ds Q xe:=⟨d,e,q⟩
theorem qc5{K:Ds->List Pl->Ds->Prop}(a:rdN i ds=some x)(h:tr ds (λ xs ps ds1=>orF (rdN i ds1) λ d=>K (d::xs) (.sl i::ps) (ds1.set i .u)) xe):tbN i tr ds K xe:=⟨by rw[a];rfl,h⟩
theorem qe5{K:Ds->List Pl->Ds->Prop}(b:f ds=some y)(h:tr ds (λ xs ps a=>K (y::xs) (.no::ps) a) xe):tbV (Bw f) tr ds K xe:=qa1 (k:=λ y=>tr ds (λ xs ps a=>K (y::xs) (.no::ps) a) xe) b h
theorem rd0{r:Ds}(h:d.known=true):rdN 0 (d::r)=some d:=qj3.mpr ⟨rfl,h⟩
theorem qac6{β:Type}(f:α->β)(l:List α):l.filterMap (λ a=>some (f a))=l.map f:=by simp
section
variable{z:Bool}{C:γ}{n:Int}{wr:Bool}{ps:Pr}
theorem qF7{f:Str}(h:fs.lookup f=some d):D.fld C f (.ins z C fs)=some d:=by
 show (if C=C then fs.lookup f else none)=some d;rw[if_pos rfl,h]
theorem qe0:D.fld C "rooms" (Ad z C n wr ps)=some (.int n):=qF7 (by rfl)
theorem qC1:D.fld C "wraps" (Ad z C n wr ps)=some (.bl wr):=qF7 (by rfl)
theorem qT5:D.fld C "home_numbers" (Ad z C n wr ps)=some (.dct z (kvD ps)):=qF7 (by rfl)
theorem qap9(h:fs.lookup m=none):(D.ins z C fs).isM C m=true:=by
 show (decide (C=C)&&(fs.lookup m).isNone)=true;rw[zA9 rfl,h];rfl
theorem qg0(h:([("rooms",.int n),("wraps",.bl wr),("homes",.l z (Mw ps)),("home_numbers",.dct z (kvD ps))]:List (Str×D)).lookup m=none):(Ad z C n wr ps).isM C m=true:=qap9 h
theorem A8{g:D->Option D}(h:fa ds=some x)(h':g x=some y):f1 g fa ds=some y:=qay6.mpr ⟨x,h,h'⟩
theorem Ae{g:D->D->Option D}(h:fa ds=some x)(h':fb ds=some y)(h2:g x y=some d):f2 g fa fb ds=some d:=qay5.mpr ⟨x,y,h,h',h2⟩
theorem qi7:(D.ins false C fs).ownI C=some fs:=by
 show (if C=C then some fs else none)=some fs;rw[if_pos rfl]
end
theorem qT2{C:γ}(b:rdN i ds=some p)(hm:p.isM C m=true)(h:tr ds (λ xs ps ds1=>orF (rdN i ds1) λ d=>s (d::(xs++[])) (λ r ys=>orF (Ap (.sl i::ps) ys (ds1.set i .u)) λ a=>Q r a) (λ x ys=>orF (Ap (.sl i::ps) ys (ds1.set i .u)) λ a=>xe x a)) xe):qv7 C m s [] i tr ds Q xe:=⟨qa1 b hm,h⟩
theorem qE0{f:Ds->Option D}(a:rdN i ds=some x)(e:f [x]=some d)(b:Ap [.sl i] [x] (ds.set i .u)=some ds)(q:Q d ds):qi0 (Bq f) [] (tbN i Ay) ds Q xe:=qU0 a (qA7 e (qa1 b q))
theorem qaI3(a:rdN i ds=some x)(r:R [x] d)(b:Ap [.sl i] [x] (ds.set i .u)=some ds)(q:Q d ds):qi0 (Aw R) [] (tbN i Ay) ds Q xe:=qU0 a (qf1 r (qa1 b q))
theorem qx5(c:rdN i ds=some x)(b:rdN j ds=some y)(a:rdN i (ds.set j .u)=some x)(r:R [x,y] d)(e:Ap [.sl i,.sl j] [x,y] ((ds.set j .u).set i .u)=some ds)(q:Q d ds):qi0 (Aw R) [] (tbN i (tbN j Ay)) ds Q xe :=
 qc5 c (qc5 b (qa1 b (qa1 a (qf1 r (qa1 e q)))))
theorem qZ4{w:D}(e:rdN i ds=some x)(f:rdN j ds=some y)(c:rdN l ds=some w)(a:rdN j (ds.set l .u)=some y)(b:rdN i ((ds.set l .u).set j .u)=some x)(r:R [x,y,w] d)(g:Ap [.sl i,.sl j,.sl l] [x,y,w] (((ds.set l .u).set j .u).set i .u)=some ds)(q:Q d ds):qi0 (Aw R) [] (tbN i (tbN j (tbN l Ay))) ds Q xe :=
 qc5 e (qc5 f (qc5 c (qa1 c (qa1 a (qa1 b (qf1 r (qa1 g q)))))))
theorem qT3{C:γ}(c:rdN i ds=some p)(hm:p.isM C m=true)(b:rdN j ds=some x)(a:rdN i (ds.set j .u)=some p)(r:R [p,x] d)(e:Ap [.sl i,.sl j] [p,x] ((ds.set j .u).set i .u)=some ds)(q:Q d ds):qv7 C m (Aw R) [] i (tbN j Ay) ds Q xe :=
 qT2 c hm (qc5 b (qa1 b (qa1 a (qf1 r (qa1 e q)))))
theorem qaj5{C:γ}(e:rdN i ds=some p)(hm:p.isM C m=true)(f:rdN j ds=some x)(c:rdN l ds=some y)(a:rdN j (ds.set l .u)=some x)(b:rdN i ((ds.set l .u).set j .u)=some p)(r:R [p,x,y] d)(g:Ap [.sl i,.sl j,.sl l] [p,x,y] (((ds.set l .u).set j .u).set i .u)=some ds)(q:Q d ds):qv7 C m (Aw R) [] i (tbN j (tbN l Ay)) ds Q xe :=
 qT2 e hm (qc5 f (qc5 c (qa1 c (qa1 a (qa1 b (qf1 r (qa1 g q)))))))
theorem Hg{t:VT}{n:VTS}(h:∀(Q:DK)(xe:XKd),Q (.bl true) ds->t ds Q xe)(h2:u e ds):G8 (sIf (Hb (ttE t)) n Ig) u e ds:=h _ _ h2
theorem if_e{t:VT}{v:VTS}(h:∀(Q:DK)(xe:XKd),Q (.bl b) ds->t ds Q xe)(h1:b=true->u e ds)(h2:b=false->v e ds):sIf (ttE t) u v e ds:=h _ _ (by
 show if b=true then u e ds else v e ds
 exact ite_b h1 h2)
theorem if_v{v:VTS}(h:f ds=some (.bl b))(h1:b=true->u e ds)(h2:b=false->v e ds):sIf (ttV f) u v e ds:=by
 show orF ((f ds).bind D.asB) _;rw[h];exact ite_b h1 h2
theorem Hh{u v:VT}(h:f ds=some (.bl b))(h1:b=true->u ds Q xe)(h2:b=false->v ds Q xe):tIfE (ttV f) u v ds Q xe:=by
 show orF ((f ds).bind D.asB) _;rw[h];exact ite_b h1 h2
theorem qr4(e:f ds=some d)(q:Q d ds):Bw f ds Q xe:=qa1 e q
theorem qg8{w:VTS}(b:Bool)(h:f ds=some (.bl b))(h1:b=true->u { e with nx:=w e } ds)(h2:b=false->w e ds):G8 (sIf (ttV f) u Ig) w e ds:=if_v (u:=u) (v:=Ig) h h1 h2
theorem qi6{t:VT}(h:t ds e.rt e.xe):sRet t e ds:=h
theorem qg5(d:D)(h:f ds=some d)(q:e.rt d ds):sRet (Bw f) e ds:=qa1 h q
theorem As(a:Ds)(h:ds=a)(q:t e a):t e ds:=h ▸ q
theorem qaa9{z:Bool}(h:rdN i ds=some (.l z ys)):Ba (fx2 gIsi) (A9 (rdN i) (A9 (kC (D.ty "list")) λ _=>some [])) ds=some (.bl true):=by
 unfold Ba A9;rw[h];rfl
theorem qu6{z:Bool}(h:rdN i ds=some (.l z ys)):Ba (fx1 Im) (A9 (rdN i) λ _=>some []) ds=some (.int (ys.length:Nat)):=by
 unfold Ba A9;rw[h];rfl
theorem qh0{Q:Bool->Ds->Prop}(h:f ds=some (.bl b))(q:Q b ds):ttV f ds Q xe:=by
 show orF ((f ds).bind D.asB) _;rw[h];exact q
theorem qh9{Q:Bool->Ds->Prop}(h:f ds=some (.bl b))(q:Q (!b) ds):Hb (ttV f) ds Q xe:=qh0 (Q:=λ b ds=>Q (!b) ds) h q
theorem qh1{t u:VTT}{Q:Bool->Ds->Prop}(b c:Bool)(h1:∀ Q:Bool->Ds->Prop,Q b ds->t ds Q xe)(h2:b=false->∀ Q:Bool->Ds->Prop,Q c ds->u ds Q xe)(q:Q (b||c) ds):ttOr t u ds Q xe:=h1 _ (by
 cases b with
 | false=>exact h2 rfl _ q
 | true=>exact q)
theorem qs5{t u:VTT}{Q:Bool->Ds->Prop}(b c:Bool)(h1:∀ Q:Bool->Ds->Prop,Q b ds->t ds Q xe)(h2:b=true->∀ Q:Bool->Ds->Prop,Q c ds->u ds Q xe)(q:Q (b&&c) ds):ttAnd t u ds Q xe:=h1 _ (by
 cases b with
 | false=>exact q
 | true=>exact h2 rfl _ q)
theorem Jq(b:Bool)(h:∀ Q:Bool->Ds->Prop,Q b ds->qc ds Q e.xe)(h1:b=true->t e ds)(h2:b=false->u e ds):sIf qc t u e ds:=h _ (ite_b h1 h2)
theorem qg1{w:VTS}(b:Bool)(h:∀ Q:Bool->Ds->Prop,Q b ds->qc ds Q e.xe)(h1:b=true->t { e with nx:=w e } ds)(h2:b=false->w e ds):G8 (sIf qc t Ig) w e ds:=h _ (ite_b h1 h2)
theorem qab7{t:VT}{n:VTS}(h:∀(Q:DK)(xe:XKd),Q (.bl true) ds->t ds Q xe)(h2:e.nx ds):sIf (Hb (ttE t)) n Ig e ds:=h _ _ h2
theorem qaJ9{n:VTS}(h:f ds=some (.bl true))(h2:u e ds):G8 (sIf (Hb (ttV f)) n Ig) u e ds:=qh9 (Q:=λ k a=>if k=true then n { e with nx:=u e } a else u e a) (xe:=e.xe) h h2
theorem qax8{z:Bool}{C:γ}{n:Int}{wr:Bool}{ps:Pr}:gIsO C (Ad z C n wr ps) (.adr C)=some (.bl true):=by
 show (if C=C then (Ad z C n wr ps).isC C else none)=_;rw[if_pos rfl];show (if C=C then some (D.bl true) else none)=_;rw[if_pos rfl]
theorem qf2{g:VTG}{t:VTS}{e:VEnds}(I:Nat->Ds->Prop):∀(xs:List D)(i:Nat)(ds:Ds),I i ds->(∀(j:Nat)(x:D),xs[j]? = some x->∀ ds,I (i+j) ds->∀ K:Ds->Prop,(∀ a,I (i+j+1) a->K a)->g x ds λ ds1=>t { e with nx:=K,ct:=K,bk:=e.nx } ds1)->(∀ a,I (i+xs.length) a->e.nx a)->Fj g t e xs ds
 | [],_,ds,h,_,hn=>hn ds h
 | x::xs,i,ds,h,hs,hn=>hs 0 x rfl ds h _ λ a f=>qf2 I xs (i+1) a f (λ j y k b c K l=>hs (j+1) y k b (by rw[show i+(j+1)=i+1+j by lia];exact c) K λ d m=>l d (by rw[show i+1+j+1=i+(j+1)+1 by lia];exact m)) λ b c=>hn b (by rw[zAg,show i+(xs.length+1)=i+1+xs.length by lia];exact c)
theorem qL1{g:VTG}{n:Int}(h:f ds=some (.int n))(a:Ix n=true)(k:Fj g t e (Fk 0 n.toNat) ds):qah3 (Ld (tbV (By f) Ay)) g t e ds:=by
 show orF (f ds) _;rw[h];exact⟨rfl,a,k⟩
theorem qT1{n:Int}(a:0<=n)(h1:n<=1000):Ix n=true:=by
 unfold Ix;rw[zA9 (by lia),zA9 (by lia)];rfl
theorem qW9{m:Nat}(h:(Fk 0 m)[j]? = some x):j < m/\x=.int (j:Int):=by
 by_cases a:j < m
 . rw[qao2 a] at h
   cases h;exact⟨a,by rw[Int.zero_add]⟩
 rw[List.getElem?_eq_none (by unfold Fk;rw[zA8,zBa];lia)] at h;cases h
def G2(p:Int->Bool)(y:D):Option D:=y.asI.bind λ k=>if p k=true then some (.int k) else none
theorem qaa5{p:Int->Bool}(h:p k=true):G2 p (.int k)=some (.int k):=if_pos h
theorem qaa6{p:Int->Bool}(h:p k=false):G2 p (.int k)=none:=if_neg (by rw[h];decide)
theorem qB8(p:Int->Bool):∀ ks:List Int,(Ms ks).filterMap (G2 p)=Ms (ks.filter p)
 | []=>rfl
 | k::ks=>by
   show List.filterMap (G2 p) (D.int k::Ms ks)=_;rw[zC5];cases h:p k with
   | true=>rw[qaa5 h,List.filter_cons_of_pos h];show D.int k::(Ms ks).filterMap (G2 p)=_;rw[qB8 p ks];rfl
   | false=>rw[qaa6 h,List.filter_cons_of_neg (by rw[h];decide),qB8 p ks]
theorem qaK9{a:Bool}(h1:fa ds=some (.bl a))(h2:fb ds=some (.bl b)):fOr fa fb ds=some (.bl (a||b)):=by
 unfold fOr;rw[h1,h2];cases a<;>rfl
theorem qP2{a:Bool}(h1:fa ds=some (.bl a))(h2:fb ds=some (.bl b)):fAnd fa fb ds=some (.bl (a&&b)):=by
 unfold fAnd;rw[h1,h2];cases a<;>rfl
theorem qb0(ds1:Ds)(h1:∀ K:Ds->Prop,K ds1->t { e with nx:=K } ds)(h2:u e ds1):G8 t u e ds:=h1 (u e) h2
theorem qc9(R:Ds->Prop)(h1:∀ K:Ds->Prop,(∀ ds1,R ds1->K ds1)->t { e with nx:=K } ds)(h2:∀ ds1,R ds1->u e ds1):G8 t u e ds:=h1 (u e) h2
theorem qU2(I:Nat->Ds->Prop)(n:Nat)(h:I n ds)(c:∀ n ds,I n ds->∀ K:Ds->Prop,(∀ m a,m < n->I m a->K a)->qc ds (λ b ds1=>if b=true then t { e with nx:=K,ct:=K,bk:=e.nx } ds1 else e.nx ds1) e.xe):qaC6 qc t e ds:=by
 have d:∀ N n ds,n < N->I n ds->whN qc t e N ds:=by
   intro N
   induction N with
   | zero=>intro n ds h;exact absurd h (Nat.not_lt_zero _)
   | succ N f=>intro n ds i h;exact c n ds h _ λ m a j g=>f m a (by lia) g
 exact⟨n+1,d (n+1) n ds (zBy n) h⟩
theorem qT9(f:rdN i ds=some x)(c:rdN j ds=some y)(b:rdN i (ds.set j .u)=some x)(h:s [x,y] (λ d ys=>orF (Ap [.sl i,.sl j] ys ((ds.set j .u).set i .u)) λ a=>Q d a) (λ e ys=>orF (Ap [.sl i,.sl j] ys ((ds.set j .u).set i .u)) λ a=>xe e a)):qi0 s [] (tbN i (tbN j Ay)) ds Q xe :=
 qc5 f (qc5 c (qa1 c (qa1 b h)))
theorem qaL9{w:D}(g:rdN i ds=some x)(k:rdN j ds=some y)(f:rdN l ds=some w)(b:rdN j (ds.set l .u)=some y)(c:rdN i ((ds.set l .u).set j .u)=some x)(h:s [x,y,w] (λ d ys=>orF (Ap [.sl i,.sl j,.sl l] ys (((ds.set l .u).set j .u).set i .u)) λ a=>Q d a) (λ e ys=>orF (Ap [.sl i,.sl j,.sl l] ys (((ds.set l .u).set j .u).set i .u)) λ a=>xe e a)):qi0 s [] (tbN i (tbN j (tbN l Ay))) ds Q xe :=
 qc5 g (qc5 k (qc5 f (qa1 f (qa1 b (qa1 c h)))))
theorem qaR3{C:γ}{k:Nat}{w:D}(f:rdN i ds=some p)(hm:p.isM C m=true)(g:rdN j ds=some x)(h:rdN l ds=some y)(e:rdN k ds=some w)(a:rdN l (ds.set k .u)=some y)(b:rdN j ((ds.set k .u).set l .u)=some x)(c:rdN i (((ds.set k .u).set l .u).set j .u)=some p)(r:R [p,x,y,w] d)(n:Ap [.sl i,.sl j,.sl l,.sl k] [p,x,y,w] ((((ds.set k .u).set l .u).set j .u).set i .u)=some ds)(q:Q d ds):qv7 C m (Aw R) [] i (tbN j (tbN l (tbN k Ay))) ds Q xe :=
 qT2 f hm (qc5 g (qc5 h (qc5 e (qa1 e (qa1 a (qa1 b (qa1 c (qf1 r (qa1 n q)))))))))
theorem qat3(h:ds[j]? = some d):ds.set j d=ds:=by
 obtain⟨a,e⟩:=zA6.mp h;rw[<- e];exact List.set_getElem_self a
theorem qj2(h:ds[i]? = some d)(a:d.known=true):rdN i ds=some d:=qj3.mpr ⟨h,a⟩
def M8(ns:List Int)(b:D):Prop:=∃ x y z,b=bagD x y z ns/\Bg x y z ns
theorem M8.known{b:D}(h:M8 ns b):b.known=true:=by obtain⟨x,y,z,rfl,_⟩:=h;rfl
def qI1:VSp:=λ ds Q _=>∃ b m ns,ds=[b,.int m]/\M8 ns b/\0 < m/\m < 2 ^ 200/\∀ v a,0<=v->v < m->M8 ns a->Q (.int v) [a,.int m]
theorem qd7{b:D}{m:Int}(d:ds[i]? = some b)(B:M8 ns b)(e:f ds=some (.int m))(g:0 < m)(h1:m < 2 ^ 200)(q:∀ v a,0<=v->v < m->M8 ns a->Q (.int v) (ds.set i a)):qi0 qI1 [] (tbN i (tbV (Bw f) Ay)) ds Q xe:=by
 have c:=qj2 d B.known;refine qc5 c (qe5 e (qa1 c ⟨b,m,ns,rfl,B,g,h1,λ v a h j B'=>?_⟩));show Q (.int v) ((ds.set i .u).set i a);rw[List.set_set];exact q v a h j B'
theorem qs6{b:D}{m:Int}(f:ds[i]? = some b)(B:M8 ns b)(c:ds[j]? = some (.int m))(d:i≠j)(g:0 < m)(h1:m < 2 ^ 200)(q:∀ v a,0<=v->v < m->M8 ns a->Q (.int v) (ds.set i a)):qi0 qI1 [] (tbN i (tbN j Ay)) ds Q xe:=by
 have h:=qj2 f B.known;have k:rdN j ds=some (.int m):=qj2 c rfl;have o:j < ds.length:=(zA6.mp c).1;refine qT9 h k (qj2 (by rw[zBf (Ne.symm d)];exact f) B.known) ⟨b,m,ns,rfl,B,g,h1,λ v a l n B'=>?_⟩;show Q (.int v) ((((ds.set j .u).set i .u).set i a).set j (.int m));have e:(((ds.set j .u).set i .u).set i a).set j (.int m)=ds.set i a:=by
   rw[List.set_set,List.set_comm _ _ (Ne.symm d),List.set_set];exact qat3 (by rw[zBf d];exact c)
 rw[e];exact q v a l n B'
theorem Ll{i j:Int}(h:small j=true):Jx (.int i) (.int j)=some (.int (i * j)):=qm0 (by rw[h,Bool.or_true])
theorem mulL{i j:Int}(h:small i=true):Jx (.int i) (.int j)=some (.int (i * j)):=qm0 (by rw[h,Bool.true_or])
theorem qaz5{i j:Int}(h:0 < j)(h1:j < 2 ^ 200):gDiv (.int i) (.int j)=some (.int (i / j)):=qm0 (by show (decide (0 < j)&&decide (j < 2 ^ 200))=true;rw[zA9 h,zA9 h1];rfl)
theorem Ff{x n:Int}(h:0 < n):Jy (.int x) (.int n)=some (.int (x % n)):=qm0 (zA9 h)
theorem qV9{i:Int}(h:-(2 ^ 64) < i)(h':i < 2 ^ 64):small i=true:=by unfold small;rw[zA9 h,zA9 h'];rfl
theorem Hi{z:Bool}{g:Nat->Option Int}(h:r < N):gIx (.l z (Mu N g)) (.int (r:Int))=some (Ge (g r)):=qae3 (qF4 h)
theorem qaj9{g:Nat->Option Int}(h:r < N):ixN (Mu N g).length (r:Int)=some r:=by
 rw[qq6];unfold ixN;simp[h]
theorem qz8{n:Nat}{g:Nat->Option Int}{c:Int}:(Mu n g).set i (.int c)=Mu n (Row.set g i c):=qaC3 (o:=some c)
theorem qaw7(N:Nat):(List.replicate N [D.non]).flatten=Mu N (λ _=>none):=by
 unfold Mu
 induction N with
 | zero=>rfl
 | succ N a=>rw[List.replicate_succ',List.flatten_append,a,List.range_succ,zBe];rfl
theorem qY6{n:Int}(a:0<=n)(h1:n<=64):Jx (.l false [.non]) (.int n)=some (.l false (Mu n.toNat λ _=>none)):=by
 show gd _ _=_;rw[<- qaw7];exact qm0 ⟨rfl,by show 1 * n.toNat<=1000000;lia,by lia,by lia⟩
theorem qA5{g g':Nat->Option Int}(h:∀ i,i < N->g i=g' i):Mu N g=Mu N g':=by
 unfold Mu;apply List.map_congr_left;intro i a;rw[h i (zAp.mp a)]
theorem qO5{g:VTG}{n:Int}(h:f ds=some (.int n))(a:Ix n=true)(k:Fj g t e (Fk 0 n.toNat) ds):qah3 (Ld (tbV (Bw f) Ay)) g t e ds:=by
 show orF (f ds) _;rw[h];exact⟨a,k⟩
theorem qak5{g:VTG}{n:Int}(h:rdN i ds=some (.int n))(a:Ix n=true)(k:Fj g t e (Fk 0 n.toNat) (ds.set i .u)):qah3 (Ld (tbN i Ay)) g t e ds:=by
 refine⟨by rw[h];rfl,?_⟩;exact qa1 h ⟨a,k⟩
theorem qaw5{z:Bool}:Ky true (.int k) (.l z (Ms ks))=some (.bl (!decide (k∈ks))):=by
 show ((flats (Ms ks)).bind λ a=>some (D.bl (if true=true then !inV (.int k) a else inV (.int k) a)))=_;rw[qv1];show some (D.bl (!inV (.int k) (ks.map V.int)))=_;rw[qab3]
theorem qaa8{z:Bool}:Ky false (.int k) (.l z (Ms ks))=some (.bl (decide (k∈ks))):=by
 show ((flats (Ms ks)).bind λ a=>some (D.bl (if false=true then !inV (.int k) a else inV (.int k) a)))=_;rw[qv1];show some (D.bl (inV (.int k) (ks.map V.int)))=_;rw[qab3]
theorem qZ5(lo:Int)(n:Nat):(Fk lo n).length=n:=by unfold Fk;rw[zA8,zBa]
theorem qu9(e:f ds=some d)(hi:d.imm=true)(q:Q d ds):By f ds Q xe:=qa1 (a:=d) (k:=λ(d:D)=>d.imm=true/\Q d ds) e ⟨hi,q⟩
theorem qs8(h:f ds=some d)(hi:d.imm=true)(q:e.nx (ds.set i d)):Ft (By f) (gNm i) e ds:=qu9 (Q:=λ d a=>gNm i d a e.nx) h hi q
theorem qq0(h:f ds=some d)(q:e.nx (ds.set i d)):Ft (Bw f) (gNm i) e ds:=qr4 (Q:=λ d a=>gNm i d a e.nx) h q
theorem qaq3{n:Nat}{K:Ds->Prop}(hi:ds[i]? = some (.l false ys))(b:fb ds=some (.int k))(c:ixN ys.length k=some n)(q:K (ds.set i (.l false (ys.set n d)))):Gx (λ _=>some (i,[])) fb d ds K:=by
 refine qa1 (a:=(i,([]:List Nat))) rfl ?_;refine qa1 (a:=ys) (by show (A5 ds i []).bind D.own=_;rw[qC0 hi];rfl) ?_;refine qa1 (a:=k) (by rw[b];rfl) ?_;refine qa1 c ?_;show K (Bb ds i [] (.l false (ys.set n d)));rw[qz7 hi];exact q
theorem qD2{n:Nat}(b:f ds=some d)(c:d.imm=true)(hi:ds[i]? = some (.l false ys))(g:fb ds=some (.int k))(h:ixN ys.length k=some n)(q:e.nx (ds.set i (.l false (ys.set n d)))):Ft (By f) (Gx (λ _=>some (i,[])) fb) e ds :=
 qu9 (Q:=λ d a=>Gx (λ _=>some (i,[])) fb d a e.nx) b c (qaq3 hi g h q)
theorem qV3{n:Nat}(b:f ds=some d)(hi:ds[i]? = some (.l false ys))(c:fb ds=some (.int k))(g:ixN ys.length k=some n)(q:e.nx (ds.set i (.l false (ys.set n d)))):Ft (Bw f) (Gx (λ _=>some (i,[])) fb) e ds :=
 qr4 (Q:=λ d a=>Gx (λ _=>some (i,[])) fb d a e.nx) b (qaq3 hi c g q)
theorem qg4{K:Ds->List Pl->Ds->Prop}(c:f ds=some y)(hi:y.imm=true)(h:tr ds (λ xs ps a=>K (y::xs) (.no::ps) a) xe):tbV (By f) tr ds K xe:=qu9 (Q:=λ y b=>tr b (λ xs ps a=>K (y::xs) (.no::ps) a) xe) c hi h
theorem qG5(hi:ds[i]? = some (.l false ys))(b:f ds=some d)(c:ys.length < big)(q:Q .non (ds.set i (.l false (ys++[d])))):Gg Hq i (tbV (Bw f) Ay) ds Q xe:=by
 have e:(rdN i ds).bind D.own=some ys:=by rw[qj2 hi rfl];rfl
 refine⟨by rw[e];rfl,qe5 b ?_⟩;refine qa1 (k:=λ ys=>orF (Hq ys [d]) λ z=>Q z.2 (ds.set i (.l false z.1))) e ?_;exact qa1 (a:=(ys++[d],D.non)) (if_pos c) q
theorem qaU8(hi:ds[i]? = some (.l false ys))(b:ds[j]? = some d)(c:d.known=true)(f:i≠j)(g:ys.length < big)(q:Q .non ((ds.set j .u).set i (.l false (ys++[d])))):Gg Hq i (tbN j Ay) ds Q xe:=by
 have e:(rdN i ds).bind D.own=some ys:=by rw[qj2 hi rfl];rfl
 have e2:(rdN i (ds.set j .u)).bind D.own=some ys:=by rw[qj2 (d:=.l false ys) (by rw[zBf (Ne.symm f)];exact hi) rfl];rfl
 refine⟨by rw[e];rfl,qc5 (qj2 b c) ?_⟩;refine qa1 (k:=λ d=>orF ((rdN i (ds.set j .u)).bind D.own) λ ys=>orF (Hq ys [d]) λ z=>Q z.2 ((ds.set j .u).set i (.l false z.1))) (qj2 b c) ?_;refine qa1 (k:=λ ys=>orF (Hq ys [d]) λ z=>Q z.2 ((ds.set j .u).set i (.l false z.1))) e2 ?_;exact qa1 (a:=(ys++[d],D.non)) (if_pos g) q
theorem qaH9{g:Ds->Ds->Option (Ds×D)}{pf:PF}{p:List Nat}{d0:D}(h1:pf ds=some (i,p))(h2:(A5 ds i p).bind D.own=some ys)(a:ds[i]? = some d0)(h:tr (ds.set i .u) (λ xs _ ds1=>orF (g ys xs) λ z=>Q z.2 (Bb (ds1.set i d0) i p (.l false z.1))) xe):He g pf tr ds Q xe:=by
 unfold He;rw[h1];show orF ((A5 ds i p).bind D.own) _;rw[h2];show orF ds[i]? _;rw[a];exact h
theorem qaU5{f:Int->Int->Int}{b:FV}{x y:Int}(hi:ds[i]? = some (.l false ys))(c:fb ds=some (.int k))(d:0<=k)(g:ys[k.toNat]? = some (.int x))(h:b ds=some (.int y))(q:e.nx (ds.set i (.l false (ys.set k.toNat (.int (f x y)))))):sAugV f (λ _=>some (i,[])) fb b e ds:=by
 refine qa1 (a:=(i,([]:List Nat))) rfl ?_;refine qa1 (a:=ys) (by show (A5 ds i []).bind D.own=_;rw[qC0 hi];rfl) ?_;refine qa1 (a:=k) (by rw[c];rfl) ⟨d,?_⟩;refine qa1 (a:=x) (by rw[g];rfl) ?_;refine qa1 (a:=y) (by rw[h];rfl) ?_;show e.nx (Bb ds i [] _);rw[qz7 hi];exact q
theorem Jr(b:Bool)(h:fa ds=some (.bl b))(h1:b=true->tb ds Q xe)(h2:b=false->Q (.bl false) ds):Jh (Bw fa) tb ds Q xe :=
 qr4 (xe:=xe) (Q:=λ x ds=>orF x.asB λ k=>if k=true then tb ds Q xe else Q (.bl false) ds) h (ite_b h1 h2)
theorem qr7{K:Ds->Prop}(h:K (ds.set i d)):gNm i d ds K:=h
theorem qd5{K:Ds->List Pl->Ds->Prop}(h:K [] [] ds):Ay ds K xe:=h
theorem qac8(h:te ds (λ _ a=>e.nx a) e.xe):K8 te e ds:=h
theorem qp8{K:Ds->Prop}(h:K ((ds.set i x).set j y)):gTupV 2 (qay3 (gNm i) (qay3 (gNm j) gNilV)) (.q [x,y]) ds K:=⟨rfl,h⟩
theorem qar8{Q:Bool->Ds->Prop}(h:Q true ds):qYes ds Q xe:=h
theorem qN5:Ms S++[.int k]=Ms (S++[k]):=by unfold Ms;rw[zBe];rfl
theorem qaB2{a:VTB}{K:Ds->List Pl->Ds->Prop}(h:tr ds (λ xs _ ds1=>xs.length<=big/\a ds1 (λ ys c b=>K (.q xs::ys) (.no::c) b) xe) xe):tbV (Jj tr) a ds K xe:=h
theorem qh2{K:Ds->List Pl->Ds->Prop}(h:ta ds (λ x ds1=>tr ds1 (λ xs ps a=>K (x::xs) (.no::ps) a) xe) xe):tbV ta tr ds K xe:=h
theorem qP7:Gd ys none (some (r:Int))=ys.take r:=by
 unfold Gd;have a:HT.sIx ys.length ys.length (some ((r:Nat):Int))=min r ys.length:=HT.qan9 _ _ r;rw[a,HT.qW7,List.drop_zero,Nat.sub_zero];by_cases h:r<=ys.length
 . rw[Nat.min_eq_left h]
 rw[Nat.min_eq_right (by lia),List.take_length,zAs (by lia)]
theorem qaT4(h:y∈enD ys):∃ i v,y=.q [.int (i:Nat),v]/\ys[i]? = some v:=by
 obtain⟨⟨v,i⟩,a,rfl⟩:=zB8.mp h;exact⟨i,v,rfl,List.mem_zipIdx_iff_getElem?.mp a⟩
theorem qah6{g:Nat->Option Int}(h:d∈Mu N g):d=.non∨∃ k,d=.int k:=by
 unfold Mu at h;obtain⟨i,_,rfl⟩:=zB8.mp h;cases g i with
 | none=>exact .inl rfl
 | some k=>exact .inr ⟨k,rfl⟩
theorem qah7{g:D->D->Option D}{Q:Bool->Ds->Prop}(h:ta ds (λ x ds1=>orF ((fb ds1).bind (g x)) λ d=>orF d.asB λ b=>Q b ds1) xe):ttE (t2v g ta fb) ds Q xe:=h
theorem ql3(h:tr ds (λ xs ps ds1=>s (xs++[]) (λ d ys=>orF (Ap ps ys ds1) λ a=>Q d a) (λ x ys=>orF (Ap ps ys ds1) λ a=>xe x a)) xe):qi0 s [] tr ds Q xe:=h
theorem eq_rl:∀(l:Ds),(∀ d∈l,d=.non∨∃ k,d=.int k)->Fh (eqN 20) l l=some true
 | [],_=>rfl
 | d::l,h=>by
   have c:eqN 20 d d=some true:=by
     rcases h d zAc with rfl | ⟨k,rfl⟩
     . rfl
     show some (k == k)=_;rw[zAv]
   show ((eqN 20 d d).bind λ a=>(Fh (eqN 20) l l).bind λ b=>some (a&&b))=_;rw[c,eq_rl l λ x e=>h x (zA5 _ e)];rfl
theorem qak2{z:Bool}{g g':Nat->Option Int}(h:∀ i,i < N->g i=g' i):gEq (.l z (Mu N g)) (.l z' (Mu N g'))=some (.bl true):=by
 rw[qA5 h];show (Fh (eqN 20) (Mu N g') (Mu N g')).map D.bl=_;rw[eq_rl _ λ _=>qah6];rfl
theorem qH6{g:D->D->Option D}(c:fa ds=some x)(h:tb ds (λ y a=>orF (g x y) λ d=>Q d a) xe):t2 g (Bw fa) tb ds Q xe:=qr4 (xe:=xe) (Q:=λ x b=>tb b (λ y a=>orF (g x y) λ d=>Q d a) xe) c h
theorem qD1{g:D->D->Option D}(h:ta ds (λ x ds1=>orF ((fb ds1).bind (g x)) λ d=>Q d ds1) xe):t2v g ta fb ds Q xe:=h
theorem qaB6{g:D->D->Option D}(h:ta ds (λ x ds1=>orF (fb ds1) λ y=>y.imm=true/\orF (g x y) λ d=>Q d ds1) xe):Kv g ta fb ds Q xe:=h
theorem qx4(h:tr ds (λ xs _ ds1=>xs.length<=big/\Q (.l false xs) ds1) xe):tLstV tr ds Q xe:=h
theorem qh8(h:te ds (λ d a=>e.nx (a.set i d)) e.xe):Ft te (gNm i) e ds:=h
theorem qaA5(h:ta ds (λ x ds1=>orF x.asB λ k=>if k=true then tb ds1 Q xe else Q (.bl false) ds1) xe):Jh ta tb ds Q xe:=h
theorem qaI2{C:γ}(h:tr ds (λ xs ps ds1=>s (.ins false C []::(xs++[])) (λ d ys=>d.isN=some true/\orF ys.head? λ self=>orF (Ap ps ys.tail ds1) λ a=>Q self a) (λ x ys=>orF (Ap ps ys.tail ds1) λ a=>xe x a)) xe):qR2 C s [] tr ds Q xe:=h
theorem eq_ks:∀ ks c:List Int,Fh (eqN 20) (Ms ks) (Ms c)=some (decide (ks=c))
 | [],[]=>rfl
 | [],_::_=>rfl
 | _::_,[]=>rfl
 | k::ks,l::c=>by
   show ((some (k == l)).bind λ a=>(Fh (eqN 20) (Ms ks) (Ms c)).bind λ b=>some (a&&b))=_;rw[eq_ks ks c];show some ((k == l)&&decide (ks=c))=_;by_cases h:k=l
   . subst h;simp
   simp[h]
theorem qaK3{z:Bool}(ks a:List Int):gEq (.l z (Ms ks)) (.l z' (Ms a))=some (.bl (decide (ks=a))):=by
 show (Fh (eqN 20) (Ms ks) (Ms a)).map D.bl=_;rw[eq_ks];rfl
theorem fz_to(h:te ds (λ d ds1=>Q d.fz ds1) xe):tFzV te ds Q xe:=h
theorem qaJ1(h:(Ms ks)[i]? = some y):∃ z,ks[i]? = some z/\y=.int z:=by
 unfold Ms at h;rw[zBb] at h;cases e:ks[i]? with
 | none=>rw[e] at h;cases h
 | some z=>rw[e] at h;exact⟨z,rfl,(Option.some.inj h).symm⟩
theorem qU7(h:ks[i]? = some k):ks.take (i+1)=ks.take i++[k]:=by rw[List.take_add_one,h];rfl
theorem qac4:∀ ps:Pr,D.fzs (Mw ps)=Mw ps
 | []=>rfl
 | p::r=>congrArg (D.q [.int p.1,.int p.2]::·) (qac4 r)
theorem qaK4:∀ ps:Pr,D.fzk (kvD ps)=kvD ps
 | []=>rfl
 | p::r=>congrArg ((Sum.inl p.1,D.int p.2)::·) (qaK4 r)
theorem qaK5{z:Bool}{C:γ}{n:Int}{wr:Bool}{ps:Pr}:(Ad z C n wr ps).fz=Ad true C n wr ps:=by
 show D.ins true C [("rooms",.int n),("wraps",.bl wr),("homes",.l true (D.fzs (Mw ps))),("home_numbers",.dct true (D.fzk (kvD ps)))]=_;rw[qac4,qaK4];rfl
theorem qaT9{z:Bool}{T:List Int}{lo hi:FO}{l h:Option Int}(a:rdN i ds=some (.l z (Ms S)))(h1:lo ds=some l)(h2:hi ds=some h)(e:Gd (Ms S) l h=Ms T):fsl (rdN i) lo hi ds=some (.l false (Ms T)):=by
 unfold fsl;rw[a,Option.bind_some,h1,Option.bind_some,h2,Option.bind_some,if_pos (show noT (D.l z (Ms S))=true from rfl)];show gd (D.imms (Gd (Ms S) l h)=true) (D.l false (Gd (Ms S) l h))=_;rw[e];exact qm0 (qj9 T)
theorem qan1{z:Bool}{A B:List Int}(h:A.length+B.length<=1000):Jw (.l z (Ms A)) (.l z' (Ms B))=some (.l false (Ms (A++B))):=by
 show gd _ (D.l false (Ms A++Ms B))=_;rw[show Ms (A++B)=Ms A++Ms B from zBe];exact qm0 ⟨qj9 A,qj9 B,by rw[qh4,qh4];unfold big;lia⟩
theorem co_to{gc:Ds->Option D}(h:tr ds (λ xs _ ds1=>orF (gc xs) λ d=>Q d ds1) xe):tcO gc (Ld tr) ds Q xe:=h
theorem qK9{w:VTS}(h:qc ds (λ b a=>if b=true then t { e with nx:=w e } a else w e a) e.xe):G8 (sIf qc t Ig) w e ds:=h
theorem qM0{l m n:Int}(h1:l<=n)(h2:n<=m):(D.int n).within l m=true:=by
 show (decide (l<=n)&&decide (n<=m))=true;rw[zA9 h1,zA9 h2];rfl
theorem qaA2{p:List Nat}{w:V}{ps:List Pl}(h:A5 ds i p=some (.hole w)):Ap (.pl i p w::ps) (y::ys) ds=Ap ps ys (Bb ds i p y):=by
 show (match A5 ds i p with | some (.hole a)=>if a=w then Ap ps ys (Bb ds i p y) else none | _=>none)=_;rw[h];exact if_pos rfl
theorem qK5{C:γ}(a:rdN i ds=some p)(hm:p.isM C m=true)(r:R [p] d)(b:Ap [.sl i] [p] (ds.set i .u)=some ds)(q:Q d ds):qv7 C m (Aw R) [] i Ay ds Q xe :=
 qT2 a hm (qd5 (qa1 a (qf1 r (qa1 b q))))
theorem qas1(h:tr ds (λ xs _ ds1=>xs.length<=big/\Q (.q xs) ds1) xe):Jj tr ds Q xe:=h
theorem qaB7{g:D->D->Option D}(h:ta ds (λ x ds1=>tb ds1 (λ y a=>orF (g x y) λ d=>Q d a) xe) xe):t2 g ta tb ds Q xe:=h
theorem qaN3(h:rdN i ds=some d)(q:Q d.fz (ds.set i d.fz)):tFz i ds Q xe:=qa1 h q
def Mp(n:Int)(wr:Bool)(ps:Pr):D:=.q [.int n,.bl wr,.l true (Mw ps)]
theorem qae6(hi:ds[i]? = some (.l false ys))(b:f ds=some d)(c:d.imm=true)(g:ys.length < big)(q:Q .non (ds.set i (.l false (ys++[d])))):Gg Hq i (tbV (By f) Ay) ds Q xe:=by
 have e:(rdN i ds).bind D.own=some ys:=by rw[qj2 hi rfl];rfl
 refine⟨by rw[e];rfl,qg4 b c ?_⟩;refine qa1 (k:=λ ys=>orF (Hq ys [d]) λ z=>Q z.2 (ds.set i (.l false z.1))) e ?_;exact qa1 (a:=(ys++[d],D.non)) (if_pos g) q
local macro_rules | `(tactic| walk_at "s")=>`(tactic| exact⟨rfl,rfl,rfl,by decide +kernel,rfl,by decide +kernel,by decide +kernel⟩)
noncomputable def top(i:Nat):Stmt:=PySem.Challenge.pw_homeward_k31_puts_move_by_need.main.body.getD i (.Pass ⟨0,0,0,0⟩)
abbrev qan8:Stmt:=top 0
abbrev qj1:Stmt:=qh5 (top 4) 0
abbrev ql7:Stmt:=qh5 (top 5) 0
abbrev qt2:Stmt:=top 17
abbrev qe7:Stmt:=top 18
abbrev qo7:Stmt:=top 19
abbrev ql6:Stmt:=top 20
abbrev qf8:Stmt:=top 21
abbrev qi2:Stmt:=top 22
abbrev qo9:Stmt:=qh5 (top 23) 0
abbrev qi4:Stmt:=qh5 (top 23) 2
abbrev qp0:Stmt:=qh5 (top 23) 4
abbrev qt6:Stmt:=qh5 (top 23) 5
abbrev qe8:Stmt:=qh5 (top 23) 6
abbrev ql5:Stmt:=top 25
abbrev qd4:Stmt:=top 26
abbrev qt1:Stmt:=top 27
abbrev qo6:Stmt:=top 28
abbrev qt3:Stmt:=top 29
abbrev qo8:Stmt:=top 31
abbrev qi3:Stmt:=top 32
abbrev qi1:Stmt:=top 33
abbrev qt4:Stmt:=top 34
abbrev qt5:Stmt:=qh5 (top 36) 0
abbrev qf9:Stmt:=qh5 (top 36) 1
abbrev qg7:Stmt:=qh5 (top 36) 2
abbrev qD9:Stmt:=qh5 (top 36) 3
abbrev qj0:Stmt:=qh5 (top 36) 4
abbrev qA3:Stmt:=qh5 (top 36) 5
abbrev qI9:Stmt:=top 38
abbrev qat7:Stmt:=top 39
abbrev qW4:Stmt:=top 40
abbrev qW6:Stmt:=top 41
abbrev qat6:Stmt:=top 42
abbrev qJ4:Stmt:=top 43
abbrev qt7:Stmt:=top 44
abbrev qA4:Stmt:=top 45
abbrev qi5:Stmt:=top 46
abbrev qJ2:Stmt:=top 47
abbrev qW5:Stmt:=top 48
abbrev qJ3:Stmt:=top 49
abbrev qat5:Stmt:=top 50
abbrev qJ1:Stmt:=top 51
abbrev qW3:Stmt:=top 52
abbrev qJ0:Stmt:=top 53
abbrev Ik:Stmt:=top 54
set_option genInjectivity false in
set_option genSizeOf false in
structure Adr where
 f0:γ
 d0:δ
 f1:γ
 d1:δ
 f2:γ
 d2:δ
 f3:γ
 d3:δ
 f4:γ
 d4:δ
 f5:γ
 d5:δ
 f6:γ
 d6:δ
 f7:γ
 d7:δ
 f8:γ
 d8:δ
 f9:γ
 d9:δ
 f10:γ
 d10:δ
 f11:γ
 d11:δ
 f12:γ
 d12:δ
 f13:γ
 d13:δ
 f14:γ
 d14:δ
 f15:γ
 d15:δ
 f16:γ
 d16:δ
 f17:γ
 d17:δ
 f18:γ
 d18:δ
 f19:γ
 d19:δ
 f20:γ
 d20:δ
 f21:γ
 d21:δ
 f22:γ
 d22:δ
 f23:γ
 d23:δ
 f24:γ
 d24:δ
 f25:γ
 d25:δ
 f26:γ
 d26:δ
 f27:γ
 d27:δ
 f28:γ
 d28:δ
 f29:γ
 d29:δ
 f30:γ
 d30:δ
 f31:γ
 d31:δ
 f32:γ
 d32:δ
 f33:γ
 d33:δ
 f34:γ
 d34:δ
 f35:γ
 d35:δ
 f36:γ
 d36:δ
 f37:γ
 d37:δ
 f38:γ
 d38:δ
 f39:γ
 d39:δ
 f40:γ
 d40:δ
 f41:γ
 d41:δ
 f42:γ
 d42:δ
 f43:γ
 d43:δ
 f44:γ
 d44:δ
 f45:γ
 d45:δ
 Cj:Tok
 Co:Tok
 Cq:Tok
 Ca:γ
 Cb:γ
 Cs:γ
 D6:γ
 Cd:γ
 Cf:γ
 Cr:γ
 Cv:γ
 Cw:γ
 Cy:γ
 D5:γ
 Cz:γ
 Ct:γ
structure Txt(K:PySem.W.Frag)(mg:Str->Option V')(a:Adr):Prop where
 d0:Df K mg "_wall" "_wall" qan8 a.f0 a.d0 ["k"]
 d1:Md K a.Cd "__init__" "NoRoom.__init__" qj1 a.f1 a.d1 ["self", "room"]
 d2:Md K a.Cf "__init__" "There.__init__" ql7 a.f2 a.d2 ["self", "key"]
 d3:Df K mg "is_whole" "is_whole" qt2 a.f3 a.d3 ["thing"]
 d4:Df K mg "is_whole_within" "is_whole_within" qe7 a.f4 a.d4 ["thing", "least", "most"]
 d5:Df K mg "is_number" "is_number" qo7 a.f5 a.d5 ["thing"]
 d6:Df K mg "are_parted" "are_parted" ql6 a.f6 a.d6 ["numbers"]
 d7:Df K mg "is_number_pair" "is_number_pair" qf8 a.f7 a.d7 ["thing"]
 d8:Df K mg "is_home_list" "is_home_list" qi2 a.f8 a.d8 ["thing"]
 d9:Md K a.Ca "__init__" "Plan.__init__" qo9 a.f9 a.d9 ["self", "rooms", "wraps", "homes"]
 d10:Md K a.Ca "is_room" "Plan.is_room" qi4 a.f10 a.d10 ["self", "thing"]
 d11:Md K a.Ca "home" "Plan.home" qp0 a.f11 a.d11 ["self", "key"]
 d12:Md K a.Ca "far" "Plan.far" qt6 a.f12 a.d12 ["self", "key", "room"]
 d13:Md K a.Ca "goes_ahead" "Plan.goes_ahead" qe8 a.f13 a.d13 ["self", "room", "one", "other"]
 d14:Df K mg "room_ahead" "room_ahead" ql5 a.f14 a.d14 ["plan", "room"]
 d15:Df K mg "word_by_room_ahead" "word_by_room_ahead" qd4 a.f15 a.d15 ["plan", "rooms", "room"]
 d16:Df K mg "word_due" "word_due" qt1 a.f16 a.d16 ["plan", "rooms", "room"]
 d17:Df K mg "is_turned" "is_turned" qo6 a.f17 a.d17 ["plan", "rooms"]
 d18:Df K mg "fault_of" "fault_of" qt3 a.f18 a.d18 ["plan", "rooms"]
 d19:Df K mg "are_crowd" "are_crowd" qo8 a.f19 a.d19 ["plan", "keys", "room"]
 d20:Df K mg "crowded_room" "crowded_room" qi3 a.f20 a.d20 ["plan", "keys"]
 d21:Df K mg "refuse_crowd" "refuse_crowd" qi1 a.f21 a.d21 ["plan", "keys"]
 d22:Df K mg "bring_in" "bring_in" qt4 a.f22 a.d22 ["plan", "rooms", "key"]
 d23:MdN K a.Cb "__init__" "Row.__init__" qt5 a.f23 a.d23 ["self", "plan", "rooms"]
 d24:Md K a.Cb "rooms_held" "Row.rooms_held" qf9 a.f24 a.d24 ["self"]
 d25:Md K a.Cb "keys_held" "Row.keys_held" qg7 a.f25 a.d25 ["self"]
 d26:Md K a.Cb "many" "Row.many" qD9 a.f26 a.d26 ["self"]
 d27:Md K a.Cb "room_of" "Row.room_of" qj0 a.f27 a.d27 ["self", "key"]
 d28:Md K a.Cb "put" "Row.put" qA3 a.f28 a.d28 ["self", "key"]
 d29:Df K mg "_law_whole" "_law_whole" qI9 a.f29 a.d29 ["_law_found"]
 d30:Df K mg "_law_bag" "_law_bag" qat7 a.f30 a.d30 ["_law_script"]
 d31:Df K mg "_law_take" "_law_take" qW4 a.f31 a.d31 ["_law_bag_here", "_law_many"]
 d32:Df K mg "_law_home" "_law_home" qW6 a.f32 a.d32 ["_law_plan", "_law_key"]
 d33:Df K mg "_law_far" "_law_far" qat6 a.f33 a.d33 ["_law_plan", "_law_key", "_law_room"]
 d34:Df K mg "_law_ahead" "_law_ahead" qJ4 a.f34 a.d34 ["_law_plan", "_law_room", "_law_one", "_law_other"]
 d35:Df K mg "_law_passing" "_law_passing" qt7 a.f35 a.d35 ["_law_plan", "_law_keys"]
 d36:Df K mg "_law_housed" "_law_housed" qA4 a.f36 a.d36 ["_law_plan", "_law_keys"]
 d37:Df K mg "_law_drawn_homes" "_law_drawn_homes" qi5 a.f37 a.d37 ["_law_bag_here", "_law_size", "_law_many"]
 d38:Df K mg "_law_drawn" "_law_drawn" qJ2 a.f38 a.d38 ["_law_bag_here", "_law_most"]
 d39:Df K mg "_law_sort" "_law_sort" qW5 a.f39 a.d39 ["_law_e"]
 d40:Df K mg "_law_crowd" "_law_crowd" qJ3 a.f40 a.d40 ["_law_plan", "_law_keys", "_law_room"]
 d41:Df K mg "_law_put" "_law_put" qat5 a.f41 a.d41 ["_law_plan", "_law_held", "_law_key"]
 d42:Df K mg "_law_pairs" "_law_pairs" qJ1 a.f42 a.d42 ["_law_found"]
 d43:Df K mg "_law_told" "_law_told" qW3 a.f43 a.d43 ["_law_row", "_law_key"]
 d44:Df K mg "_law_right" "_law_right" qJ0 a.f44 a.d44 ["_law_row", "_law_plan", "_law_there", "_law_key"]
 d45:Df K mg "law" "law" Ik a.f45 a.d45 ["_law_script"]
 E3:mg "MOST_NUMBER" = some (.int 1000000000000000000 a.Cj)
 E6:mg "MOST_ROOMS" = some (.int 64 a.Co)
 E9:mg "MOST_HOMES" = some (.int 64 a.Cq)
 E5:mg "ValueError" = none
 F9:mg "abs" = none
 F6:mg "all" = none
 Ee:mg "bool" = none
 Eu:mg "dict" = none
 Eb:mg "enumerate" = none
 Er:mg "int" = none
 Cc:mg "isinstance" = none
 Cu:mg "len" = none
 D0:mg "list" = none
 F7:mg "max" = none
 Em:mg "min" = none
 D1:mg "range" = none
 Fa:mg "set" = none
 Dv:mg "sorted" = none
 Eg:mg "tuple" = none
 Ce:Cl K mg "Plan" a.Ca
 F5:Mk K a.Ca a.f9
 Cg:qc8 K a.Ca "rooms"
 Cp:qc8 K a.Ca "wraps"
 Ea:qc8 K a.Ca "homes"
 Ck:qc8 K a.Ca "home_numbers"
 F4:IsO K a.Ca
 Ch:Cl K mg "Row" a.Cb
 F8:Mk K a.Cb a.f23
 D4:qc8 K a.Cb "plan"
 Ci:qc8 K a.Cb "held"
 E2:qc8 K a.Cb "done"
 Ec:mg "HomeError" = some (.ref a.Cs)
 E7:Exc K a.Cs
 Ez:mg "Wrong" = some (.ref a.D6)
 Du:mg "NoRoom" = some (.ref a.Cd)
 Db:Exc K a.Cd
 Ek:W.kitOne K (.ref a.Cd) (.type "ValueError")=some true
 Ei:MkE K a.Cd a.f1
 D2:qc8 K a.Cd "room"
 El:IsX K a.Cd
 Dp:W.kitOne K (.ref a.Cd) (.ref a.D6)=some false
 Dr:W.kitOne K (.ref a.Cd) (.ref a.Cf)=some false
 D3:W.kitOne K (.ref a.Cd) (.ref a.Cr)=some false
 Da:W.kitOne K (.ref a.Cd) (.ref a.Cv)=some false
 D9:W.kitOne K (.ref a.Cd) (.ref a.Cw)=some false
 Dc:W.kitOne K (.ref a.Cd) (.ref a.Cy)=some false
 Dk:W.kitOne K (.ref a.Cd) (.ref a.D5)=some false
 De:W.kitOne K (.ref a.Cd) (.ref a.Cz)=some false
 D8:W.kitOne K (.ref a.Cd) (.ref a.Ct)=some false
 Ed:W.mroIn K a.Cd (.ref a.Cs)=some true
 Dq:W.mroIn K a.Cd (.ref a.Cd)=some true
 Dt:W.mroIn K a.Cd (.ref a.Cf)=some false
 E8:mg "There" = some (.ref a.Cf)
 Dx:Exc K a.Cf
 Ex:W.kitOne K (.ref a.Cf) (.type "ValueError")=some true
 Ew:MkE K a.Cf a.f2
 Dh:qc8 K a.Cf "key"
 En:IsX K a.Cf
 Dw:W.kitOne K (.ref a.Cf) (.ref a.D6)=some false
 Dm:W.kitOne K (.ref a.Cf) (.ref a.Cd)=some false
 D7:W.kitOne K (.ref a.Cf) (.ref a.Cr)=some false
 Dn:W.kitOne K (.ref a.Cf) (.ref a.Cv)=some false
 Di:W.kitOne K (.ref a.Cf) (.ref a.Cw)=some false
 Dl:W.kitOne K (.ref a.Cf) (.ref a.Cy)=some false
 Dy:W.kitOne K (.ref a.Cf) (.ref a.D5)=some false
 Do:W.kitOne K (.ref a.Cf) (.ref a.Cz)=some false
 Dg:W.kitOne K (.ref a.Cf) (.ref a.Ct)=some false
 Eh:W.mroIn K a.Cf (.ref a.Cs)=some true
 Eo:W.mroIn K a.Cf (.ref a.Cd)=some false
 E4:W.mroIn K a.Cf (.ref a.Cf)=some true
 Ef:mg "NotThere" = some (.ref a.Cr)
 Ev:mg "Unkept" = some (.ref a.Cv)
 Et:mg "Unlike" = some (.ref a.Cw)
 Es:mg "NoText" = some (.ref a.Cy)
 Ey:mg "NoRow" = some (.ref a.D5)
 Ep:mg "NoPlan" = some (.ref a.Cz)
 Ej:mg "TooMany" = some (.ref a.Ct)
section
variable{P:Program}{w:World}{K:W.Frag}{mg:Str->Option V'}{base:Heap}{a:Adr}
theorem qS1:qa9 ["thing"] ["thing"] (qa3 qt2):=by walk_at "s"
def qR4:VSp:=Bq (fx1 λ x=>x.kind.map λ _=>.bl x.whole)
theorem qS4(T:Txt K mg a):VFn P w K mg base 1 a.f3 a.d3 ["thing"] qR4:=by
 refine VFn.mk' T.d3.F qS1 (wOf [true]) qs3 (λ _ _ _=>qZ6) (λ _ _ _=>imm1) (λ b A outer f H E g i=>⟨_,(Ag (An (qa4 (K6 (vbi qg2 qv4.ops T.Cc (qa0 (vnm 0) (qa0 (vty "int" T.Er) qa6 rfl) rfl)) (Iq (vnot (vbi qg2 qv4.ops T.Cc (qa0 (vnm 0) (qa0 (vty "bool" T.Ee) qa6 rfl) rfl)))))))),λ j Q k h=>?_⟩);obtain⟨x,d,rfl,e,q⟩:=Lj h;obtain⟨t,c,rfl⟩:=zAk.mp e;cases x<;>first | exact q | cases c
theorem qo2:qa9 ["thing", "least", "most"] ["thing", "least", "most"] (qa3 qe7):=by walk_at "s"
def qn8:VSp:=Bq (fx3 λ x l m=>x.kind.bind λ _=>l.asI.bind λ i=>m.asI.map λ j=>.bl (x.within i j))
theorem qe3(T:Txt K mg a):VFn P w K mg base 2 a.f4 a.d4 ["thing", "least", "most"] qn8:=by
 refine VFn.mk' T.d4.F qo2 (wOf [true,true,true]) qs3 (λ _ _ _=>qaJ0) (λ _ _ _=>imm3) (λ b A outer p H E r c=>⟨_,(Ag (An (Gw (Ah T.d3 (qS4 T) qa2 (rm c) (vaN 0 Ac)) (Ic (qa4 (vch Kf Kx Kf Kx (vnm 1) (vnm 0) (vnm 2))))))),λ s Q u h=>?_⟩);obtain⟨x,l,m,d,rfl,e,q⟩:=pure3 h;obtain⟨t,f,e⟩:=zA1.mp e;obtain⟨i,g,e⟩:=zA1.mp e;obtain⟨j,k,rfl⟩:=zAk.mp e;cases l<;>cases g
 cases m<;>cases k
 cases x with
 | int n =>
   refine⟨rfl,?_⟩;show orF (f3 gLe gLe (rdN 1) (rdN 0) (rdN 2) [.int n,.int i,.int j]) _;have o:f3 gLe gLe (rdN 1) (rdN 0) (rdN 2) [.int n,.int i,.int j]=some (.bl (decide (i<=n)&&decide (n<=j))):=by
     show (if decide (i<=n)=true then some (D.bl (decide (n<=j))) else some (.bl false))=_;cases decide (i<=n)<;>rfl
   rw[o];exact q
 | _=>first | exact⟨rfl,q⟩ | cases f
theorem qD7:qa9 ["numbers"] ["numbers"] (qa3 ql6):=by walk_at "s"
def qD4:VSp:=Aw λ ds d=>∃ z ks,ds=[.l z (Ms ks)]/\ks.length<=1000/\d=.bl (decide ks.Nodup)
theorem qE5(T:Txt K mg a):VFn P w K mg base 1 a.f6 a.d6 ["numbers"] qD4:=by
 refine VFn.mk2 T.d6.F qD7 (wOf [true]) qb2 (λ f Q g h=>by obtain⟨d,⟨z,b,e,_⟩,_⟩:=h;rw[e];exact⟨rfl,rfl⟩) (λ i A outer n H E o j=>⟨_,(Ag (An (qa4 (v2 (Ax (qj6 j.u64) (qb1 _)) Bf (vlenS T.Cu T.Fa (vnm 0)) (vbi qr9 qr8.ops T.Cu (qa0 (vnm 0) qa6 rfl)))))),λ f Q g h=>?_⟩);obtain⟨d,⟨z,b,rfl,k,rfl⟩,q⟩:=h;have l:f1 Jn (rdN 0) [.l z (Ms b)]=some (.int (qk0 b)):=by
   show ((intsD (Ms b)).bind λ c=>gd (c.length<=1000) (.int (qk0 c)))=_;rw[qab1];exact qm0 k
 have e2:f2 gEq (f1 Jn (rdN 0)) (Ba (fx1 Im) (A9 (rdN 0) λ x=>some [])) [.l z (Ms b)]=some (.bl (decide b.Nodup)):=by
   show ((f1 Jn (rdN 0) [.l z (Ms b)]).bind λ x=>gEq x (.int (Ms b).length))=_;rw[l,qh4];show some (D.bl ((qk0 b:Int) == (b.length:Int)))=_
   have:=qL3 b
   by_cases h:b.Nodup
   . rw[zA9 h,this.mpr h,zAv]
   have m:¬ ((qk0 b:Int)=(b.length:Int)):=λ z=>h (this.mp (by exact_mod_cast z))
   rw[zAy h,beq_false_of_ne m]
 exact qa1 e2 q
theorem qI5:qa9 ["thing"] ["thing"] (qa3 qo7):=by walk_at "s"
def ql4:VSp:=Bq (fx1 λ x=>x.kind.map λ _=>.bl x.num)
theorem qc3(T:Txt K mg a):VFn P w K mg base 3 a.f5 a.d5 ["thing"] ql4:=by
 refine VFn.mk' T.d5.F qI5 (wOf [true]) qs3 (λ _ _ _=>qZ6) (λ _ _ _=>imm1) (λ b A outer g H E i c=>⟨_,(Ag (An (Ah T.d4 (qe3 T) qa2 (rm c) (vaN 0 (vaV (qa4 Af) (vaV (qa4 (vgi T.E3)) Ac)))))),λ j Q k h=>?_⟩);obtain⟨x,d,rfl,e,q⟩:=Lj h;obtain⟨t,f,rfl⟩:=zAk.mp e;cases x<;>first | exact⟨rfl,q⟩ | cases f
theorem qr0:qa9 ["thing"] ["thing"] (qa3 qf8):=by walk_at "s"
def _root_.LV.D.pairB:D->Bool
 | .q [x,y]=>x.num&&y.num
 | _=>false
def _root_.LV.D.kinded:D->Bool
 | .q ds=>(ds.all λ d=>d.kind.isSome&&d.imm)&&decide (ds.length<=1000)
 | _=>true
def qq8:VSp:=Bq (fx1 λ x=>if x.kinded=true then x.kind.map λ _=>.bl x.pairB else none)
theorem qr3(T:Txt K mg a):VFn P w K mg base 4 a.f7 a.d7 ["thing"] qq8:=by
 refine VFn.mk' T.d7.F qr0 (wOf [true]) qs3 (λ _ _ _=>qZ6) (λ _ _ _=>imm1) (λ m A outer v H E B f=>⟨_,(Ag (An (Gw (qa4 (vbi qg2 qv4.ops T.Cc (qa0 (vnm 0) (qa0 (vty "tuple" T.Eg) qa6 rfl) rfl))) (Gw (qa4 (v2 (Ax (qj6 f.u64) (qb1 _)) Bf (vbi qr9 qr8.ops T.Cu (qa0 (vnm 0) qa6 rfl)) Af)) (Gw (Ah T.d5 (qc3 T) qa2 (rm f) (vaV (qb8 (v2 (Au qb5) Am (vnm 0) Af)) Ac)) (Ic (Ah T.d5 (qc3 T) qa2 (rm f) (vaV (qb8 (v2 (Au qb5) Am (vnm 0) Af)) Ac)))))))),λ b Q n h=>?_⟩);obtain⟨x,d,rfl,e,q⟩:=Lj h;cases x with
 | q b =>
   by_cases c:(D.q b).kinded=true
   . rw[if_pos c] at e
     cases e;have c:=zAi.mp c;have i:=zBx.mp c.1
     match b with
     | []=>exact q
     | [_]=>exact q
     | [x,y] =>
       have j:=zAi.mp (i x (by simp));have l:=zAi.mp (i y (by simp));obtain⟨t,o⟩:=zB5.mp j.1;obtain⟨u,p⟩:=zB5.mp l.1;refine⟨j.2,?_⟩;refine qa1 (a:=D.bl x.num) (by show (x.kind.map _)=_;rw[o];rfl) ?_;refine ite_b (λ g=>⟨l.2,qa1 (a:=D.bl y.num) (by show (y.kind.map _)=_;rw[p];rfl) ?_⟩) λ g=>?_
       . have:(D.q [x,y]).pairB=y.num:=by show (x.num&&y.num)=_;rw[g];rfl
         rw[this] at q;exact q
       have:(D.q [x,y]).pairB=false:=by show (x.num&&y.num)=_;rw[g];rfl
       rw[this] at q;exact q
     | x::y::z::r =>
       have e2:f2 gEq (Ba (fx1 Im) (A9 (rdN 0) λ x=>some [])) (kC (D.int 2)) [.q (x::y::z::r)]=some (.bl false):=by
         show some (D.bl (((x::y::z::r).length:Int) == 2))=_
         have:(((x::y::z::r).length:Int) == 2)=false:=by
           have:((x::y::z::r).length:Int)≠2:=by simp;lia
           simpa using this
         rw[this]
       have:orF (f2 gEq (Ba (fx1 Im) (A9 (rdN 0) λ x=>some [])) (kC (D.int 2)) [.q (x::y::z::r)]) (λ d=>orF d.asB λ k=>if k=true then Jh (qi0 ql4 [] (tbV (By (f2 gIx (rdN 0) (kC (D.int 0)))) Ay)) (qi0 ql4 [] (tbV (By (f2 gIx (rdN 0) (kC (D.int 1)))) Ay)) [.q (x::y::z::r)] (λ d b=>Q d (fin (wOf [true]) 0 [.q (x::y::z::r)] b)) (λ s b=>n s (fin (wOf [true]) 0 [.q (x::y::z::r)] b)) else Q (.bl false) [.q (x::y::z::r)]):=by
         rw[e2];exact q
       exact this
   rw[if_neg c] at e;cases e
 | _=>first | (cases e;exact q) | cases e
theorem qw4:qa9 ["thing"] ["thing"] (qa3 qi2):=by walk_at "s"
noncomputable def I9:D->Option Int
 | .q (.int k::_)=>some k
 | _=>none
def _root_.LV.D.homesB:D->Bool
 | .l _ ys=>decide (ys.length<=64)&&(ys.all D.pairB&&decide (ys.filterMap I9).Nodup)
 | _=>false
def _root_.LV.D.lstOk(p:D->Bool):D->Bool
 | .l _ ys=>D.imms ys&&ys.all p&&decide (ys.length<=1000)
 | x=>x.kind.isSome
def Lm(y:D):Bool:=y.kind.isSome&&y.kinded
theorem qaH4(h:x.num=true):∃ n,x=.int n/\Al n:=by
 cases x with
 | int n =>
   have:=zAi.mp h
   exact⟨n,rfl,zAa this.1,zAa this.2⟩
 | _=>cases h
theorem qp2{n:Int}(h:Al n):(D.int n).num=true:=by
 show (decide (0<=n)&&decide (n<=1000000000000000000))=true;rw[zA9 h.1,zA9 h.2];rfl
theorem qaG3(h:y.pairB=true):∃ k m,y=.q [.int k,.int m]/\Al k/\Al m:=by
 cases y with
 | q a =>
   match a,h with
   | [x,y],h =>
     have h:=zAi.mp h;obtain⟨k,rfl,b⟩:=qaH4 h.1;obtain⟨m,rfl,c⟩:=qaH4 h.2;exact⟨k,m,rfl,b,c⟩
 | _=>cases h
theorem qX2:∀{ys:Ds},ys.all D.pairB=true->∃ ps:Pr,ys=Mw ps/\∀ p∈ps,Al p.1/\Al p.2
 | [],_=>⟨[],rfl,λ p h=>by simp at h⟩
 | y::r,h=>by
   rw[List.all_cons,zB9] at h;obtain⟨k,m,rfl,b,c⟩:=qaG3 h.1;obtain⟨ps,rfl,d⟩:=qX2 h.2;refine⟨(k,m)::ps,rfl,λ p a=>?_⟩;rcases zAm.mp a with rfl | a
   . exact⟨b,c⟩
   exact d p a
theorem qaa3:∀ ps:Pr,(Mw ps).filterMap I9=ps.map (·.1)
 | []=>rfl
 | p::r=>by show p.1::(Mw r).filterMap I9=_;rw[qaa3 r];rfl
theorem qaM0:∀{ps:Pr},(∀ p∈ps,Al p.1/\Al p.2)->(Mw ps).all D.pairB=true
 | [],_=>rfl
 | p::r,h=>by
   show (((D.int p.1).num&&(D.int p.2).num)&&(Mw r).all D.pairB)=true;rw[qp2 (h p zAc).1,qp2 (h p zAc).2,qaM0 λ q a=>h q (zA5 _ a)];rfl
theorem qaM1:∀ ps:Pr,(Mw ps).all Lm=true
 | []=>rfl
 | p::r=>by show (true&&(Mw r).all Lm)=true;rw[qaM1 r];rfl
theorem qF2{z:Bool}{ps:Pr}(h:Ku ps):(D.l z (Mw ps)).homesB=true/\(D.l z (Mw ps)).lstOk Lm=true:=by
 have a:(Mw ps).length<=64:=by simpa[Mw] using h.len
 constructor
 . show (decide ((Mw ps).length<=64)&&((Mw ps).all D.pairB&&decide ((Mw ps).filterMap I9).Nodup))=true
   rw[zA9 a,qaM0 h.nums,qaa3,zA9 h.nd];rfl
 show (D.imms (Mw ps)&&(Mw ps).all Lm&&decide ((Mw ps).length<=1000))=true;rw[qF1,qaM1,zA9 (by lia)];rfl
theorem qQ6{α:Type}(f:α->Bool):∀ l:List α,bools (l.map λ a=>.bl (f a))=some (l.map f)
 | []=>rfl
 | a::r=>by show (bools (r.map λ a=>D.bl (f a))).map (λ b=>f a::b)=_;rw[qQ6 f r];rfl
theorem qaM2(f:α->Bool)(l:List α):gAll (.l false (l.map λ a=>.bl (f a)))=some (.bl (l.all f)):=by
 show (bools (l.map λ a=>D.bl (f a))).map (λ b=>D.bl (b.all id))=_;rw[qQ6];show some (D.bl ((l.map f).all id))=_;rw[List.all_map];rfl
def qv9:VSp:=Aw λ ds d=>∃ x,ds=[x]/\x.lstOk Lm=true/\d=.bl x.homesB
theorem qw9(T:Txt K mg a):VFn P w K mg base 5 a.f8 a.d8 ["thing"] qv9:=by
 refine VFn.mk2 T.d8.F qw4 (wOf [true]) qb2 (λ L Q M ⟨d,⟨x,e,_⟩,_⟩=>by rw[e];exact⟨rfl,rfl⟩) (λ N A outer S H E f v=>⟨_,(Ab (sif (tor (Bh (tv (vbi qg2 qv4.ops T.Cc (qa0 (vnm 0) (qa0 (vty "list" T.D0) qa6 rfl) rfl)))) (Ib (q2 (Aq Bu (qb1 _)) Bz (vbi qr9 qr8.ops T.Cu (qa0 (vnm 0) qa6 rfl)) (vgi T.E9)))).te
     (Ag (An (qa4 vbl)))
     At)
     (Ag (An (Gw (ebi (qQ5 rfl) qaL5.ops T.F6 (G0 (vaV (ecN (NY:=["pair"]) (src:=[none]) 0 (blk (λ f C g H0 i=>(Bc 0 (show (["pair"]:List Str).Nodup by decide +kernel))) (λ f C g H0 i=>Ih) (λ f C g H0 i=>(Ah T.d7 (qr3 T) qp5 (rm v) (vaN 0 Ac))))) Ac))) (Ic (Ah T.d6 (qE5 T) qa2 (rm v) (vaV (ecN (NY:=["pair"]) (src:=[none]) 0 (blk (λ f C g H0 i=>(Bc 0 (show (["pair"]:List Str).Nodup by decide +kernel))) (λ f C g H0 i=>Ih) (λ f C g H0 i=>(qb8 (v2 (Au qb5) Am (vnm 0) Af))))) Ac))))))),λ L Q M h=>?_⟩)
 obtain⟨d,⟨x,rfl,j,rfl⟩,q⟩:=h;cases x with
 | l z b =>
   have j:=zAi.mp j;have k:=zAi.mp j.1;have B:=zAa j.2;refine ite_b (p:=decide ((64:Int) < (b.length:Nat))) (λ h=>?_) (λ h=>?_)
   . have n:¬ b.length<=64:=by have:=zAa h;lia
     have:(D.l z b).homesB=false:=by
       show (decide (b.length<=64)&&_)=false;rw[zAy n];rfl
     rw[this] at q;exact q
   have n:b.length<=64:=by have:=zBg h;lia
   have G:(D.l z b).homesB=(b.all D.pairB&&decide (b.filterMap I9).Nodup):=by
     show (decide (b.length<=64)&&_)=_;rw[zA9 n];rfl
   have l:=zBx.mp k.2;refine⟨k.1,?_⟩;refine qk2 (λ ι=>∃ d,ι=[d]) (λ y=>some (.bl y.pairB)) b [] _ (by show 0+b.length < big;unfold big;lia) ⟨_,rfl⟩ ?_ ?_
   . rintro y r ι s ⟨d,rfl⟩ R u c
     have I:=zAi.mp (l y r);obtain⟨t,J⟩:=zB5.mp I.1;refine qU0 (x:=y) (rd0 (qj8 J)) (qa1 (a:=D.bl y.pairB) ?_ ?_)
     . show (if y.kinded=true then y.kind.map _ else none)=_
       rw[if_pos I.2,J];rfl
     exact⟨c,u _ ⟨_,rfl⟩⟩
   rintro ι ⟨d,rfl⟩;rw[zB6,qac6];refine qa1 (qaM2 D.pairB b) (ite_b (λ o=>?_) λ o=>?_)
   . obtain⟨m,rfl,U⟩:=qX2 o
     refine⟨qF1 m,qk2 (λ ι=>∃ d,ι=[d]) (λ y=>(I9 y).map .int) (Mw m) [] _ (by show 0+(Mw m).length < big;unfold big;lia) ⟨_,rfl⟩ ?_ ?_⟩
     . rintro y r ι s ⟨d,rfl⟩ R u c
       obtain⟨p,O,rfl⟩:=zB8.mp r;exact⟨rfl,c,u _ ⟨_,rfl⟩⟩
     rintro ι ⟨d,rfl⟩;have e:[]++(Mw m).filterMap (λ y=>(I9 y).map D.int)=Ms (m.map (·.1)):=by
       rw[zB6];unfold Mw Ms;rw[List.filterMap_map,List.map_map];exact qac6 _ _
     rw[e];rw[G,o,qaa3] at q;exact⟨_,⟨false,_,rfl,by simp;simp[Mw] at n;lia,rfl⟩,q⟩
   rw[G,o] at q;exact q
 | _=>first | exact q | cases j
theorem qI7:qa9 ["self", "rooms", "wraps", "homes"] ["self", "rooms", "wraps", "homes"] (qa3 qo9):=by walk_at "s"
def qH9(C:γ):VSp:=λ ds Q _=>∃ n wr z ps,ds=[.ins false C [],.int n,.bl wr,.l z (Mw ps)]/\1<=n/\n<=64/\Ku ps/\Q .non [Ad false C n wr ps,.int n,.bl wr,.l z (Mw ps)]
theorem qap7{z:Bool}{ps:Pr}:K4 (.l z (Mw ps))=some (.l false (Mw ps)):=qm0 (qF1 ps)
theorem qK1(T:Txt K mg a):VFn P w K mg base 6 a.f9 a.d9 ["self", "rooms", "wraps", "homes"] (qH9 a.Ca):=by
 refine VFn.mk2 T.d9.F qI7 (wOf [true,true,true,true]) (λ k Q Q' f m o _ h=>by obtain⟨n,wr,z,c,e,g,i,p,q⟩:=h;exact⟨n,wr,z,c,e,g,i,p,o _ _ q⟩) (λ k Q f h=>by obtain⟨n,wr,z,c,e,_⟩:=h;rw[e];exact⟨rfl,rfl⟩) (λ r A outer s H E t l=>⟨_,(Ab (sif (Bh (te (Ah T.d4 (qe3 T) qa2 (rm l) (vaN 1 (vaV (qa4 Af) (vaV (qa4 (vgi T.E6)) Ac))))))
     (Ag qo0)
     At)
     (Ab (sif (Bh (tv (vbi qg2 qv4.ops T.Cc (qa0 (vnm 2) (qa0 (vty "bool" T.Ee) qa6 rfl) rfl))))
     (Ag qo0)
     At)
     (Ab (sif (Bh (te (Ah T.d8 (qw9 T) qa2 (rm l) (vaN 3 Ac))))
     (Ag qo0)
     At)
     (Ab (Iw rfl (vpn 0) (qb8 (vnm 1)) T.Ce.cl T.Cg)
     (Ab (Iw rfl (vpn 0) (qb8 (vnm 2)) T.Ce.cl T.Cp)
     (Ab (Iw rfl (vpn 0) (qa4 (Ir qi9 qP8.ops T.D0 (qa0 (vnm 3) qa6 rfl))) T.Ce.cl T.Ea)
     (Ag (Iw rfl (vpn 0) (qa4 (Ir (qG3 rfl) qar0.ops T.Eu (qa0 (vnm 3) qa6 rfl))) T.Ce.cl T.Ck)))))))),λ k Q f h=>?_⟩)
 obtain⟨n,wr,z,c,rfl,g,i,j,q⟩:=h;refine qb0 [.ins false a.Ca [],.int n,.bl wr,.l z (Mw c)] (λ K b=>?_) (qb0 [.ins false a.Ca [],.int n,.bl wr,.l z (Mw c)] (λ K b=>b) (qb0 [.ins false a.Ca [],.int n,.bl wr,.l z (Mw c)] (λ K b=>?_) ?_))
 . refine qab7 (λ Q f q=>ql3 (qc5 (x:=.int n) rfl (qe5 (y:=.int 1) rfl (qe5 (y:=.int 64) rfl (qd5 (qa1 (a:=D.int n) rfl (qA7 (d:=D.bl true) ?_ q))))))) b
   show some (D.bl ((D.int n).within 1 64))=_;rw[qM0 g i]
 . refine qU0 rfl ⟨D.bl true,⟨_,rfl,(qF2 j).2,by rw[(qF2 j).1]⟩,b⟩
 refine qb0 [.ins false a.Ca [("rooms",.int n)],.int n,.bl wr,.l z (Mw c)] (λ K b=>⟨rfl,qa1 (a:=(0,[])) rfl (qa1 qi7 ⟨by decide,b⟩)⟩) ?_;refine qb0 [.ins false a.Ca [("rooms",.int n),("wraps",.bl wr)],.int n,.bl wr,.l z (Mw c)] (λ K b=>⟨rfl,qa1 (a:=(0,[])) rfl (qa1 qi7 ⟨by show 1 < 100;decide,b⟩)⟩) ?_;refine qb0 [.ins false a.Ca [("rooms",.int n),("wraps",.bl wr),("homes",.l false (Mw c))],.int n,.bl wr,.l z (Mw c)] (λ K b=>?_) ?_
 . refine qa1 (qap7 (z:=z)) ?_
   exact qa1 (a:=(0,[])) rfl (qa1 qi7 ⟨by show 2 < 100;decide,b⟩)
 refine qa1 (qaq8 (z:=z) j.nd) ?_;exact qa1 (a:=(0,[])) rfl (qa1 qi7 ⟨by show 3 < 100;decide,q⟩)
theorem qw5:qa9 ["self", "thing"] ["self", "thing"] (qa3 qi4):=by walk_at "s"
def qw1(C:γ):VSp:=Aw λ ds d=>∃ z n wr ps x t,ds=[Ad z C n wr ps,x]/\x.kind=some t/\d=.bl (x.within 0 (n - 1))
theorem ql1(T:Txt K mg a):VFn P w K mg base 3 a.f10 a.d10 ["self", "thing"] (qw1 a.Ca):=by
 refine VFn.mk2 T.d10.F qw5 (wOf [true,true]) qb2 (λ g Q i h=>by obtain⟨d,⟨z,n,wr,b,x,t,e,_⟩,_⟩:=h;rw[e];exact⟨rfl,rfl⟩) (λ j A outer m H E o k=>⟨_,(Ag (An (Ah T.d4 (qe3 T) qa2 (rm k) (vaN 1 (vaV (qa4 Af) (vaV (qa4 (v2 (Aj qm7) qm6 (Bn rfl (vnm 0) T.Ce.cl T.Cg) Af)) Ac)))))),λ g Q i h=>?_⟩);obtain⟨d,⟨z,n,wr,b,x,t,rfl,c,rfl⟩,q⟩:=h;have f:rdN 1 [Ad z a.Ca n wr b,x]=some x:=qj3.mpr ⟨rfl,qj8 c⟩;have l:f2 gSub (f1 (D.fld a.Ca "rooms") (rdN 0)) (kC (.int 1)) [Ad z a.Ca n wr b,x]=some (.int (n - 1)):=Ae (A8 rfl qe0) rfl rfl;show qi0 _ _ (tbN 1 _) [Ad z a.Ca n wr b,x] _ _;refine qc5 f ?_;refine qe5 (y:=.int 0) rfl ?_;refine qe5 l ?_;refine qa1 f ?_;refine qA7 (d:=.bl (x.within 0 (n - 1))) ?_ (qa1 rfl q);show x.kind.bind _=_;rw[c];rfl
theorem qI8:qa9 ["self", "key"] ["self", "key"] (qa3 qp0):=by walk_at "s"
def qI0(C:γ):VSp:=Aw λ ds d=>∃ z n wr ps k,ds=[Ad z C n wr ps,.int k]/\1<=n/\Al k/\d=.int (qb9 n ps k)
theorem qac1{z:Bool}{ps:Pr}(h:fa ds=some (.dct z (kvD ps)))(a:rdN i ds=some (.int k)):fget fa (rdN i) (rdN i) ds=some (.int ((ps.lookup k).getD k)):=by
 unfold fget;rw[h,a];show gd (((Fi (kvD ps) (.inl k)).getD (.int k)).imm=true) ((Fi (kvD ps) (.inl k)).getD (.int k))=_;rw[qan2];cases ps.lookup k<;>rfl
theorem qaI1{x n:Int}(h:1<=n):Jy (.int x) (.int n)=some (.int (x % n)):=qm0 (zA9 (by lia))
theorem ql8(T:Txt K mg a):VFn P w K mg base 4 a.f11 a.d11 ["self", "key"] (qI0 a.Ca):=by
 refine VFn.mk2 T.d11.F qI8 (wOf [true,true]) qb2 (λ f Q g h=>by obtain⟨d,⟨z,n,wr,b,k,e,_⟩,_⟩:=h;rw[e];exact⟨rfl,rfl⟩) (λ i A outer m H E o c=>⟨_,(Ab (sif (Bh (te (Ah T.d5 (qc3 T) qa2 (rm c) (vaN 1 Ac))))
     (Ag qo0)
     At)
     (Ag (An (qa4 (v2 (Aj qj5) qj4 (vget (hu_of c) (Bn rfl (vnm 0) T.Ce.cl T.Ck) (vnm 1) (vnm 1) ⟨rfl,rfl,rfl,rfl⟩) (Bn rfl (vnm 0) T.Ce.cl T.Cg)))))),λ f Q g h=>?_⟩)
 obtain⟨d,⟨z,n,wr,b,k,rfl,j,l,rfl⟩,q⟩:=h;have key:orF (f2 Jy (fget (f1 (D.fld a.Ca "home_numbers") (rdN 0)) (rdN 1) (rdN 1)) (f1 (D.fld a.Ca "rooms") (rdN 0)) [Ad z a.Ca n wr b,.int k]) (λ d=>Q d [Ad z a.Ca n wr b,.int k]):=qa1 (Ae (qac1 (A8 rfl qT5) rfl) (A8 rfl qe0) (qaI1 j)) q;exact qU0 rfl (qA7 (d:=D.bl true) (by show some (D.bl (D.int k).num)=_;rw[qp2 l]) (qa1 rfl (qa1 (a:=true) rfl key)))
theorem qx9:qa9 ["self", "key", "room", "steps"] ["self", "key", "room"] (qa3 qt6):=by walk_at "s"
def qR8(C:γ):VSp:=Aw λ ds d=>∃ z n wr ps k r,ds=[Ad z C n wr ps,.int k,.int r]/\1<=n/\Al k/\0<=r/\r < n/\d=G1 (Av n wr ps k r)
theorem qaj0(a:Al k):fx1 (λ x=>x.kind.map λ _=>.bl x.num) [.int k]=some (.bl true):=by
 show some (D.bl (D.int k).num)=_;rw[qp2 a]
theorem qao1{C:γ}{z:Bool}{n:Int}{wr:Bool}{ps:Pr}{r:Int}(d:0<=r)(h1:r < n):∃ z' c a b x t,[Ad z C n wr ps,.int r]=[Ad z' C c a b,x]/\x.kind=some t/\D.bl true=.bl (x.within 0 (c - 1)) :=
 ⟨z,n,wr,ps,_,_,rfl,rfl,by rw[qM0 d (by lia)]⟩
theorem qk4(T:Txt K mg a):VFn P w K mg base 5 a.f12 a.d12 ["self", "key", "room"] (qR8 a.Ca):=by
 refine VFn.mk2 T.d12.F qx9 (wOf [true,true,true]) qb2 (λ o Q f h=>by obtain⟨d,⟨z,n,wr,c,k,r,e,_⟩,_⟩:=h;rw[e];exact⟨rfl,rfl⟩) (λ s A outer u H E v g=>⟨_,(Ab (sif (Bh (te (Ah T.d5 (qc3 T) qa2 (rm g) (vaN 1 Ac))))
     (Ag qo0)
     At)
     (Ab (sif (Bh (te (qp9 0 T.d10 T.Ce.cl (ql1 T) qa2 (rm g) (vaN 2 Ac))))
     (Ag qo0)
     At)
     (Ab (Ak 3 qx9.nd (e2n 2 (Aj qm7) qm6 (qp9 0 T.d11 T.Ce.cl (ql8 T) qa2 (rm g) (vaN 1 Ac))))
     (Ab (sif (tv (Bn rfl (vnm 0) T.Ce.cl T.Cp))
     (Ag (An (qa4 (v2 (Aj qj5) qj4 (vnm 3) (Bn rfl (vnm 0) T.Ce.cl T.Cg)))))
     At)
     (Ag (An (eif (q2 (Aq Gs (qb1 _)) Hy (vnm 3) Af) (qb8 (vnm 3)) (qa4 A7)))))))),λ o Q f h=>?_⟩)
 obtain⟨d,⟨z,n,wr,c,k,r,rfl,l,m,i,j,rfl⟩,q⟩:=h;refine Hg (λ Q f q=>qE0 (x:=.int k) rfl (qaj0 m) rfl q) ?_;refine Hg (λ Q f q=>qT3 (p:=Ad z a.Ca n wr c) (x:=.int r) rfl (qg0 rfl) rfl rfl (qao1 i j) rfl q) ?_;refine qb0 [Ad z a.Ca n wr c,.int k,.int r,.int (r - qb9 n c k)] (λ K t=>?_) ?_
 . exact⟨rfl,qT3 (p:=Ad z a.Ca n wr c) (x:=.int k) (d:=.int (qb9 n c k)) rfl (qg0 rfl) rfl rfl ⟨z,n,wr,c,k,rfl,l,m,rfl⟩ rfl (qa1 (a:=D.int (r - qb9 n c k)) rfl t)⟩
 unfold Av at q;refine qg8 wr (A8 rfl qC1) (λ h=>?_) (λ h=>?_)
 . subst h
   exact qg5 (.int ((r - qb9 n c k) % n)) (Ae rfl (A8 rfl qe0) (qaI1 l)) q
 subst h;refine qi6 (Hh (b:=decide (0<=r - qb9 n c k)) rfl (λ h=>?_) (λ h=>?_))
 . rw[if_neg (by decide),if_pos (zAa h)] at q
   exact⟨rfl,q⟩
 rw[if_neg (by decide),if_neg (zBg h)] at q;exact q
theorem qe2:qa9 ["self", "room", "one", "other", "one_far", "other_far"] ["self", "room", "one", "other"] (qa3 qe8):=by walk_at "s"
def qn9(C:γ):VSp:=Aw λ ds d=>∃ z n wr ps r x y,ds=[Ad z C n wr ps,.int r,.int x,.int y]/\1<=n/\0<=r/\r < n/\Al x/\Al y/\d=.bl (qf5 n wr ps r x y)
theorem qak9{C:γ}{z:Bool}{n:Int}{wr:Bool}{ps:Pr}{r:Int}(h1:1<=n)(f:Al k)(g:0<=r)(h:r < n):∃ z' c a b e d,[Ad z C n wr ps,.int k,.int r]=[Ad z' C c a b,.int e,.int d]/\1<=c/\Al e/\0<=d/\d < c/\G1 (Av n wr ps k r)=G1 (Av c a b e d) :=
 ⟨z,n,wr,ps,k,r,rfl,h1,f,g,h,rfl⟩
theorem qh3(T:Txt K mg a):VFn P w K mg base 6 a.f13 a.d13 ["self", "room", "one", "other"] (qn9 a.Ca):=by
 refine VFn.mk2 T.d13.F qe2 (wOf [true,true,true,true]) qb2 (λ B Q l h=>by obtain⟨d,⟨z,n,wr,c,r,x,y,e,_⟩,_⟩:=h;rw[e];exact⟨rfl,rfl⟩) (λ C A outer D H E G k=>⟨_,(Ab (sif (Bh (te (qp9 0 T.d10 T.Ce.cl (ql1 T) qa2 (rm k) (vaN 1 Ac))))
     (Ag qo0)
     At)
     (Ab (sif (Bh (te (Ah T.d5 (qc3 T) qa2 (rm k) (vaN 2 Ac))))
     (Ag qo0)
     At)
     (Ab (sif (Bh (te (Ah T.d5 (qc3 T) qa2 (rm k) (vaN 3 Ac))))
     (Ag qo0)
     At)
     (Ab (Ak 4 qe2.nd (qp9 0 T.d12 T.Ce.cl (qk4 T) qa2 (rm k) (vaN 2 (vaN 1 Ac))))
     (Ab (Ak 5 qe2.nd (qp9 0 T.d12 T.Ce.cl (qk4 T) qa2 (rm k) (vaN 3 (vaN 1 Ac))))
     (Ab (sif (q2 (Aq Fc (qb1 _)) Fp (vnm 4) A7)
     (Ag (An (qa4 vbl)))
     At)
     (Ab (sif (q2 (Aq Fc (qb1 _)) Fp (vnm 5) A7)
     (Ag (An (qa4 vbl)))
     At)
     (Ag (An (qa4 (vor (v2 (Ax Bu (qb1 _)) Bz (vnm 4) (vnm 5)) (Iq (K6 (v2 (Ax (qj6 k.u64) (qb1 _)) Bf (vnm 4) (vnm 5)) (Iq (v2 (Ax Ke (qb1 _)) Kw (vnm 2) (vnm 3)))))))))))))))),λ B Q l h=>?_⟩)
 obtain⟨d,⟨z,n,wr,c,r,x,y,rfl,o,i,j,s,t,rfl⟩,q⟩:=h;refine Hg (λ Q l q=>qT3 (p:=Ad z a.Ca n wr c) (x:=.int r) rfl (qg0 rfl) rfl rfl (qao1 i j) rfl q) ?_;refine Hg (λ Q l q=>qE0 (x:=.int x) rfl (qaj0 s) rfl q) ?_;refine Hg (λ Q l q=>qE0 (x:=.int y) rfl (qaj0 t) rfl q) ?_;refine qb0 [Ad z a.Ca n wr c,.int r,.int x,.int y,G1 (Av n wr c x r),.u] (λ K m=>?_) ?_
 . exact qaj5 (p:=Ad z a.Ca n wr c) (x:=.int x) (y:=.int r) rfl (qg0 rfl) rfl rfl rfl rfl (qak9 o s i j) rfl m
 refine qb0 [Ad z a.Ca n wr c,.int r,.int x,.int y,G1 (Av n wr c x r),G1 (Av n wr c y r)] (λ K m=>?_) ?_
 . exact qaj5 (p:=Ad z a.Ca n wr c) (x:=.int y) (y:=.int r) rfl (qg0 rfl) rfl rfl rfl rfl (qak9 o t i j) rfl m
 unfold qf5 at q;cases u:Av n wr c x r with
 | none =>
   rw[u] at q;exact q
 | some f =>
   rw[u] at q;cases v:Av n wr c y r with
   | none =>
     rw[v] at q;exact q
   | some g =>
     rw[v] at q;refine qg8 false rfl (λ h=>nomatch h) λ _=>?_
     refine qg8 false rfl (λ h=>nomatch h) λ _=>?_
     exact qg5 _ (qaK9 (a:=decide (g < f)) rfl (qP2 (a:=decide (f=g)) (b:=decide (x < y)) rfl rfl)) q
theorem qD6:qa9 ["plan", "room"] ["plan", "room"] (qa3 ql5):=by walk_at "s"
def qD3(C:γ):VSp:=Aw λ ds d=>∃ z n wr ps r,ds=[Ad z C n wr ps,.int r]/\d=(if 0 < r then .int (r - 1) else if wr=true then .int (n - 1) else .non)
theorem qE4(T:Txt K mg a):VFn P w K mg base 1 a.f14 a.d14 ["plan", "room"] (qD3 a.Ca):=by
 refine VFn.mk2 T.d14.F qD6 (wOf [true,true]) qb2 (λ f Q g h=>by obtain⟨d,⟨z,n,wr,c,r,e,_⟩,_⟩:=h;rw[e];exact⟨rfl,rfl⟩) (λ i A outer j H E k l=>⟨_,(Ab (sif (q2 (Aq Bu (qb1 _)) Bz (vnm 1) Af)
     (Ag (An (qa4 (v2 (Aj qm7) qm6 (vnm 1) Af))))
     At)
     (Ag (An (eif (tv (Bn rfl (vnm 0) T.Ce.cl T.Cp)) (qa4 (v2 (Aj qm7) qm6 (Bn rfl (vnm 0) T.Ce.cl T.Cg) Af)) (qa4 A7))))),λ f Q g h=>?_⟩)
 obtain⟨d,⟨z,n,wr,c,r,rfl,rfl⟩,q⟩:=h;refine As [Ad z a.Ca n wr c,.int r] rfl ?_;refine qg8 (decide (0 < r)) rfl (λ h=>?_) λ h=>?_
 . rw[if_pos (zAa h)] at q
   exact q
 rw[if_neg (zBg h)] at q;refine qi6 (Hh (b:=wr) (A8 rfl qC1) (λ h=>?_) (λ h=>?_))
 . rw[if_pos h] at q
   exact qr4 (d:=.int (n - 1)) (Ae (A8 rfl qe0) rfl rfl) q
 rw[if_neg (by rw[h];decide)] at q;exact q
theorem qd3:qa9 ["plan", "rooms", "room", "ahead", "thing"] ["plan", "rooms", "room"] (qa3 qd4):=by walk_at "s"
noncomputable def Il:Option Str->D
 | none=>.non
 | some s=>.str s
theorem qaa1{t:D}{u:String}(h:t.kind=some u):t=.non∨t.isN=some false:=by
 cases t<;>first | exact .inl rfl | exact .inr rfl | cases h
theorem qB2{t:D}(h:t.num=true):∃ x,t=.int x/\Al x:=by
 cases t with
 | int x =>
   have:=zAi.mp h
   exact⟨x,rfl,zAa this.1,zAa this.2⟩
 | _=>cases h
def Gj(n:Int)(wr:Bool)(ps:Pr)(p:Nat)(t:D)(k:Int):Option Str:=match t with
 | .non=>some "empty"
 | .int x=>if (D.int x).num=true then (if qf5 n wr ps (p:Int) x k=true then none else some "order") else none
 | _=>none
theorem qaf2{n:Int}{wr:Bool}{ps:Pr}{p:Nat}{t:D}(h:t.num=false)(h':t.isN=some false):Gj n wr ps p t k=none:=by
 cases t with
 | non=>cases h'
 | int x =>
   show (if (D.int x).num=true then (if qf5 n wr ps (p:Int) x k=true then (none:Option Str) else some "order") else none)=none;rw[if_neg (by rw[h];decide)]
 | _=>rfl
structure Rm(n:Int)(ys:Ds)(r:Nat):Prop where
 len:ys.length=n.toNat
 kn:∀ y∈ys,∃ t,y.kind=some t
 im:D.imms ys=true
 fl:∀ i y,i < r->ys[i]? = some y->y=.non∨∃ k,y=.int k/\Al k
theorem qN0{t:D}{u:String}(h:t.kind=some u):fx1 (λ x=>x.kind.map λ _=>.bl x.num) [t]=some (.bl t.num):=by
 show t.kind.map _=_;rw[h];rfl
theorem Ln{z:Bool}(h:ys[r]? = some y):gIx (.l z ys) (.int (r:Int))=some y:=qae3 h
def qk6(C:γ):VSp:=Aw λ ds d=>∃ z n wr ps z' ys r k t,ds=[Ad z C n wr ps,.l z' ys,.int (r:Nat)]/\1<=n/\r < n.toNat/\(0 < r∨wr=true)/\Rm n ys 0/\ys[r]? = some (.int k)/\Al k/\ys[Row.prev n.toNat r]? = some t/\d=Il (Gj n wr ps (Row.prev n.toNat r) t k)
theorem qk7(T:Txt K mg a):VFn P w K mg base 7 a.f15 a.d15 ["plan", "rooms", "room"] (qk6 a.Ca):=by
 refine VFn.mk2 T.d15.F qd3 (wOf [true,true,true]) qb2 (λ G Q I h=>by obtain⟨d,⟨z,n,wr,c,f,g,r,k,t,e,_⟩,_⟩:=h;rw[e];exact⟨rfl,rfl⟩) (λ J A outer V H E W l=>⟨_,(Ab (Ak 3 qd3.nd (Ah T.d14 (qE4 T) qa2 (rm l) (vaN 0 (vaN 2 Ac))))
     (Ab (Ak 4 qd3.nd (qb8 (v2 (Au qb5) Am (vnm 1) (vnm 3))))
     (Ab (sif (q2 (Aq Fc (qb1 _)) Fp (vnm 4) A7)
     (Ag (An (qa4 Bk)))
     At)
     (Ab (sif (tand (te (Ah T.d5 (qc3 T) qa2 (rm l) (vaN 4 Ac))) (K5 (Bh (te (qp9 0 T.d13 T.Ce.cl (qh3 T) qa2 (rm l) (vaN 3 (vaN 4 (vaV (qb8 (v2 (Au qb5) Am (vnm 1) (vnm 2))) Ac)))))))).te
     (Ag (An (qa4 Bk)))
     At)
     (Ag (An (qa4 A7))))))),λ G Q I h=>?_⟩)
 obtain⟨d,⟨z,n,wr,c,f,g,r,k,t,rfl,L,m,M,R,N,O,i,rfl⟩,q⟩:=h;refine As [Ad z a.Ca n wr c,.l f g,.int (r:Nat),.u,.u] rfl ?_;have S:=Row.ql0 (n:=n.toNat) m;have v:(if 0 < ((r:Nat):Int) then D.int ((r:Int) - 1) else if wr=true then D.int (n - 1) else .non)=.int (Row.prev n.toNat r:Nat):=by
   rcases Row.por n.toNat r with⟨e1,e2⟩ | ⟨e1,e2⟩
   . rw[if_neg (by lia),if_pos (M.resolve_left (by lia)),e2]
     congr 1;lia
   rw[if_pos (by lia),e2];congr 1;lia
 generalize Row.prev n.toNat r=p at S v q i;obtain⟨u,j⟩:=R.kn t (zB4 i);refine qb0 [Ad z a.Ca n wr c,.l f g,.int (r:Nat),.int (p:Nat),.u] (λ K o=>?_) ?_
 . exact qx5 (x:=Ad z a.Ca n wr c) (y:=.int (r:Nat)) (d:=.int (p:Nat)) rfl rfl rfl ⟨z,n,wr,c,(r:Nat),rfl,v.symm⟩ rfl o
 refine qb0 [Ad z a.Ca n wr c,.l f g,.int (r:Nat),.int (p:Nat),t] (λ K o=>qa1 (Ae rfl rfl (Ln i)) ⟨qp7 R.im i,o⟩) ?_;have B:rdN 4 [Ad z a.Ca n wr c,.l f g,.int (r:Nat),.int (p:Nat),t]=some t:=qj2 rfl (qj8 j);rcases qaa1 j with rfl | C
 . exact qg8 true rfl (λ _=>q) λ h=>nomatch h
 refine qg8 false (Ae B rfl (by show t.isN.map D.bl=_;rw[C];rfl)) (λ h=>nomatch h) λ _=>?_
 cases b:t.num with
 | false =>
   rw[qaf2 b C] at q;exact qg1 false (λ Q q=>qs5 false false (λ Q q=>qE0 (x:=t) (d:=.bl false) B (by rw[qN0 j,b]) rfl q) (λ h=>nomatch h) q) (λ h=>nomatch h) λ _=>q
 | true =>
   obtain⟨x,rfl,U⟩:=qB2 b;have q:Q (Il (if (D.int x).num=true then (if qf5 n wr c (p:Int) x k=true then none else some "order") else none)) [Ad z a.Ca n wr c,.l f g,.int (r:Nat)]:=q;rw[if_pos b] at q;refine qg1 (!qf5 n wr c (p:Int) x k) (λ Q q=>qs5 true _ (λ Q q=>qE0 (x:=.int x) (d:=.bl true) rfl (by rw[qN0 j,b]) rfl q) (λ _ Q q=>?_) q) (λ h=>?_) λ h=>?_
   . refine qT2 (p:=Ad z a.Ca n wr c) rfl (qg0 rfl) (qc5 (x:=.int (p:Nat)) rfl (qc5 (x:=.int x) rfl (qg4 (y:=.int k) (Ae rfl rfl (Ln N)) rfl ?_)))
     refine qd5 ?_;refine qa1 (a:=D.int x) rfl ?_;refine qa1 (a:=D.int (p:Nat)) rfl ?_;exact(qa1 (a:=Ad z a.Ca n wr c) rfl (qf1 (d:=.bl (qf5 n wr c (p:Int) x k)) ⟨z,n,wr,c,(p:Nat),x,k,rfl,L,by lia,by lia,U,O,rfl⟩ q))
   . rw[if_neg (by intro s;rw[s] at h;cases h)] at q
     exact q
   rw[if_pos (by cases s:qf5 n wr c (p:Int) x k with | true=>rfl | false=>rw[s] at h;cases h)] at q;exact q
theorem qo1:qa9 ["plan", "rooms", "room", "key", "far"] ["plan", "rooms", "room"] (qa3 qt1):=by walk_at "s"
noncomputable def atD(ys:Ds)(i:Nat):D:=(ys[i]?).getD .non
noncomputable def qu7(k:Int):D->Bool
 | .int j=>decide (j=k)
 | _=>false
def Bs(n:Int)(wr:Bool)(ps:Pr)(ys:Ds)(r:Nat):Option Str:=match atD ys r with
 | .non=>none
 | .int k=>if (D.int k).num=true then (if (ys.take r).any (qu7 k)=true then some "twice" else match Av n wr ps k (r:Int) with
   | none=>some "home"
   | some f=>if f=0 then none else Gj n wr ps (Row.prev n.toNat r) (atD ys (Row.prev n.toNat r)) k) else some "key"
 | _=>some "key"
theorem qaq5{k:Int}:∀{l:Ds},(∀ y∈l,y=.non∨∃ j,y=.int j/\Al j)->∃ a,flats l=some a/\inV (.int k) a=l.any (qu7 k)
 | [],_=>⟨[],rfl,rfl⟩
 | y::l,h=>by
   obtain⟨a,c,e2⟩:=qaq5 (k:=k) λ z d=>h z (zA5 _ d)
   rcases h y zAc with rfl | ⟨j,rfl,_⟩
   . refine⟨.non::a,?_,?_⟩
     . show ((flats l).bind λ b=>some (V.non::b))=_
       rw[c];rfl
     show (eqV .non (.int k)||inV (.int k) a)=(false||l.any (qu7 k))
     rw[e2];rfl
   refine⟨.int j::a,?_,?_⟩
   . show ((flats l).bind λ b=>some (V.int j::b))=_
     rw[c];rfl
   show (eqV (.int j) (.int k)||inV (.int k) a)=(decide (j=k)||l.any (qu7 k))
   rw[e2];rfl
theorem qO0:∀{ys:Ds}{r:Nat},D.imms ys=true->D.imms (ys.take r)=true
 | [],r,_=>by rw[List.take_nil];rfl
 | y::ys,0,_=>rfl
 | y::ys,r+1,h=>by
   have:=zAi.mp h
   show (y.imm&&D.imms (ys.take r))=true;rw[this.1,qO0 this.2];rfl
theorem Rm.up{n:Int}(R:Rm n ys r){s:Nat}(h:s<=r):Rm n ys s:=⟨R.len,R.kn,R.im,λ i y a=>R.fl i y (by lia)⟩
def qR3(C:γ):VSp:=Aw λ ds d=>∃ z n wr ps z' ys r,ds=[Ad z C n wr ps,.l z' ys,.int (r:Nat)]/\1<=n/\r < n.toNat/\Rm n ys r/\d=Il (Bs n wr ps ys r)
theorem qS3(T:Txt K mg a):VFn P w K mg base 8 a.f16 a.d16 ["plan", "rooms", "room"] (qR3 a.Ca):=by
 refine VFn.mk2 T.d16.F qo1 (wOf [true,true,true]) qb2 (λ V Q W h=>by obtain⟨d,⟨z,n,wr,c,j,b,r,e,_⟩,_⟩:=h;rw[e];exact⟨rfl,rfl⟩) (λ X A outer sh H E av B=>⟨_,(Ab (Ak 3 qo1.nd (qb8 (v2 (Au qb5) Am (vnm 1) (vnm 2))))
     (Ab (sif (q2 (Aq Fc (qb1 _)) Fp (vnm 3) A7)
     (Ag (An (qa4 A7)))
     At)
     (Ab (sif (Bh (te (Ah T.d5 (qc3 T) qa2 (rm B) (vaN 3 Ac))))
     (Ag (An (qa4 Bk)))
     At)
     (Ab (sif (q2 (Aq qA8 (by with_unfolding_all rfl)) Jf (vnm 3) (vsl (vnm 1) vpo_n (vpo_s (vnm 2))))
     (Ag (An (qa4 Bk)))
     At)
     (Ab (Ak 4 qo1.nd (qp9 0 T.d12 T.Ce.cl (qk4 T) qa2 (rm B) (vaN 3 (vaN 2 Ac))))
     (Ab (sif (q2 (Aq Fc (qb1 _)) Fp (vnm 4) A7)
     (Ag (An (qa4 Bk)))
     At)
     (Ab (sif (q2 (Aq (qj6 B.u64) (qb1 _)) Bf (vnm 4) Af)
     (Ag (An (qa4 A7)))
     At)
     (Ag (An (Ah T.d15 (qk7 T) qa2 (rm B) (vaN 0 (vaN 1 (vaN 2 Ac))))))))))))),λ V Q W h=>?_⟩)
 obtain⟨d,⟨z,n,wr,c,j,b,r,rfl,J,m,R,rfl⟩,q⟩:=h;have Y:=Row.ql0 (n:=n.toNat) m;obtain⟨v,s⟩:∃ v,b[r]? = some v:=⟨b[r]'(by rw[R.len];exact m),by simp⟩
 obtain⟨t,N⟩:∃ t,b[Row.prev n.toNat r]? = some t:=⟨b[Row.prev n.toNat r]'(by rw[R.len];exact Y),by simp⟩
 obtain⟨u,C⟩:=R.kn v (zB4 s);have Z:atD b r=v:=by unfold atD;rw[s];rfl
 have et:atD b (Row.prev n.toNat r)=t:=by unfold atD;rw[N];rfl
 unfold Bs at q;rw[Z,et] at q;refine As [Ad z a.Ca n wr c,.l j b,.int (r:Nat),.u,.u] rfl ?_;refine qb0 [Ad z a.Ca n wr c,.l j b,.int (r:Nat),v,.u] (λ K L=>qa1 (Ae rfl rfl (Ln s)) ⟨qp7 R.im s,L⟩) ?_;have O:rdN 3 [Ad z a.Ca n wr c,.l j b,.int (r:Nat),v,.u]=some v:=qj2 rfl (qj8 C);rcases qaa1 C with rfl | S
 . exact qg8 true rfl (λ _=>q) λ h=>nomatch h
 refine qg8 false (Ae O rfl (by show v.isN.map D.bl=_;rw[S];rfl)) (λ h=>nomatch h) λ _=>?_
 cases g:v.num with
 | false =>
   refine qg1 true (λ Q q=>qE0 (x:=v) (d:=.bl false) O (by rw[qN0 C,g]) rfl q) (λ _=>?_) (λ h=>nomatch h);cases v with
   | non=>cases S
   | int k =>
     have q:Q (Il (if (D.int k).num=true then _ else some "key")) [Ad z a.Ca n wr c,.l j b,.int (r:Nat)]:=q;rw[if_neg (by rw[g];decide)] at q;exact q
   | _=>exact q
 | true =>
   obtain⟨k,rfl,U⟩:=qB2 g;have q:Q (Il (if (D.int k).num=true then (if (b.take r).any (qu7 k)=true then some "twice" else match Av n wr c k (r:Int) with
     | none=>some "home"
     | some f=>if f=0 then none else Gj n wr c (Row.prev n.toNat r) t k) else some "key")) [Ad z a.Ca n wr c,.l j b,.int (r:Nat)]:=q
   rw[if_pos g] at q;refine qg1 false (λ Q q=>qE0 (x:=.int k) (d:=.bl true) rfl (by rw[qN0 C,g]) rfl q) (λ h=>nomatch h) λ _=>?_
   obtain⟨G,e1,e2⟩:=qaq5 (k:=k) (l:=b.take r) λ y hy=>by
     obtain⟨i,I⟩:=List.getElem?_of_mem hy;rw[List.getElem?_take] at I;split at I
     . rename_i hlt;exact R.fl i y hlt I
     cases I
   have M:f2 (Ky false) (rdN 3) (fsl (rdN 1) foN (foS (rdN 2))) [Ad z a.Ca n wr c,.l j b,.int (r:Nat),.int k,.u]=some (.bl ((b.take r).any (qu7 k))):=by
     refine Ae (x:=.int k) (y:=.l false (b.take r)) rfl ?_ ?_
     . show gSl (.l j b) none (some (r:Int))=_
       show gd (D.imms (Gd b none (some (r:Int)))=true) (.l false (Gd b none (some (r:Int))))=_;rw[qP7];exact qm0 (qO0 R.im)
     show ((flats (b.take r)).bind λ G=>some (D.bl (if false=true then !inV (.int k) G else inV (.int k) G)))=_;rw[e1];show some (D.bl (inV (.int k) G))=_;rw[e2]
   refine qg8 _ M (λ h=>?_) λ h=>?_
   . rw[if_pos h] at q;exact q
   rw[if_neg (by rw[h];decide)] at q;refine qb0 [Ad z a.Ca n wr c,.l j b,.int (r:Nat),.int k,G1 (Av n wr c k (r:Nat))] (λ K L=>?_) ?_
   . exact qaj5 (p:=Ad z a.Ca n wr c) (x:=.int k) (y:=.int (r:Nat)) rfl (qg0 rfl) rfl rfl rfl rfl (qak9 J U (by lia) (by lia)) rfl L
   cases o:Av n wr c k (r:Nat) with
   | none =>
     rw[o] at q;exact qg8 true rfl (λ _=>q) λ h=>nomatch h
   | some f =>
     rw[o] at q;refine qg8 false rfl (λ h=>nomatch h) λ _=>?_
     refine qg8 (decide (f=0)) rfl (λ h=>?_) λ h=>?_
     . have q:Q (Il (if f=0 then none else Gj n wr c (Row.prev n.toNat r) t k)) [Ad z a.Ca n wr c,.l j b,.int (r:Nat)]:=q
       rw[if_pos (zAa h)] at q;exact q
     have q:Q (Il (if f=0 then none else Gj n wr c (Row.prev n.toNat r) t k)) [Ad z a.Ca n wr c,.l j b,.int (r:Nat)]:=q;rw[if_neg (zBg h)] at q;refine qZ4 (x:=Ad z a.Ca n wr c) (y:=.l j b) (w:=.int (r:Nat)) rfl rfl rfl rfl rfl ⟨z,n,wr,c,j,b,r,k,t,rfl,J,m,?_,R.up (zBi _),s,U,N,rfl⟩ rfl q;cases wr with
     | true=>exact .inr rfl
     | false =>
       left;unfold Av at o;rw[if_neg (by decide)] at o
       have:=(qab6 J c k).1
       have a0:=zBg h;split at o
       . cases o;lia
       cases o
theorem qI4:qa9 ["plan", "rooms"] ["plan", "rooms"] (qa3 qo6):=by walk_at "s"
def farP(n:Int)(wr:Bool)(ps:Pr):D->Bool
 | .q [.int i,.int k]=>match Av n wr ps k i with
   | some f=>decide (0 < f)
   | none=>false
 | _=>false
def qm3(n:Int)(wr:Bool)(ps:Pr)(ys:Ds):Bool:=(enD ys).all (farP n wr ps)
theorem qaz4(ys:Ds):(enD ys).length=ys.length:=by unfold enD;rw[zA8,List.length_zipIdx]
def qH7(C:γ):VSp:=Aw λ ds d=>∃ z n wr ps z' ys,ds=[Ad z C n wr ps,.l z' ys]/\1<=n/\n<=64/\ys.length=n.toNat/\(∀ i v,ys[i]? = some v->v=.non∨∃ k,v=.int k/\Al k/\Av n wr ps k (i:Nat)≠none)/\d=.bl (qm3 n wr ps ys)
theorem qax9{p:Nat->D->Prop}(h:∀ i v,ys[i]? = some v->v=.non∨∃ k,v=.int k/\p i v):D.imms ys=true:=by
 induction ys generalizing p with
 | nil=>rfl
 | cons y ys a =>
   have b:=h 0 y rfl;have c:y.imm=true:=by
     rcases b with rfl | ⟨k,rfl,_⟩<;>rfl
   show (y.imm&&D.imms ys)=true;rw[c,a (p:=λ i v=>p (i+1) v) λ i v d=>h (i+1) v d];rfl
theorem qJ9(T:Txt K mg a):VFn P w K mg base 6 a.f17 a.d17 ["plan", "rooms"] (qH7 a.Ca):=by
 refine VFn.mk2 T.d17.F qI4 (wOf [true,true]) qb2 (λ L Q M h=>by obtain⟨d,⟨z,n,wr,b,o,g,e,_⟩,_⟩:=h;rw[e];exact⟨rfl,rfl⟩) (λ N A outer sh H E j O=>⟨_,(Ag (An (ebi (qQ5 rfl) qaL5.ops T.F6 (G0 (vaV (ecEN (NY:=["room", "key", "plan"]) (src:=[none,none,some 0]) 1 T.Eb (blk (λ j C r H0 s=>(Jl (n:=2) rfl (qF6 (Bc 0 (show (["room", "key", "plan"]:List Str).Nodup by decide +kernel)) (qF6 (Bc 1 (show (["room", "key", "plan"]:List Str).Nodup by decide +kernel)) Jk)))) (λ j C r H0 s=>Ih) (λ j C r H0 s=>(Gw (qa4 (v2 (Ax qr2 (qb1 _)) qu0 (vnm 1) A7)) (Ic (e2v (Ax Bu (qb1 _)) Bz (qp9 2 T.d12 T.Ce.cl (qk4 T) qp5 (rm O) (vaN 1 (vaN 0 Ac))) Af)))))) Ac))))),λ L Q M h=>?_⟩);obtain⟨d,⟨z,n,wr,b,o,g,rfl,S,n2,t,u,rfl⟩,q⟩:=h;refine As [Ad z a.Ca n wr b,.l o g] rfl ?_;have U:D.imms g=true:=qax9 (p:=λ i v=>∃ k,v=.int k/\Al k/\Av n wr b k (i:Nat)≠none) λ i v h=>by
   rcases u i v h with h | ⟨k,B,V,W⟩
   . exact .inl h
   exact .inr ⟨k,B,k,B,V,W⟩
 refine qi6 ?_;refine⟨U,?_⟩;refine qk2 (λ ι=>∃ l m,ι=[l,m,Ad z a.Ca n wr b]) (λ y=>some (.bl (farP n wr b y))) (enD g) [] _ (by show 0+(enD g).length < big;rw[qaz4,t];unfold big;lia) ⟨_,_,rfl⟩ ?_ ?_
 . rintro y X ι Y ⟨l,m,rfl⟩ R G c
   obtain⟨i,v,rfl,I⟩:=qaT4 X;have Z:i < n.toNat:=by rw[<- t];exact(zA6.mp I).1
   refine qp8 (qar8 (Br rfl ?_));rcases u i v I with rfl | ⟨k,rfl,hk,hf⟩
   . exact Jr false rfl (λ h=>nomatch h) λ _=>⟨c,G _ ⟨_,_,rfl⟩⟩
   refine Jr true rfl (λ _=>?_) λ h=>nomatch h
   refine qaj5 (p:=Ad z a.Ca n wr b) (x:=.int k) (y:=.int (i:Nat)) rfl (qg0 rfl) rfl rfl rfl rfl (qak9 S hk (by lia) (by lia)) rfl ?_;have this:=G _ ⟨.int (i:Nat),.int k,rfl⟩;cases J:Av n wr b k (i:Nat) with
   | none=>exact absurd J hf
   | some f =>
     have e:farP n wr b (.q [.int (i:Nat),.int k])=decide (0 < f):=by
       show (match Av n wr b k (i:Nat) with | some f=>decide (0 < f) | none=>false)=_;rw[J]
     rw[e] at this;exact qa1 (a:=D.bl (decide (0 < f))) rfl ⟨c,this⟩
 rintro ι ⟨l,m,rfl⟩;rw[zB6,qac6];exact qa1 (qaM2 (farP n wr b) (enD g)) q
theorem qo3:qa9 ["plan", "rooms", "room", "word"] ["plan", "rooms"] (qa3 qt3):=by walk_at "s"
def qT6(n:Int)(wr:Bool)(ps:Pr)(ys:Ds):Option (Str×Nat):=(List.range n.toNat).findSome? λ r=>(Bs n wr ps ys r).map λ w=>(w,r)
def qak8(n:Int)(wr:Bool)(ps:Pr)(ys:Ds):D:=match qT6 n wr ps ys with
 | some (w,r)=>.q [.str w,.int (r:Nat)]
 | none=>if qm3 n wr ps ys=true then .q [.str "turned",.int 0] else .non
theorem qC8{n:Int}{wr:Bool}{ps:Pr}(c:ys[r]? = some v)(h:Bs n wr ps ys r=none):v=.non∨∃ k,v=.int k/\Al k/\Av n wr ps k (r:Nat)≠none:=by
 have d:atD ys r=v:=by unfold atD;rw[c];rfl
 unfold Bs at h;rw[d] at h;cases v with
 | non=>exact .inl rfl
 | int k =>
   have h:(if (D.int k).num=true then (if (ys.take r).any (qu7 k)=true then (some "twice" : Option Str) else match Av n wr ps k (r:Int) with
     | none=>some "home"
     | some f=>if f=0 then none else Gj n wr ps (Row.prev n.toNat r) (atD ys (Row.prev n.toNat r)) k) else some "key")=(none:Option Str):=h
   by_cases a:(D.int k).num=true
   . rw[if_pos a] at h
     obtain⟨i,e,b⟩:=qB2 a;cases e;refine .inr ⟨k,rfl,b,λ g=>?_⟩;rw[g] at h;split at h<;>cases h
   rw[if_neg a] at h;cases h
 | _=>cases h
theorem qF8{α:Type}{r:Nat}{f:Nat->Option α}{a:α}:∀{N:Nat},r < N->(∀ i,i < r->f i=none)->f r=some a->(List.range N).findSome? f=some a
 | 0,hr,_,_=>absurd hr (Nat.not_lt_zero _)
 | N+1,hr,h0,h=>by
   rw[List.range_succ,List.findSome?_append];by_cases b:r < N
   . rw[qF8 b h0 h];rfl
   have e:r=N:=by lia
   subst e;rw[List.findSome?_eq_none_iff.mpr λ i c=>h0 i (zAp.mp c)];show [r].findSome? f=_;rw[List.findSome?_cons,h]
theorem qO7{f:Nat->Option α}(a:∀ i,i < N->f i=none):(List.range N).findSome? f=none:=List.findSome?_eq_none_iff.mpr λ i b=>a i (zAp.mp b)
def qR5(C:γ):VSp:=Aw λ ds d=>∃ z n wr ps z' ys,ds=[Ad z C n wr ps,.l z' ys]/\1<=n/\n<=64/\ys.length=n.toNat/\(∀ y∈ys,∃ t,y.kind=some t)/\D.imms ys=true/\d=qak8 n wr ps ys
theorem qS5(T:Txt K mg a):VFn P w K mg base 9 a.f18 a.d18 ["plan", "rooms"] (qR5 a.Ca):=by
 refine VFn.mk2 T.d18.F qo3 (wOf [true,true]) qb2 (λ o Q M h=>by obtain⟨d,⟨z,n,wr,f,g,c,e,_⟩,_⟩:=h;rw[e];exact⟨rfl,rfl⟩) (λ N A outer Z H E av B=>⟨_,(Ab (sif (tor (Bh (tv (vbi qg2 qv4.ops T.Cc (qa0 (vnm 1) (qa0 (vty "list" T.D0) qa6 rfl) rfl)))) (Ib (q2 (Aq (qY1 B.u64) (qb1 _)) Ia (vbi qr9 qr8.ops T.Cu (qa0 (vnm 1) qa6 rfl)) (Bn rfl (vnm 0) T.Ce.cl T.Cg)))).te
     (Ag (An (qa4 (Fx (qa0 Bk (qa0 Af qa6 rfl) rfl)))))
     At)
     (Ab (qS0 PassesOwn.leaving T.D1 (G0 (vaV (qb8 (Bn rfl (vnm 0) T.Ce.cl T.Cg)) Ac)) (Bc 2 qo3.nd)
     (Ab (Ak 3 qo3.nd (Ah T.d16 (qS3 T) qa2 (rm B) (vaN 0 (vaN 1 (vaN 2 Ac)))))
     (Ag (sif (q2 (Aq qr2 (qb1 _)) qu0 (vnm 3) A7)
     (Ag (An (qa4 (Fx (qa0 (vnm 3) (qa0 (vnm 2) qa6 rfl) rfl)))))
     At))))
     (Ag (An (eif (te (Ah T.d17 (qJ9 T) qa2 (rm B) (vaN 0 (vaN 1 Ac)))) (qa4 (Fx (qa0 Bk (qa0 Af qa6 rfl) rfl))) (qa4 A7)))))),λ o Q M h=>?_⟩)
 obtain⟨d,⟨z,n,wr,f,g,c,rfl,J,O,C,G,S,rfl⟩,q⟩:=h;refine As [Ad z a.Ca n wr f,.l g c,.u,.u] rfl ?_;have s:f2 gNe (Ba (fx1 Im) (A9 (rdN 1) λ _=>some [])) (f1 (D.fld a.Ca "rooms") (rdN 0)) [Ad z a.Ca n wr f,.l g c,.u,.u]=some (.bl false):=Ae (qu6 rfl) (A8 rfl qe0) (by
   show some (D.bl (!((c.length:Nat):Int) == n))=_;rw[show ((c.length:Nat):Int)=n by lia,zAv];rfl)
 refine qg1 false (λ Q q=>qh1 false false (λ Q q=>qh9 (qaa9 rfl) q) (λ _ Q q=>qh0 s q) q) (λ h=>nomatch h) λ _=>?_
 refine qc9 (λ o=>(∀ i,i < n.toNat->Bs n wr f c i=none)/\∃ d t,o=[Ad z a.Ca n wr f,.l g c,d,t]) (λ K p=>?_) ?_
 . refine qL1 (A8 rfl qe0) (qT1 (by lia) (by lia)) ?_
   refine qf2 (λ i o=>(∀ j,j < i->Bs n wr f c j=none)/\∃ d t,o=[Ad z a.Ca n wr f,.l g c,d,t]) _ 0 _ ⟨λ j u=>absurd u (Nat.not_lt_zero _),_,_,rfl⟩ ?_ ?_
   . rintro j x U o ⟨l,d,t,rfl⟩ K p
     rw[zAr] at l p;obtain⟨u,rfl⟩:=qW9 U;have R:Rm n c j:=⟨C,G,S,λ i y m V=>by
       rcases qC8 V (l i m) with h | ⟨k,W,X,_⟩
       . exact .inl h
       exact .inr ⟨k,W,X⟩⟩
     refine qb0 [Ad z a.Ca n wr f,.l g c,.int (j:Nat),Il (Bs n wr f c j)] (λ K p=>qZ4 (x:=Ad z a.Ca n wr f) (y:=.l g c) (w:=.int (j:Nat)) rfl rfl rfl rfl rfl ⟨z,n,wr,f,g,c,j,rfl,J,u,R,rfl⟩ rfl p) ?_;cases e:Bs n wr f c j with
     | none =>
       refine if_v (b:=false) rfl (λ h=>nomatch h) λ _=>p _ ⟨λ i m=>?_,_,_,rfl⟩
       rcases Nat.lt_succ_iff_lt_or_eq.mp m with h | rfl
       . exact l i h
       exact e
     | some w =>
       have I:qT6 n wr f c=some (w,j):=qF8 u (λ i m=>by rw[l i m];rfl) (by rw[e];rfl);have q:Q (match qT6 n wr f c with | some (w,r)=>.q [.str w,.int (r:Nat)] | none=>if qm3 n wr f c=true then .q [.str "turned",.int 0] else .non) [Ad z a.Ca n wr f,.l g c]:=q;rw[I] at q;exact if_v (b:=true) rfl (λ _=>q) λ h=>nomatch h
   rintro o ⟨l,Y⟩;refine p _ ⟨λ i m=>l i ?_,Y⟩;unfold Fk;rw[zA8,zBa,zAr];exact m
 rintro o ⟨l,d,t,rfl⟩;have I:qT6 n wr f c=none:=qO7 λ i m=>by rw[l i m];rfl
 have q:Q (match qT6 n wr f c with | some (w,r)=>.q [.str w,.int (r:Nat)] | none=>if qm3 n wr f c=true then .q [.str "turned",.int 0] else .non) [Ad z a.Ca n wr f,.l g c]:=q;rw[I] at q;refine qi6 ?_;refine qx5 (x:=Ad z a.Ca n wr f) (y:=.l g c) (d:=.bl (qm3 n wr f c)) rfl rfl rfl ⟨z,n,wr,f,g,c,rfl,J,O,C,λ i v L=>qC8 L (l i (by rw[<- C];exact(zA6.mp L).1)),rfl⟩ rfl ?_;refine qa1 (a:=qm3 n wr f c) rfl (ite_b (λ h=>?_) λ h=>?_)
 . have q:Q (if qm3 n wr f c=true then .q [.str "turned",.int 0] else .non) [Ad z a.Ca n wr f,.l g c]:=q
   rw[if_pos h] at q;exact q
 have q:Q (if qm3 n wr f c=true then .q [.str "turned",.int 0] else .non) [Ad z a.Ca n wr f,.l g c]:=q;rw[if_neg (by rw[h];decide)] at q;exact q
theorem qo4:qa9 ["self", "plan", "rooms", "held", "fault"] ["self", "plan", "rooms"] (qa3 qt5):=by walk_at "s"
theorem qaA4{g:Nat->Option Int}(h:r < N):atD (Mu N g) r=Ge (g r):=by unfold atD;rw[qF4 h];rfl
theorem qaB4{g:Nat->Option Int}(h:r<=N):(Mu N g).take r=Mu r g:=by
 unfold Mu;rw[<- List.map_take,List.take_range,Nat.min_eq_left h]
theorem qaU9{g:Nat->Option Int}:(Mu r g).any (qu7 k)=true↔∃ j,j < r/\g j=some k:=by
 unfold Mu;rw[List.any_map,List.any_eq_true];constructor
 . rintro⟨j,a,e⟩
   refine⟨j,zAp.mp a,?_⟩;have e:qu7 k (Ge (g j))=true:=e;cases h:g j with
   | none=>rw[h] at e;cases e
   | some x=>rw[h] at e;rw[zAa (show decide (x=k)=true from e)]
 rintro⟨j,a,e⟩;refine⟨j,zAp.mpr a,?_⟩;show qu7 k (Ge (g j))=true;rw[e];exact zA9 rfl
theorem qaA7{n:Int}{wr:Bool}{ps:Pr}{g:Nat->Option Int}(a:r < n.toNat)(b:g r=some k)(c:Al k):Bs n wr ps (Mu n.toNat g) r=(if (Mu r g).any (qu7 k)=true then (some "twice" : Option Str) else match Av n wr ps k (r:Int) with
   | none=>some "home"
   | some f=>if f=0 then none else Gj n wr ps (Row.prev n.toNat r) (Ge (g (Row.prev n.toNat r))) k):=by
 unfold Bs;rw[qaA4 a,qaA4 (Row.ql0 a),qaB4 (Nat.le_of_lt a),b];show (if (D.int k).num=true then _ else _)=_;rw[if_pos (qp2 c)]
 try rfl
theorem qaL3(h:ys[i]? = some v):D.q [.int (i:Nat),v]∈enD ys:=zB8.mpr ⟨(v,i),List.mem_zipIdx_iff_getElem?.mpr h,rfl⟩
theorem qaa4{n:Int}{wr:Bool}{ps:Pr}{g:Nat->Option Int}(m:1<=n)(KP:Kept n.toNat wr (Mq n ps) g S)(t:∀ k∈S,Al k):qak8 n wr ps (Mu n.toNat g)=.non:=by
 have p:∀{i k},i < n.toNat->g i=some k->Al k:=λ{i k} l h=>t k ((KP.h.2 k).mpr ⟨i,l,h⟩)
 have b:qT6 n wr ps (Mu n.toNat g)=none:=qO7 λ r d=>by
   have:Bs n wr ps (Mu n.toNat g) r=none:=by
     cases a:g r with
     | none=>unfold Bs;rw[qaA4 d,a];rfl
     | some k =>
       have q:=Row.ql0 d;rw[qaA7 d a (p d a),if_neg (λ z=>by
         obtain⟨j,A,e⟩:=qaU9.mp z
         have:=KP.o.inj j r k (by lia) d e a
         lia),qP1 m d (λ b=>KP.ln b r k d a)]
       show (if ((Aa n.toNat (Mq n ps k) r:Nat):Int)=0 then none else _)=_;by_cases B:Aa n.toNat (Mq n ps k) r=0
       . rw[if_pos (by lia)]
       obtain⟨x,s,u⟩:=KP.o.ord r k d a (by lia);rw[if_neg (by lia),s];show (if (D.int x).num=true then (if qf5 n wr ps (Row.prev n.toNat r:Nat) x k=true then (none:Option Str) else some "order") else none)=none;have v:=Gu (ps:=ps) m k;rw[if_pos (qp2 (p q s)),if_pos ((qC7 (ps:=ps) m q (λ b=>KP.ln b _ x q s) (λ b=>by
         have C:=KP.ln b r k d a;have E:=dor n.toNat (Mq n ps k) r;have F:=por n.toNat r
         lia)).mpr u)]
   rw[this];rfl
 have w:qm3 n wr ps (Mu n.toNat g)=false:=by
   obtain⟨i,l,y⟩:=KP.c;refine List.all_eq_false.mpr ⟨_,qaL3 (qF4 l),?_⟩;cases a:g i with
   | none=>exact λ h=>by cases h
   | some k =>
     show ¬ (match Av n wr ps k (i:Nat) with | some f=>decide (0 < f) | none=>false)=true;rw[qP1 m l (λ b=>KP.ln b i k l a),(qf6 (Gu m k) l).mpr (y k a).symm];exact λ h=>by cases h
 unfold qak8;rw[b,w];rfl
def Mt(zr:Bool)(C CP:γ)(n:Int)(wr:Bool)(ps:Pr)(g:Nat->Option Int)(dn:Ds):D:=.ins zr C [("plan",Ad true CP n wr ps),("held",.l zr (Mu n.toNat g)),("done",.l zr dn)]
section
variable{zr:Bool}{C CP:γ}{n:Int}{wr:Bool}{ps:Pr}{g:Nat->Option Int}{dn:Ds}
theorem qM6:D.fld C "plan" (Mt zr C CP n wr ps g dn)=some (Ad true CP n wr ps):=qF7 (by rfl)
theorem qs1:D.fld C "held" (Mt zr C CP n wr ps g dn)=some (.l zr (Mu n.toNat g)):=qF7 (by rfl)
theorem qn3(h:([("plan",Ad true CP n wr ps),("held",.l zr (Mu n.toNat g)),("done",.l zr dn)]:List (Str×D)).lookup m=none):(Mt zr C CP n wr ps g dn).isM C m=true:=qap9 h
end
theorem qP0{zr:Bool}{C CP:γ}{n:Int}{wr:Bool}{ps:Pr}{g:Nat->Option Int}{dn:Ds}:D.fidx C "held" (Mt zr C CP n wr ps g dn)=some 1:=by
 show (if C=C then List.findIdx? (λ q:Str×D=>("held" : Str) == q.1) [("plan",Ad true CP n wr ps),("held",.l zr (Mu n.toNat g)),("done",.l zr dn)] else none)=_;rw[if_pos rfl];rfl
theorem qaU3{p:List Nat}{w:V}{d0:D}(h:A5 ds i p=some (.hole w)):bk1 i p w d0 ds=some (Bb ds i p d0):=by
 unfold bk1 Ap;rw[h];simp only[if_true];unfold Ap;rfl
theorem qay4{C:γ}{f:Str}{pf:PF}(h:te ds (λ d ds1=>orF (pf ds1) λ q=>orF ((A5 ds1 q.1 q.2).bind (D.ownI C)) λ fs=>fs.length < 100/\e.nx (Bb ds1 q.1 q.2 (.ins false C (Gy f d fs)))) e.xe):sFldV C f te pf e ds:=h
theorem mv_to(h:rdN i ds=some d)(q:Q d (ds.set i .u)):tMv i ds Q xe:=qa1 h q
def qR7(C CP:γ):VSp:=λ ds Q _=>∃ n wr ps r g S,ds=[.ins false C [],Ad true CP n wr ps,r]/\1<=n/\n<=64/\(∀ k∈S,Al k)/\Kept n.toNat wr (Mq n ps) g S/\(r=.non/\g=(λ _=>none)∨∃ z,r=.l z (Mu n.toNat g))/\Q .non [Mt false C CP n wr ps g [],Ad true CP n wr ps,r]
theorem qS7(T:Txt K mg a):VFn P w K mg base 10 a.f23 a.d23 ["self", "plan", "rooms"] (qR7 a.Cb a.Ca):=by
 refine VFn.mkE T.d23.F qo4 (wOf [true,true,true]) (λ j Q Q' l p s _ h=>by obtain⟨n,wr,c,r,g,S,e,t,u,v,B,C,q⟩:=h;exact⟨n,wr,c,r,g,S,e,t,u,v,B,C,s _ _ q⟩) (λ j Q l h=>by obtain⟨n,wr,c,r,g,S,e,_⟩:=h;rw[e];rfl) (λ j Q l h=>by obtain⟨n,wr,c,r,g,S,e,_⟩:=h;rw[e];rfl) (λ D A outer L H E M i=>⟨_,(Ab (sif (Bh (tv (vbi (qaz9 T.F4 T.Ce.cl) qaU0.ops T.Cc (qa0 (vnm 1) (qa0 (vcls a.Ca T.Ce.m) qa6 rfl) rfl))))
     (Ag qo0)
     At)
     (Ab (sif (tand (q2 (Aq qr2 (qb1 _)) qu0 (vnm 2) A7) (K5 (Bh (tv (vbi qg2 qv4.ops T.Cc (qa0 (vnm 2) (qa0 (vty "list" T.D0) qa6 rfl) rfl)))))).te
     (Ag qo0)
     At)
     (Ab (Ak 3 qo4.nd (eif (q2 (Aq Fc (qb1 _)) Fp (vnm 2) A7) (qa4 (v2 (Aj qw7) qw6 (B8 (qa0 A7 qa6 rfl)) (Bn rfl (vnm 1) T.Ce.cl T.Cg))) (qa4 (Ir qi9 qP8.ops T.D0 (qa0 (vnm 2) qa6 rfl)))))
     (Ab (Ak 4 qo4.nd (Ah T.d18 (qS5 T) qa2 (rm i) (vaN 1 (vaN 3 Ac))))
     (Ab (sif (q2 (Aq qr2 (qb1 _)) qu0 (vnm 4) A7)
     (Ag qo0)
     At)
     (Ab (Iw rfl (vpn 0) (qb8 (vnm 1)) T.Ch.cl T.D4)
     (Ab (Iw rfl (vpn 0) (emv 3) T.Ch.cl T.Ci)
     (Ag (Iw rfl (vpn 0) (qa4 (B8 qa6)) T.Ch.cl T.E2))))))))),λ j Q l h=>?_⟩)
 obtain⟨n,wr,c,r,g,S,rfl,o,G,I,KP,i,q⟩:=h;have N:r.known=true:=by
   rcases i with⟨rfl,_⟩ | ⟨z,rfl⟩<;>rfl
 refine As [.ins false a.Cb [],Ad true a.Ca n wr c,r,.u,.u] rfl ?_;refine qaJ9 (show gIsO a.Ca (Ad true a.Ca n wr c) (.adr a.Ca)=some (.bl true) from qax8) ?_;refine qg1 false (λ Q q=>?_) (λ h=>(nomatch h)) λ _=>?_
 . rcases i with⟨rfl,_⟩ | ⟨z,rfl⟩
   . exact qs5 false false (λ Q q=>qh0 (b:=false) (Ae rfl rfl rfl) q) (λ h=>(nomatch h)) q
   exact qs5 true false (λ Q q=>qh0 (b:=true) (Ae rfl rfl rfl) q) (λ _ Q q=>qh9 (b:=true) (qaa9 rfl) q) q
 refine qb0 [.ins false a.Cb [],Ad true a.Ca n wr c,r,.l false (Mu n.toNat g),.u] (λ K f=>qh8 ?_) ?_
 . rcases i with⟨rfl,rfl⟩ | ⟨z,rfl⟩
   . exact Hh (b:=true) (Ae rfl rfl rfl) (λ _=>qr4 (Ae rfl (A8 rfl qe0) (qY6 (by lia) G)) f) λ h=>(nomatch h)
   exact Hh (b:=false) (Ae rfl rfl rfl) (λ h=>(nomatch h)) λ _=>qr4 (d:=.l false (Mu n.toNat g)) (show K4 (.l z (Mu n.toNat g))=_ from qm0 (qy4 _ _)) f
 refine qb0 [.ins false a.Cb [],Ad true a.Ca n wr c,r,.l false (Mu n.toNat g),.non] (λ K f=>qh8 ?_) ?_
 . refine qx5 (x:=Ad true a.Ca n wr c) (y:=.l false (Mu n.toNat g)) (d:=qak8 n wr c (Mu n.toNat g)) rfl rfl rfl ⟨true,n,wr,c,false,Mu n.toNat g,rfl,o,by lia,qq6 _ _,λ y J=>?_,qy4 _ _,rfl⟩ rfl ?_
   . rcases qah6 J with rfl | ⟨k,rfl⟩
     . exact⟨_,rfl⟩
     exact⟨_,rfl⟩
   rw[qaa4 o KP I];exact f
 refine qg1 false (λ Q q=>qh0 (b:=false) (Ae rfl rfl rfl) q) (λ h=>(nomatch h)) λ _=>?_
 refine qb0 [.ins false a.Cb [("plan",Ad true a.Ca n wr c)],Ad true a.Ca n wr c,r,.l false (Mu n.toNat g),.non] (λ K f=>qay4 (qu9 (d:=Ad true a.Ca n wr c) rfl rfl (qa1 (a:=(0,[])) rfl (qa1 qi7 ⟨by decide,f⟩)))) ?_;refine qb0 [.ins false a.Cb [("plan",Ad true a.Ca n wr c),("held",.l false (Mu n.toNat g))],Ad true a.Ca n wr c,r,.u,.non] (λ K f=>qay4 (mv_to (d:=.l false (Mu n.toNat g)) rfl (qa1 (a:=(0,[])) rfl (qa1 qi7 ⟨by show 1 < 100;decide,f⟩)))) ?_;exact qay4 (qr4 (d:=.l false []) rfl (qa1 (a:=(0,[])) rfl (qa1 qi7 ⟨by show 2 < 100;decide,q⟩)))
theorem qD8:qa9 ["self", "key"] ["self", "key"] (qa3 ql7):=by walk_at "s"
theorem qE6(T:Txt K mg a):Gc P w K mg base CX0 1 a.f2 a.d2 ["self", "key"] (spX1 a.Cf "key"):=by
 refine T.d2.F.ok qD8 (λ b H Q E h=>?_) (λ c A outer s H b Q E j h=>?_)
 . obtain⟨e,v,rfl,_⟩:=h
   rfl
 obtain⟨e,v,rfl,d,k⟩:=h;exact⟨_,(qM8 (qao6 (pv 0) (pv 1))),_,rfl,_,rfl,e,a.Cf,rfl,T.Dx,T.Dh,.inl ⟨d,λ f g i=>k f g i⟩⟩
theorem qA0:qa9 ["self", "room"] ["self", "room"] (qa3 qj1):=by walk_at "s"
theorem qB0(T:Txt K mg a):Gc P w K mg base CX0 1 a.f1 a.d1 ["self", "room"] (spX1 a.Cd "room"):=by
 refine T.d1.F.ok qA0 (λ b H Q E h=>?_) (λ c A outer s H b Q E j h=>?_)
 . obtain⟨e,v,rfl,_⟩:=h
   rfl
 obtain⟨e,v,rfl,d,k⟩:=h;exact⟨_,(qM8 (qao6 (pv 0) (pv 1))),_,rfl,_,rfl,e,a.Cd,rfl,T.Db,T.D2,.inl ⟨d,λ f g i=>k f g i⟩⟩
theorem qI6:qa9 ["plan", "keys", "room"] ["plan", "keys", "room"] (qa3 qo8):=by walk_at "s"
def qH8(C:γ):VSp:=Aw λ ds d=>∃ z n wr ps z' ks r,ds=[Ad z C n wr ps,.l z' (Ms ks),.int r]/\1<=n/\(∀ k∈ks,Al k)/\ks.length<=1000/\d=.bl (if wr=true then decide (r=0)&&decide (n < (ks.length:Int)) else decide (n - r < ((ks.filter λ k=>decide (r<=qb9 n ps k)).length:Int)))
theorem qK0(T:Txt K mg a):VFn P w K mg base 5 a.f19 a.d19 ["plan", "keys", "room"] (qH8 a.Ca):=by
 refine VFn.mk2 T.d19.F qI6 (wOf [true,true,true]) qb2 (λ u Q v h=>by obtain⟨d,⟨z,n,wr,b,g,c,r,e,_⟩,_⟩:=h;rw[e];exact⟨rfl,rfl⟩) (λ B A outer M H E i o=>⟨_,(Ab (sif (tv (Bn rfl (vnm 0) T.Ce.cl T.Cp))
     (Ag (An (qa4 (K6 (v2 (Ax (qj6 o.u64) (qb1 _)) Bf (vnm 2) Af) (Iq (v2 (Ax Bu (qb1 _)) Bz (vbi qr9 qr8.ops T.Cu (qa0 (vnm 1) qa6 rfl)) (Bn rfl (vnm 0) T.Ce.cl T.Cg)))))))
     At)
     (Ag (An (e2v (Ax Bu (qb1 _)) Bz (ebi qr9 qr8.ops T.Cu (G0 (vaV (ecN (NY:=["key", "room", "plan"]) (src:=[none,some 2,some 0]) 1 (blk (λ i C s H0 t=>(Bc 0 (show (["key", "room", "plan"]:List Str).Nodup by decide +kernel))) (λ i C s H0 t=>(Ii (q2v (Ax Gs (qb1 _)) (Aq Gs (qb1 _)) Hy (qp9 2 T.d11 T.Ce.cl (ql8 T) qp5 (rm o) (vaN 0 Ac)) (vnm 1)))) (λ i C s H0 t=>(qb8 (vnm 0))))) Ac))) (v2 (Aj qm7) qm6 (Bn rfl (vnm 0) T.Ce.cl T.Cg) (vnm 2)))))),λ u Q v h=>?_⟩)
 obtain⟨d,⟨z,n,wr,b,g,c,r,rfl,G,I,N,rfl⟩,q⟩:=h;refine As [Ad z a.Ca n wr b,.l g (Ms c),.int r] rfl ?_;refine qg8 wr (A8 rfl qC1) (λ h=>?_) λ h=>?_
 . rw[if_pos h] at q
   have j:f2 gGt (Ba (fx1 Im) (A9 (rdN 1) λ _=>some [])) (f1 (D.fld a.Ca "rooms") (rdN 0)) [Ad z a.Ca n wr b,.l g (Ms c),.int r]=some (.bl (decide (n < (c.length:Int)))):=Ae (qu6 rfl) (A8 rfl qe0) (by rw[qh4];rfl);exact qg5 _ (qP2 (a:=decide (r=0)) rfl j) q
 rw[if_neg (by rw[h];decide)] at q;refine qi6 ?_;refine⟨qj9 c,?_⟩;refine qk2 (λ ι=>∃ d,ι=[d,.int r,Ad z a.Ca n wr b]) (G2 λ k=>decide (r<=qb9 n b k)) (Ms c) [] _ (by show 0+(Ms c).length < big;rw[qh4];unfold big;lia) ⟨_,rfl⟩ ?_ ?_
 . rintro y J ι l ⟨d,rfl⟩ R L f
   obtain⟨k,m,rfl⟩:=zB8.mp J;refine qT3 (p:=Ad z a.Ca n wr b) (x:=.int k) (d:=.int (qb9 n b k)) rfl (qg0 rfl) rfl rfl ⟨z,n,wr,b,k,rfl,G,I k m,rfl⟩ rfl ?_;have this:=L _ ⟨.int k,rfl⟩;refine qa1 (a:=D.bl (decide (r<=qb9 n b k))) rfl (qa1 (a:=decide (r<=qb9 n b k)) rfl (ite_b (λ h=>?_) λ h=>?_))
   . rw[qaa5 (p:=λ k=>decide (r<=qb9 n b k)) h] at this
     exact⟨rfl,f,this⟩
   rw[qaa6 (p:=λ k=>decide (r<=qb9 n b k)) h] at this;have this:R (l++[]) _:=this;rw[zAf] at this;exact this
 rintro ι ⟨d,rfl⟩;rw[zB6,qB8];refine qa1 (a:=D.bl (decide (n - r < ((c.filter λ k=>decide (r<=qb9 n b k)).length:Int)))) ?_ q;show (f2 gSub (f1 (D.fld a.Ca "rooms") (rdN 0)) (rdN 2) [Ad z a.Ca n wr b,.l g (Ms c),.int r]).bind (gGt (D.int ((Ms (c.filter λ k=>decide (r<=qb9 n b k))).length:Nat)))=_;rw[Ae (A8 rfl qe0) rfl rfl,qh4];rfl
theorem qk9:qa9 ["plan", "keys", "room"] ["plan", "keys"] (qa3 qi3):=by walk_at "s"
def qC5(n:Int)(wr:Bool)(ps:Pr)(ks:List Int)(r:Int):Bool:=if wr=true then decide (r=0)&&decide (n < (ks.length:Int)) else decide (n - r < ((ks.filter λ k=>decide (r<=qb9 n ps k)).length:Int))
def qz0(n:Int)(wr:Bool)(ps:Pr)(ks:List Int):Option Nat:=(List.range n.toNat).find? λ r=>qC5 n wr ps ks (r:Int)
noncomputable def natD:Option Nat->D
 | none=>.non
 | some k=>.int (k:Int)
def qw0(C:γ):VSp:=Aw λ ds d=>∃ z n wr ps z' ks,ds=[Ad z C n wr ps,.l z' (Ms ks)]/\1<=n/\n<=64/\(∀ k∈ks,Al k)/\ks.length<=1000/\d=natD (qz0 n wr ps ks)
theorem qx0(T:Txt K mg a):VFn P w K mg base 6 a.f20 a.d20 ["plan", "keys"] (qw0 a.Ca):=by
 refine VFn.mk2 T.d20.F qk9 (wOf [true,true]) qb2 (λ g Q s h=>by obtain⟨d,⟨z,n,wr,c,m,f,e,_⟩,_⟩:=h;rw[e];exact⟨rfl,rfl⟩) (λ t A outer I H E J u=>⟨_,(Ab (qS0 PassesOwn.leaving T.D1 (G0 (vaV (qb8 (Bn rfl (vnm 0) T.Ce.cl T.Cg)) Ac)) (Bc 2 qk9.nd)
     (Ag (sif (te (Ah T.d19 (qK0 T) qa2 (rm u) (vaN 0 (vaN 1 (vaN 2 Ac)))))
     (Ag (An (emv 2)))
     At)))
     (Ag (An (qa4 A7)))),λ g Q s h=>?_⟩)
 obtain⟨d,⟨z,n,wr,c,m,f,rfl,v,L,B,C,rfl⟩,q⟩:=h;refine As [Ad z a.Ca n wr c,.l m (Ms f),.u] rfl ?_;refine qc9 (λ g=>(∀ i,i < n.toNat->qC5 n wr c f (i:Int)=false)/\∃ d,g=[Ad z a.Ca n wr c,.l m (Ms f),d]) (λ K o=>?_) ?_
 . refine qL1 (A8 rfl qe0) (qT1 (by lia) (by lia)) ?_
   refine qf2 (λ i g=>(∀ j,j < i->qC5 n wr c f (j:Int)=false)/\∃ d,g=[Ad z a.Ca n wr c,.l m (Ms f),d]) _ 0 _ ⟨λ j p=>absurd p (Nat.not_lt_zero _),_,rfl⟩ ?_ ?_
   . rintro j x D g ⟨k,d,rfl⟩ K o
     rw[zAr] at k o;obtain⟨p,rfl⟩:=qW9 D;refine if_e (b:=qC5 n wr c f (j:Int)) (λ Q s q=>qZ4 (x:=Ad z a.Ca n wr c) (y:=.l m (Ms f)) (w:=.int (j:Int)) rfl rfl rfl rfl rfl ⟨z,n,wr,c,m,f,_,rfl,v,B,C,rfl⟩ rfl q) (λ r=>?_) (λ r=>?_)
     . have e:qz0 n wr c f=some j:=List.find?_range_eq_some.mpr ⟨r,zAp.mpr p,λ i l=>by rw[k i l];rfl⟩
       rw[e] at q;exact q
     refine o _ ⟨λ i l=>?_,_,rfl⟩;rcases Nat.lt_succ_iff_lt_or_eq.mp l with h | rfl
     . exact k i h
     exact r
   rintro g ⟨k,G⟩;refine o _ ⟨λ i l=>k i ?_,G⟩;unfold Fk;rw[zA8,zBa,zAr];exact l
 rintro g ⟨k,d,rfl⟩;have e:qz0 n wr c f=none:=List.find?_range_eq_none.mpr λ i l=>by rw[k i l];rfl
 rw[e] at q;exact q
theorem qk8:qa9 ["plan", "keys", "room"] ["plan", "keys"] (qa3 qi1):=by walk_at "s"
def qY4(n:Int)(wr:Bool)(ps:Pr)(ks:List Int):Prop:=∀ r:Nat,r < n.toNat->qC5 n wr ps ks (r:Int)=false
theorem qC4{n:Int}{wr:Bool}{ps:Pr}(h1:1<=n)(a:r < n.toNat):qC5 n wr ps ks (r:Int)=true↔Crowd n.toNat wr (Mq n ps) ks r:=by
 unfold qC5 Crowd;cases wr with
 | true =>
   simp only[if_true,zB9,zBh];lia
 | false =>
   have e:(ks.filter λ k=>decide ((r:Int)<=qb9 n ps k))=ks.filter λ k=>decide (r<=Mq n ps k):=by
     apply List.filter_congr;intro k _
     have:=qy6 (ps:=ps) h1 k
     apply zBz.mpr;lia
   simp only[Bool.false_eq_true,if_false,e,zBh];lia
theorem qY4.no{n:Int}{wr:Bool}{ps:Pr}(h:qY4 n wr ps ks)(h1:1<=n)(q:Nat):¬ Crowd n.toNat wr (Mq n ps) ks q:=λ z=>by
 have:=h q z.1
 rw[(qC4 h1 z.1).mpr z] at this;cases this
def qv8(C CN:γ):VSp:=λ ds Q xe=>∃ z n wr ps z' ks,ds=[Ad z C n wr ps,.l z' (Ms ks)]/\1<=n/\n<=64/\(∀ k∈ks,Al k)/\ks.length<=1000/\(qY4 n wr ps ks->Q .non ds)/\(∀ r:Nat,Crowd n.toNat wr (Mq n ps) ks r->xe ⟨CN,[("room",.int (r:Nat))]⟩ ds)
theorem qw8(T:Txt K mg a):VFn P w K mg base 7 a.f21 a.d21 ["plan", "keys"] (qv8 a.Ca a.Cd):=by
 refine VFn.mk2 T.d21.F qk8 (wOf [true,true]) (λ m Q Q' o p s t h=>by obtain⟨z,n,wr,f,i,g,e,k,l,u,v,B,C⟩:=h;exact⟨z,n,wr,f,i,g,e,k,l,u,v,λ c=>s _ _ (B c),λ r c=>t _ _ (C r c)⟩) (λ m Q o h=>by obtain⟨z,n,wr,f,i,g,e,_⟩:=h;rw[e];exact⟨rfl,rfl⟩) (λ D A outer N H E O j=>⟨_,(Ab (Ak 2 qk8.nd (Ah T.d20 (qx0 T) qa2 (rm j) (vaN 0 (vaN 1 Ac))))
     (Ag (sif (q2 (Aq qr2 (qb1 _)) qu0 (vnm 2) A7)
     (Ag (qaB9 T.Ei (qB0 T) (rm j) T.Du T.d1.b qa2 (qb8 (vnm 2))))
     At))),λ m Q o h=>?_⟩)
 obtain⟨z,n,wr,f,i,g,rfl,k,l,G,I,q,J⟩:=h;refine As [Ad z a.Ca n wr f,.l i (Ms g),.u] rfl ?_;refine qb0 [Ad z a.Ca n wr f,.l i (Ms g),natD (qz0 n wr f g)] (λ K L=>?_) ?_
 . exact qx5 (x:=Ad z a.Ca n wr f) (y:=.l i (Ms g)) (d:=natD (qz0 n wr f g)) rfl rfl rfl ⟨z,n,wr,f,i,g,rfl,k,l,G,I,rfl⟩ rfl L
 cases e:qz0 n wr f g with
 | none=>exact if_v (b:=false) rfl (λ h=>nomatch h) λ _=>q λ r j=>by simpa using List.find?_range_eq_none.mp e r j
 | some r =>
   have M:=List.find?_some e;have j:=zAp.mp (List.mem_of_find?_eq_some e);refine if_v (b:=true) rfl (λ _=>?_) λ h=>nomatch h
   exact qu9 (d:=.int (r:Nat)) rfl rfl ⟨rfl,J r ((qC4 k j).mp M)⟩
theorem qf7:qa9 ["plan", "rooms", "key", "came", "room", "held"] ["plan", "rooms", "key"] (qa3 qt4):=by walk_at "s"
inductive Bi(n:Int)(wr:Bool)(ps:Pr):Nat->(Nat->Option Int)->Int->Nat->List (Int×Nat)->(Nat->Option Int)->Prop
 | stop {g:Nat->Option Int} {c:Int} {r:Nat} (hr:r < n.toNat) (h:g r=none):Bi n wr ps 1 g c r [(c,r)] (Row.set g r c)
 | swap {m:Nat} {g g':Nat->Option Int} {c y:Int} {r:Nat} {l:List (Int×Nat)} (hr:r < n.toNat) (h:g r=some y) (ha:qf5 n wr ps (r:Nat) c y=true) (z:Bi n wr ps m (Row.set g r c) y (Row.next n.toNat r) l g'):Bi n wr ps (m+1) g c r ((c,r)::l) g'
 | on {m:Nat} {g g':Nat->Option Int} {c y:Int} {r:Nat} {l:List (Int×Nat)} (hr:r < n.toNat) (h:g r=some y) (ha:qf5 n wr ps (r:Nat) c y=false) (z:Bi n wr ps m g c (Row.next n.toNat r) l g'):Bi n wr ps (m+1) g c r l g'
noncomputable def Mv(a:List (Int×Nat)):Ds:=a.map λ q=>.q [.int q.1,.int (q.2:Nat)]
theorem qad5(a:List (Int×Nat))(c:Int)(r:Nat):Mv a++[.q [.int c,.int (r:Nat)]]=Mv (a++[(c,r)]):=by unfold Mv;rw[zBe];rfl
def qR6(C:γ):VSp:=λ ds Q _=>∃ z n wr ps g S key,ds=[Ad z C n wr ps,.l false (Mu n.toNat g),.int key]/\1<=n/\n<=64/\Al key/\(∀ k∈S,Al k)/\Kept n.toNat wr (Mq n ps) g S/\¬ key∈S/\(∃ e,Free n.toNat wr (Mq n ps) g key e) /\
 ∀ m a g',m<=64->a.length<=64->Bi n wr ps m g key (Mq n ps key) a g'->Kept n.toNat wr (Mq n ps) g' (S++[key])->Q (.l false (Mv a)) [Ad z C n wr ps,.l false (Mu n.toNat g'),.int key]
theorem qS6(T:Txt K mg a):VFn P w K mg base 7 a.f22 a.d22 ["plan", "rooms", "key"] (qR6 a.Ca):=by
 refine VFn.mk2 T.d22.F qf7 (wOf [true,true,false]) (λ C Q Q' Y a3 hQ _ h=>by obtain⟨z,n,wr,f,g,S,key,e,h1,h2,h3,h4,h5,h6,h7,q⟩:=h;exact⟨z,n,wr,f,g,S,key,e,h1,h2,h3,h4,h5,h6,h7,λ m c B a b s K=>hQ _ _ (q m c B a b s K)⟩) (λ C Q Y h=>by obtain⟨z,n,wr,f,g,S,key,e,_⟩:=h;rw[e];exact⟨rfl,rfl⟩) (λ a4 A outer sh H E av u=>⟨_,(Ab (Ak 3 qf7.nd (qa4 (B8 qa6)))
     (Ab (Ak 4 qf7.nd (qp9 0 T.d11 T.Ce.cl (ql8 T) qa2 (rm u) (vaN 2 Ac)))
     (Ab (qan4 PassesOwn.leaving (q2 (Aq qr2 (qb1 _)) qu0 (v2 (Au qb5) Am (vnm 1) (vnm 4)) A7)
     (Ab (Ak 5 qf7.nd (qb8 (v2 (Au qb5) Am (vnm 1) (vnm 4))))
     (Ab (sif (te (qp9 0 T.d13 T.Ce.cl (qh3 T) qa2 (rm u) (vaN 4 (vaN 2 (vaN 5 Ac)))))
     (Ab (B6 (Fq 3 qx2 F.plainAttrs_list F.slot_list_append F.type_list_append qd9 (vaV (qa4 (Fx (qa0 (vnm 2) (qa0 (vnm 4) qa6 rfl) rfl))) Ac)))
     (Ab (G9 (qb8 (vnm 2)) (Gh (vpn 1) (vnm 4)))
     (Ag (Ak 2 qf7.nd (qb8 (vnm 5))))))
     At)
     (Ag (Ak 4 qf7.nd (qa4 (v2 (Aj qj5) qj4 (v2 (Aj qf0) qe9 (vnm 4) Af) (Bn rfl (vnm 0) T.Ce.cl T.Cg))))))))
     (Ab (B6 (Fq 3 qx2 F.plainAttrs_list F.slot_list_append F.type_list_append qd9 (vaV (qa4 (Fx (qa0 (vnm 2) (qa0 (vnm 4) qa6 rfl) rfl))) Ac)))
     (Ab (G9 (qb8 (vnm 2)) (Gh (vpn 1) (vnm 4)))
     (Ag (An (emv 3)))))))),λ C Q Y h=>?_⟩)
 obtain⟨z,n,wr,f,g,S,key,rfl,J,n2,G,hS,KP,N,⟨e,Fr⟩,q⟩:=h;have hh:=Gu (ps:=f) J key;have hT:∀ x∈S++[key],Al x:=λ x L=>by
   rcases zAe.mp L with h | h
   . exact hS x h
   rw[zAj.mp h];exact G
 have Z:(S++[key]).Nodup:=zBt.mpr ⟨KP.h.1,(by simp),λ x L y V e=>N (by rw[<- zAj.mp V,<- e];exact L)⟩;refine As [Ad z a.Ca n wr f,.l false (Mu n.toNat g),.int key,.u,.u,.u] rfl ?_;refine qb0 [Ad z a.Ca n wr f,.l false (Mu n.toNat g),.int key,.l false [],.u,.u] (λ K t=>t) ?_;refine qb0 [Ad z a.Ca n wr f,.l false (Mu n.toNat g),.int key,.l false [],.int (Mq n f key:Nat),.u] (λ K t=>?_) ?_
 . exact qT3 (p:=Ad z a.Ca n wr f) (x:=.int key) (d:=.int (Mq n f key:Nat)) rfl (qg0 rfl) rfl rfl ⟨z,n,wr,f,key,rfl,J,G,by rw[qy6 J]⟩ rfl t
 refine qc9 (λ C=>∃ i c r o k I,C=[Ad z a.Ca n wr f,.l false (Mu n.toNat i),.int c,.l false (Mv o),.int (r:Nat),I]/\Row.Walk n.toNat wr (Mq n f) (S++[key]) key e i c r/\i r=none/\o.length<=k/\k<=63/\∀ j l B,Bi n wr f j i c r l B->Bi n wr f (k+j) g key (Mq n f key) (o++l) B) (λ K t=>?_) ?_
 . have W0:=KP.start N Fr
   refine qU2 (λ m C=>∃ i c r o k I,C=[Ad z a.Ca n wr f,.l false (Mu n.toNat i),.int c,.l false (Mv o),.int (r:Nat),I]/\Row.Walk n.toNat wr (Mq n f) (S++[key]) key e i c r/\m=Aa n.toNat (Mq n f key) e - Aa n.toNat (Mq n f key) r/\o.length<=k/\k+m<=63/\∀ j l B,Bi n wr f j i c r l B->Bi n wr f (k+j) g key (Mq n f key) (o++l) B) _ ⟨g,key,Mq n f key,[],0,_,rfl,W0,rfl,zA3 _,by have:=qh6 Fr.1 hh;show 0+_<=63;lia,λ j l B s=>by rw[zAr];exact s⟩ ?_;rintro m C ⟨i,c,r,o,k,I,rfl,W,rfl,X,hk,O⟩ K2 a0;have u:=W.hr;cases v:i r with
   | none =>
     refine qh0 (b:=false) (Ae (Ae rfl rfl (Hi u)) rfl (by rw[v];rfl)) ?_;exact t _ ⟨i,c,r,o,k,I,rfl,W,v,X,by lia,O⟩
   | some y =>
     refine qh0 (b:=true) (Ae (Ae rfl rfl (Hi u)) rfl (by rw[v];rfl)) ?_;have L:wr=false->Mq n f c<=r:=λ h=>(W.ln h).2.1
     have V:wr=false->Mq n f y<=r:=λ h=>(W.ln h).2.2 r y u v
     have cT:Al c:=hT c ((W.all c).mpr (.inl rfl));have yT:Al y:=hT y ((W.all y).mpr (.inr ⟨r,u,v⟩));have lt:=W.lt v;have nx:=W.nx v;refine Br rfl ?_;refine qb0 [Ad z a.Ca n wr f,.l false (Mu n.toNat i),.int c,.l false (Mv o),.int (r:Nat),.int y] (λ K t=>?_) ?_
     . exact qs8 (d:=.int y) (Ae rfl rfl (by rw[Hi u,v];rfl)) rfl t
     refine qc9 (λ C=>∃ R U D,C=[Ad z a.Ca n wr f,.l false (Mu n.toNat R),.int U,.l false (Mv D),.int (r:Nat),.int y]/\Row.Walk n.toNat wr (Mq n f) (S++[key]) key e R U (Row.next n.toNat r)/\D.length<=k+1/\∀ j l B,Bi n wr f j R U (Row.next n.toNat r) l B->Bi n wr f (k+1+j) g key (Mq n f key) (D++l) B) (λ K t=>?_) ?_
     . refine if_e (b:=qf5 n wr f (r:Nat) c y) (λ Q Y q=>qaR3 (p:=Ad z a.Ca n wr f) (x:=.int (r:Nat)) (y:=.int c) (w:=.int y) rfl (qg0 rfl) rfl rfl rfl rfl rfl rfl ⟨z,n,wr,f,(r:Nat),c,y,rfl,J,by lia,by lia,cT,yT,rfl⟩ rfl q) (λ M=>?_) (λ M=>?_)
       . have ha:=(qC7 J u L V).mp M
         refine qb0 [Ad z a.Ca n wr f,.l false (Mu n.toNat i),.int c,.l false (Mv (o++[(c,r)])),.int (r:Nat),.int y] (λ K t=>?_) ?_
         . exact qG5 (ys:=Mv o) (d:=.q [.int c,.int (r:Nat)]) rfl rfl (by show (Mv o).length < 1000000;unfold Mv;rw[zA8];lia) (by rw[qad5];exact t)
         refine qb0 [Ad z a.Ca n wr f,.l false (Mu n.toNat (Row.set i r c)),.int c,.l false (Mv (o++[(c,r)])),.int (r:Nat),.int y] (λ K t=>?_) ?_
         . refine qD2 (d:=.int c) (ys:=Mu n.toNat i) rfl rfl rfl rfl (qaj9 u) ?_
           rw[qz8];exact t
         exact qs8 (d:=.int y) rfl rfl (t _ ⟨Row.set i r c,y,_,rfl,W.swap v ha,by rw[zAd];exact Nat.succ_le_succ X,λ j l B s=>by rw[zAq,Nat.add_assoc,Nat.add_comm 1];exact O _ _ _ (.swap u v M s)⟩)
       exact t _ ⟨i,c,o,rfl,W.on v (λ h=>by rw[(qC7 J u L V).mpr h] at M;cases M),Nat.le_succ_of_le X,λ j l B s=>by rw[Nat.add_assoc,Nat.add_comm 1];exact O _ _ _ (.on u v M s)⟩
     rintro C ⟨R,U,D,rfl,W3,a1,a2⟩;refine qq0 (d:=.int (Row.next n.toNat r:Nat)) (Ae (Ae rfl rfl rfl) (A8 rfl qe0) (by rw[Ff (by lia),qB3 J u])) ?_;exact a0 _ _ (by rw[nx];lia) ⟨R,U,_,D,k+1,_,rfl,W3,rfl,a1,by rw[nx];lia,a2⟩
 rintro C ⟨i,c,r,o,k,I,rfl,W,v,X,hk,O⟩;have u:=W.hr;refine qb0 [Ad z a.Ca n wr f,.l false (Mu n.toNat i),.int c,.l false (Mv (o++[(c,r)])),.int (r:Nat),I] (λ K t=>?_) ?_
 . exact qG5 (ys:=Mv o) (d:=.q [.int c,.int (r:Nat)]) rfl rfl (by show (Mv o).length < 1000000;unfold Mv;rw[zA8];lia) (by rw[qad5];exact t)
 refine qb0 [Ad z a.Ca n wr f,.l false (Mu n.toNat (Row.set i r c)),.int c,.l false (Mv (o++[(c,r)])),.int (r:Nat),I] (λ K t=>?_) ?_
 . refine qD2 (d:=.int c) (ys:=Mu n.toNat i) rfl rfl rfl rfl (qaj9 u) ?_
   rw[qz8];exact t
 exact q _ _ _ (Nat.succ_le_succ hk) (by rw[zAd];show o.length+1<=64;lia) (O _ _ _ (.stop u v)) (W.done Z v)
theorem qs9:qa9 ["self"] ["self"] (qa3 qg7):=by walk_at "s"
theorem _root_.Row.Kept.perm{n:Nat}{wr:Bool}{hm:Int->Nat}{g:Nat->Option Int}(KP:Kept n wr hm g S):((List.range n).filterMap g).Perm S:=by
 refine(List.perm_ext_iff_of_nodup ?_ KP.h.1).mpr λ k=>?_
 . refine List.pairwise_filterMap.mpr (List.Pairwise.imp_of_mem (R:=(·≠·)) (λ{i j} a d f b l m c e=>?_) List.nodup_range)
   subst e;exact f (KP.o.inj i j b (zAp.mp a) (zAp.mp d) l c)
 rw[KP.h.2 k,List.mem_filterMap];exact⟨λ ⟨i,a,e⟩=>⟨i,zAp.mp a,e⟩,λ ⟨i,a,e⟩=>⟨i,zAp.mpr a,e⟩⟩
noncomputable def Hj(y:D):Option D:=match y with
 | .int k=>some (.int k)
 | _=>none
theorem qK8(N:Nat)(g:Nat->Option Int):(Mu N g).filterMap Hj=Ms ((List.range N).filterMap g):=by
 unfold Mu Ms;rw[List.filterMap_map,List.map_filterMap];refine congrArg (λ f=>List.filterMap f (List.range N)) (funext λ i=>?_);show Hj (Ge (g i))=(g i).map D.int;cases g i<;>rfl
def qs7(C CP:γ):VSp:=Aw λ ds d=>∃ zr n wr ps g dn,ds=[Mt zr C CP n wr ps g dn]/\n<=64/\d=.l false (Ms ((List.range n.toNat).filterMap g))
theorem qj7(T:Txt K mg a):VFn P w K mg base 1 a.f25 a.d25 ["self"] (qs7 a.Cb a.Ca):=by
 refine VFn.mk2 T.d25.F qs9 (wOf [true]) qb2 (λ t Q u h=>by obtain⟨d,⟨p,n,wr,r,g,s,e,_⟩,_⟩:=h;rw[e];exact⟨rfl,rfl⟩) (λ v A outer x H E i z=>⟨_,(Ag (An (eAlt (ecP (NY:=["key"]) (src:=[none]) (K7 rfl (vpn 0) T.Ch.cl T.Ci) (blk (λ i C j H0 l=>(Bc 0 (show (["key"]:List Str).Nodup by decide +kernel))) (λ i C j H0 l=>(Ii (q2 (Aq qr2 (qb1 _)) qu0 (vnm 0) A7))) (λ i C j H0 l=>(qb8 (vnm 0))))) (ecL (NY:=["key"]) (src:=[none]) (qb8 (Bn rfl (vnm 0) T.Ch.cl T.Ci)) (blk (λ i C j H0 l=>(Bc 0 (show (["key"]:List Str).Nodup by decide +kernel))) (λ i C j H0 l=>(Ii (q2 (Aq qr2 (qb1 _)) qu0 (vnm 0) A7))) (λ i C j H0 l=>(qb8 (vnm 0)))))))),λ t Q u h=>?_⟩);obtain⟨d,⟨p,n,wr,r,g,s,rfl,B,rfl⟩,q⟩:=h;refine As [Mt p a.Cb a.Ca n wr r g s] rfl ?_;have step:∀(y:D),y∈Mu n.toNat g->∀(d:D)(c:Ds)(R:Ds->Ds->Prop),(∀ ι',(∃ d,ι'=[d])->R (c++(Hj y).toList) ι')->c.length < big->gNm 0 y [d] λ ι1=>ttV (f2 gIsn (rdN 0) (kC .non)) ι1 (λ b ι2=>if b=true then By (rdN 0) ι2 (λ d ι3=>c.length < big/\R (c++[d]) ι3) (λ _ _=>False) else R c ι2) (λ _ _=>False):=λ y m d c R o f=>by
   have this:=o [y] ⟨_,rfl⟩;refine qr7 ?_;rcases qah6 m with rfl | ⟨k,rfl⟩
   . have this:R (c++[]) _:=this
     rw[zAf] at this;exact qh0 (b:=false) (Ae rfl rfl rfl) (Gi (by decide) this)
   exact qh0 (b:=true) (Ae rfl rfl rfl) (Br rfl (qu9 (d:=.int k) rfl rfl ⟨f,this⟩))
 cases p with
 | false =>
   refine qi6 (.inl (qa1 (a:=(0,[1])) (by show (D.fidx a.Cb "held" (Mt false a.Cb a.Ca n wr r g s)).map (λ n=>(0,[n]))=_;rw[qP0];rfl) (qa1 (a:=D.l false (Mu n.toNat g)) rfl (qa1 (a:=Mu n.toNat g) rfl ⟨qy4 _ _,λ w=>?_⟩))));refine qk2 (λ ι=>∃ d,ι=[d]) Hj _ [] _ (by show 0+_ < 1000000;rw[qq6];lia) ⟨_,rfl⟩ (λ y m ι c ⟨d,e⟩ R o f=>e ▸ step y m d c R o f) ?_;rintro ι ⟨d,rfl⟩;rw[qK8,zB6];exact qa1 (qaU3 rfl) q
 | true =>
   refine qi6 (.inr (qu9 (d:=.l true (Mu n.toNat g)) (A8 rfl qs1) rfl (qa1 (a:=Mu n.toNat g) rfl ⟨qy4 _ _,?_⟩)));refine qk2 (λ ι=>∃ d,ι=[d]) Hj _ [] _ (by show 0+_ < 1000000;rw[qq6];lia) ⟨_,rfl⟩ (λ y m ι c ⟨d,e⟩ R o f=>e ▸ step y m d c R o f) ?_;rintro ι ⟨d,rfl⟩;rw[qK8,zB6];exact q
theorem qz9:qa9 ["self", "key"] ["self", "key"] (qa3 qj0):=by walk_at "s"
noncomputable def Ja:Option Int->V
 | some k=>.int k
 | none=>.non
theorem qac7(N:Nat)(g:Nat->Option Int):flats (Mu N g)=some ((List.range N).map λ i=>Ja (g i)):=by
 have:∀ l:List Nat,flats (l.map λ i=>Ge (g i))=some (l.map λ i=>Ja (g i)):=λ l=>by
   induction l with
   | nil=>rfl
   | cons a l b =>
     show ((Ge (g a)).flat.bind λ v=>(flats (l.map λ i=>Ge (g i))).bind λ c=>some (v::c))=_;rw[b,zAx];cases g a<;>rfl
 exact this _
noncomputable def G3(N:Nat)(g:Nat->Option Int)(k:Int):Option Nat:=(List.range N).findIdx? λ i=>decide (g i=some k)
def Gk(N:Nat)(g:Nat->Option Int)(k:Int):D:=match G3 N g k with
 | some i=>.int (i:Nat)
 | none=>.non
theorem qaq7{o:Option Int}:eqV (Ja o) (.int k)=decide (o=some k):=by
 cases o with
 | none=>rfl
 | some a =>
   show decide (a=k)=_;exact zBz.mpr ⟨λ h=>by rw[h],λ h=>Option.some.inj h⟩
theorem qaq1{k:Int}{g:Nat->Option Int}:∀ l:List Nat,Gp (.int k) (l.map λ i=>Ja (g i))=l.findIdx? λ i=>decide (g i=some k)
 | []=>rfl
 | a::l=>by
   show (if eqV (Ja (g a)) (.int k)=true then some 0 else (Gp (.int k) (l.map λ i=>Ja (g i))).map (· + 1))=_;rw[qaq7,qaq1 l,zC9]
theorem qaJ5{k:Int}{g:Nat->Option Int}:∀ l:List Nat,inV (.int k) (l.map λ i=>Ja (g i))=(l.findIdx? λ i=>decide (g i=some k)).isSome
 | []=>rfl
 | a::l=>by
   have b:=qaJ5 (k:=k) (g:=g) l;unfold inV at b ⊢;rw[zAx,zCc,b,zC9];have e:=qaq7 (o:=g a) (k:=k);cases h:decide (g a=some k) with
   | true=>rw[h] at e;simp[e]
   | false=>rw[h] at e;simp[e]
theorem qah5{g:Nat->Option Int}(h:∀ i,i < N->g i≠some k):Gk N g k=.non:=by
 have:G3 N g k=none:=List.findIdx?_eq_none_iff.mpr λ i a=>zAy (h i (zAp.mp a))
 unfold Gk;rw[this]
theorem qah4{g:Nat->Option Int}(hi:i < N)(e:g i=some k):∃ j:Nat,Gk N g k=.int (j:Nat):=by
 unfold Gk;cases h:G3 N g k with
 | some j=>exact⟨j,rfl⟩
 | none =>
   have:=List.findIdx?_eq_none_iff.mp h i (zAp.mpr hi)
   rw[zA9 e] at this;cases this
def qz5(C CP:γ):VSp:=Aw λ ds d=>∃ zr n wr ps g dn k,ds=[Mt zr C CP n wr ps g dn,.int k]/\Al k/\d=Gk n.toNat g k
theorem qA9(T:Txt K mg a):VFn P w K mg base 4 a.f27 a.d27 ["self", "key"] (qz5 a.Cb a.Ca):=by
 refine VFn.mk2 T.d27.F qz9 (wOf [true,true]) qb2 (λ r Q p h=>by obtain⟨d,⟨b,n,wr,l,g,m,k,e,_⟩,_⟩:=h;rw[e];exact⟨rfl,rfl⟩) (λ s A outer z H E B t=>⟨_,(Ab (sif (Bh (te (Ah T.d5 (qc3 T) qa2 (rm t) (vaN 1 Ac))))
     (Ag qo0)
     At)
     (Ag (An (eif (q2 (Aq qA8 (by with_unfolding_all rfl)) Jf (vnm 1) (Bn rfl (vnm 0) T.Ch.cl T.Ci)) (qa4 (vbm qav8 F.plainAttrs_list F.slot_list_index F.type_list_index qK4 (Bn rfl (vnm 0) T.Ch.cl T.Ci) (vnm 1) qab5)) (qa4 A7))))),λ r Q p h=>?_⟩)
 obtain⟨d,⟨b,n,wr,l,g,m,k,rfl,u,rfl⟩,q⟩:=h;refine As [Mt b a.Cb a.Ca n wr l g m,.int k] rfl ?_;refine Hg (λ Q p q=>qE0 (x:=.int k) (d:=.bl true) rfl (qaj0 u) rfl q) (qi6 ?_);have o:f2 (Ky false) (rdN 1) (f1 (D.fld a.Cb "held") (rdN 0)) [Mt b a.Cb a.Ca n wr l g m,.int k]=some (.bl (G3 n.toNat g k).isSome):=by
   refine Ae (x:=.int k) (y:=.l b (Mu n.toNat g)) rfl (A8 rfl qs1) ?_;show ((flats (Mu n.toNat g)).bind λ c=>some (D.bl (if false=true then !inV (.int k) c else inV (.int k) c)))=_;rw[qac7];show some (D.bl (inV (.int k) _))=_;rw[qaJ5];rfl
 refine Hh o (λ h=>?_) λ h=>?_
 . obtain⟨i,f⟩:=zB5.mp h
   refine qr4 (d:=.int (i:Nat)) (Ae (A8 rfl qs1) rfl ?_) ?_
   . show ((some (V.int k)).bind λ v=>(flats (Mu n.toNat g)).bind λ c=>(Gp v c).map λ j=>D.int (j:Nat))=_
     rw[qac7];show (Gp (.int k) _).map _=_;rw[qaq1];show (G3 n.toNat g k).map _=_;rw[f];rfl
   unfold Gk at q;rw[f] at q;exact q
 refine qr4 (d:=.non) rfl ?_;have f:G3 n.toNat g k=none:=by cases e:G3 n.toNat g k with | none=>rfl | some i=>rw[e] at h;cases h
 unfold Gk at q;rw[f] at q;exact q
theorem qW2:qa9 ["self", "key"] ["self", "key"] (qa3 qA3):=by walk_at "s"
theorem qak7{C CP:γ}{n:Int}{wr:Bool}{ps:Pr}{g:Nat->Option Int}{dn:Ds}:D.fidx C "done" (Mt false C CP n wr ps g dn)=some 2:=by
 show (if C=C then List.findIdx? (λ q:Str×D=>("done" : Str) == q.1) [("plan",Ad true CP n wr ps),("held",.l false (Mu n.toNat g)),("done",.l false dn)] else none)=_;rw[if_pos rfl];rfl
def qV4(C CP CT CN:γ):VSp:=λ ds Q xe=>∃ n wr ps g dn S k,ds=[Mt false C CP n wr ps g dn,.int k]/\Al k/\1<=n/\n<=64/\(∀ y∈S,Al y)/\Kept n.toNat wr (Mq n ps) g S/\dn.length<=1000 /\
 (k∈S->xe ⟨CT,[("key",.int k)]⟩ ds)/\(¬ k∈S->(∀ r:Nat,Crowd n.toNat wr (Mq n ps) (S++[k]) r->xe ⟨CN,[("room",.int (r:Nat))]⟩ ds) /\
   ((∀ q,¬ Crowd n.toNat wr (Mq n ps) (S++[k]) q)->∀ m a g',m<=64->a.length<=64->Bi n wr ps m g k (Mq n ps k) a g'->Kept n.toNat wr (Mq n ps) g' (S++[k])->Q (.l false (Mv a)) [Mt false C CP n wr ps g' (dn++[.q [.str "put",.int k]]),.int k]))
theorem qY3(T:Txt K mg a):VFn P w K mg base 8 a.f28 a.d28 ["self", "key"] (qV4 a.Cb a.Ca a.Cf a.Cd):=by
 refine VFn.mk2 T.d28.F qW2 (wOf [true,true]) (λ u Q Q' U W X G h=>by obtain⟨n,wr,f,g,l,S,k,e,Y,Z,h2,h3,h4,h5,q0,q⟩:=h;exact⟨n,wr,f,g,l,S,k,e,Y,Z,h2,h3,h4,h5,λ a=>G _ _ (q0 a),λ i=>⟨λ r c=>G _ _ ((q i).1 r c),λ t m c I a b s K=>X _ _ ((q i).2 t m c I a b s K)⟩⟩) (λ u Q U h=>by obtain⟨n,wr,f,g,l,S,k,e,_⟩:=h;rw[e];exact⟨rfl,rfl⟩) (λ a0 A outer sh H E av v=>⟨_,(Ab (sif (q2v (Ax qr2 (qb1 _)) (Aq qr2 (qb1 _)) qu0 (qp9 0 T.d27 T.Ch.cl (qA9 T) qa2 (rm v) (vaN 1 Ac)) A7)
     (Ag (qaB9 T.Ew (qE6 T) (rm v) T.E8 T.d2.b qa2 (qb8 (vnm 1))))
     At)
     (Ab (B6 (Ah T.d21 (qw8 T) qa2 (rm v) (vaV (qb8 (Bn rfl (vnm 0) T.Ch.cl T.D4)) (vaV (e2v (Aj qf0) qe9 (qv3 0 T.d25 T.Ch.cl (qj7 T) qa2 (rm v)) (B8 (qa0 (vnm 1) qa6 rfl))) Ac))))
     (Ab (B6 (emutP qx2 F.plainAttrs_list F.slot_list_append F.type_list_append qd9 (K7 rfl (vpn 0) T.Ch.cl T.E2) (vaV (qa4 (Fx (qa0 Bk (qa0 (vnm 1) qa6 rfl) rfl))) Ac)))
     (Ag (An (Ah T.d22 (qS6 T) qa2 (rm v) (vaV (qb8 (Bn rfl (vnm 0) T.Ch.cl T.D4)) (vaB (K7 rfl (vpn 0) T.Ch.cl T.Ci) (vaN 1 Ac))))))))),λ u Q U h=>?_⟩)
 obtain⟨n,wr,f,g,l,S,k,rfl,J,L,M,V,KP,a4,q1,q2⟩:=h;have N:=KP.perm;have hL:((List.range n.toNat).filterMap g).length<=64:=by
   have:=List.length_filterMap_le g (List.range n.toNat)
   rw[zBa] at this;lia
 refine As [Mt false a.Cb a.Ca n wr f g l,.int k] rfl ?_;refine qK9 (qah7 (qT3 (p:=Mt false a.Cb a.Ca n wr f g l) (x:=.int k) (d:=Gk n.toNat g k) rfl (qn3 rfl) rfl rfl ⟨false,n,wr,f,g,l,k,rfl,J,rfl⟩ rfl ?_));by_cases o:k∈S
 . obtain⟨i,O,e⟩:=(KP.h.2 k).mp o
   obtain⟨j,hj⟩:=qah4 O e;rw[hj];exact qa1 (a:=D.bl true) rfl (qa1 (a:=true) rfl (Br rfl (qu9 (d:=.int k) rfl rfl ⟨rfl,q1 o⟩)))
 obtain⟨qn,q⟩:=q2 o;rw[qah5 λ i O e=>o ((KP.h.2 k).mpr ⟨i,O,e⟩)];refine qa1 (a:=D.bl false) rfl (qa1 (a:=false) rfl (Gi (λ h=>nomatch h) ?_));refine qc9 (λ u=>u=[Mt false a.Cb a.Ca n wr f g l,.int k]/\∀ q,¬ Crowd n.toNat wr (Mq n f) (S++[k]) q) (λ K R=>qac8 (ql3 ?_)) ?_
 . refine qg4 (y:=Ad true a.Ca n wr f) (A8 rfl qM6) rfl (qh2 (qD1 ?_))
   refine qK5 (p:=Mt false a.Cb a.Ca n wr f g l) (d:=.l false (Ms ((List.range n.toNat).filterMap g))) rfl (qn3 rfl) ⟨false,n,wr,f,g,l,rfl,M,rfl⟩ rfl ?_;refine qa1 (a:=D.l false (Ms ((List.range n.toNat).filterMap g++[k]))) (qan1 (z:=false) (z':=false) (B:=[k]) (by show _+1<=1000;lia)) (qd5 ?_);refine⟨true,n,wr,f,false,_,rfl,L,M,λ x G=>?_,by rw[zAd];show _+1<=1000;lia,λ t=>R _ ⟨rfl,λ q c=>t.no L q (c.perm (N.append_right [k]).symm)⟩,λ r c=>qn r (c.perm (N.append_right [k]))⟩;rcases zAe.mp G with h | h
   . exact V x (N.subset h)
   rw[zAj.mp h];exact J
 rintro u ⟨rfl,t⟩
 replace q:=q t
 refine qb0 [Mt false a.Cb a.Ca n wr f g (l++[.q [.str "put",.int k]]),.int k] (λ K R=>qac8 ?_) ?_
 . refine qaH9 (i:=0) (p:=[2]) (ys:=l) (d0:=Mt false a.Cb a.Ca n wr f g l) (by show (D.fidx a.Cb "done" (Mt false a.Cb a.Ca n wr f g l)).map (λ n=>(0,[n]))=_;rw[qak7];rfl) rfl rfl ?_
   exact qe5 (y:=.q [.str "put",.int k]) rfl (qd5 (qa1 (a:=(l++[D.q [.str "put",.int k]],D.non)) (if_pos (show l.length < big by unfold big;lia)) R))
 generalize l++[.q [.str "put",.int k]]=C at q ⊢;refine qi6 (ql3 (qg4 (y:=Ad true a.Ca n wr f) (A8 rfl qM6) rfl ?_));refine qa1 (a:=(0,[1])) (by show (D.fidx a.Cb "held" (Mt false a.Cb a.Ca n wr f g C)).map (λ n=>(0,[n]))=_;rw[qP0];rfl) (qa1 (a:=D.l false (Mu n.toNat g)) rfl ⟨rfl,λ w=>?_⟩);refine qc5 (x:=.int k) rfl (qd5 (qa1 (a:=D.int k) rfl ?_));refine⟨true,n,wr,f,g,S,k,rfl,L,M,J,V,KP,o,?_,λ m cs I a1 a2 a3 K'=>?_⟩
 . by_cases h:∃ e,Free n.toNat wr (Mq n f) g k e
   . exact h
   obtain⟨q,c⟩:=KP.crowd λ e z=>h ⟨e,z⟩
   exact absurd c (t q)
 refine qa1 (a:=[Mt false a.Cb a.Ca n wr f I C,.int k]) ?_ (q m cs I a1 a2 a3 K');show Ap (.pl 0 [1] w::_) _ _=_;rw[qaA2 rfl];rfl
theorem qr1:qa9 ["self"] ["self"] (qa3 qf9):=by walk_at "s"
def qq9(C CP:γ):VSp:=Aw λ ds d=>∃ zr n wr ps g dn,ds=[Mt zr C CP n wr ps g dn]/\d=.l false (Mu n.toNat g)
theorem qc4(T:Txt K mg a):VFn P w K mg base 1 a.f24 a.d24 ["self"] (qq9 a.Cb a.Ca):=by
 refine VFn.mk2 T.d24.F qr1 (wOf [true]) qb2 (λ i Q j h=>by obtain⟨d,⟨b,n,wr,c,g,f,e,_⟩,_⟩:=h;rw[e];exact⟨rfl,rfl⟩) (λ k A outer l H E m o=>⟨_,(Ag (An (qa4 (Ir qi9 qP8.ops T.D0 (qa0 (Bn rfl (vnm 0) T.Ch.cl T.Ci) qa6 rfl))))),λ i Q j h=>?_⟩);obtain⟨d,⟨b,n,wr,c,g,f,rfl,rfl⟩,q⟩:=h;refine As [Mt b a.Cb a.Ca n wr c g f] rfl ?_;refine qg5 (.l false (Mu n.toNat g)) ?_ q;unfold Ba A9;rw[A8 rfl qs1];exact qm0 (qy4 _ _)
theorem qaC5:qa9 ["_law_script"] ["_law_script"] (qa3 qat7):=by walk_at "s"
theorem qaH2(T:Txt K mg a):Gc P w K mg base CX0 1 a.f30 a.d30 ["_law_script"] (qaN6 K):=by
 refine T.d30.F.ok qaC5 (λ J H Q E h=>?_) (λ L A outer s H J Q E O h=>?_)
 . obtain⟨l,d,rfl,_⟩:=h
   rfl
 obtain⟨l,d,rfl,M,R,k⟩:=h;refine⟨_,(qM8 (qaE1 (qav1 (qe6 qJ5 (qe6 qJ5 (qe6 qJ5 (qe6 (qE1 ["_law_cell"] [none] (qt8 (qX4 qan6 (pv 0) qao9 (qao8 qJ5))) (λ C B H0 G=>(gnm 0 (show (["_law_cell"]:List Str).Nodup by decide +kernel))) (λ C B H0 G=>qaF0) (λ C B H0 G=>(cbi qaA0 T.F9 (qe6 (pv 0) qt9)))) qt9))))))),?_⟩;refine⟨_,rfl,_,rfl,l,_,rfl,M,λ c N=>?_⟩;have ec:Hs (d.map V.int) none (some 63)=d.map V.int:=by
   unfold Hs;have t:HT.sIx (d.map V.int).length (d.map V.int).length (some (63:Int))=min 63 (d.map V.int).length:=HT.qan9 _ _ 63;rw[t,HT.qW7,List.drop_zero,Nat.sub_zero];apply zAs;rw[zA8];lia
 rw[ec];refine⟨c,rfl,⟨_,SqL.of qb3⟩,λ D r=>?_⟩;have I:D≠c:=λ z=>by rw[z,qb3] at r;cases r
 have g:H D=none:=by rw[qb4 I] at r;exact r
 refine qQ1 (K:=K) (xs:=d.map V.int) (λ i σ H1=>∃ v,σ=[v]/\H1=upd (upd H c (.l (d.map V.int))) D (.l (((d.take i).map λ n=>if n < 0 then -n else n).map V.int))) ⟨none,rfl,rfl⟩ ?_ ?_ ?_
 . rintro i σ H1 _ ⟨v,rfl,rfl⟩
   refine SqL.of ?_;rw[qb4 I.symm,qb3]
 . rintro i x σ H1 j ⟨v,rfl,rfl⟩
   obtain⟨n,u,rfl⟩:∃ n,d[i]? = some n/\V.int n=x:=by
     rw[zBb] at j;cases e:d[i]? with
     | none=>rw[e] at j;cases j
     | some z=>rw[e] at j;exact⟨z,rfl,Option.some.inj j⟩
   refine⟨_,rfl,_,rfl,_,qb3,?_,_,rfl,?_⟩
   . rw[zA8,zA8,zBq]
     exact qag9 (by lia)
   rw[qaB1];congr 1;rw[List.take_add_one,u];simp
 rintro σ H1 ⟨v,rfl,rfl⟩;rw[zA8,zAs (zA3 _)];refine⟨by show 4<=Lr;decide,λ p f=>?_⟩;have q:p≠D:=λ z=>by rw[z,qb3] at f;cases f
 rw[qb4 q] at f;have y:p≠c:=λ z=>by rw[z,qb3] at f;cases f
 rw[qb4 y] at f;refine k p D _ f g (λ b o e=>?_) ⟨0,1234567891,0,d.map λ n=>if n < 0 then -n else n,qb3,?_,by decide,by decide,by decide,by decide,?_⟩
 . rw[qb4 (qc0 e f),qb4 (qc0 e g),qb4 (qc0 e N)]
   exact e
 . rw[qb4 q.symm,qb3]
 intro n u;obtain⟨m,_,rfl⟩:=zB8.mp u
 split<;>lia
theorem qo5:qa9 ["_law_bag_here", "_law_many", "_law_cell", "_law_value", "_law_first", "_law_second"] ["_law_bag_here", "_law_many"] (qa3 qW4):=by walk_at "s"
theorem qc2(T:Txt K mg a):VFn P w K mg base 1 a.f31 a.d31 ["_law_bag_here", "_law_many"] qI1:=by
 refine VFn.mk' T.d31.F qo5 (wOf [true,true]) (λ r Q Q' u N O _ h=>by obtain⟨b,m,g,e,L,C,R,q⟩:=h;exact⟨b,m,g,e,L,C,R,λ v S U V B=>O _ _ (q v S U V B)⟩) (λ r Q u ⟨b,m,g,e,_⟩=>by rw[e];rfl) (λ r Q u h=>by obtain⟨b,m,g,e,⟨x,y,z,W,_⟩,_⟩:=h;rw[e,W];rfl) (λ X A outer sh H E av Y=>⟨_,(Ab (sif (q2 (Aq (qj6 Y.u64) (qb1 _)) Bf (v2 (Au qb5) Am (vnm 0) Af) Af)
     (Ab (Ak 2 qo5.nd (qa4 Af))
     (Ab (sif (q2 (Aq Ke (qb1 _)) Kw (v2 (Au qb5) Am (vnm 0) Af) (vbi qr9 qr8.ops T.Cu (qa0 (v2 (Au qb5) Am (vnm 0) Af) qa6 rfl)))
     (Ag (Ak 2 qo5.nd (qb8 (v2 (Au qb5) Am (v2 (Au qb5) Am (vnm 0) Af) (v2 (Au qb5) Am (vnm 0) Af)))))
     At)
     (Ab (saug (vpn 0) Af Af qaS5)
     (Ab (sif (q2 (Aq Gs (qb1 _)) Hy (vnm 2) Af)
     (Ag (G9 (qb8 (vnm 2)) (Gh (vpn 0) Af)))
     At)
     (Ag (G9 (qa4 (v2 (Aj qj5) qj4 (v2 (Aj qf0) qe9 (v2 (Aj qf0) qe9 (v2 (Aj qw7) qw6 (v2 (Au qb5) Am (vnm 0) Af) Af) (v2 (Aj qj5) qj4 (vnm 2) Af)) (v2 (Aj qw7) qw6 Af (v2 (Au qb5) Am (vnm 0) Af))) Af)) (Gh (vpn 0) Af)))))))
     At)
     (Ab (sif (q2 (Aq Bu (qb1 _)) Bz (v2 (Au qb5) Am (vnm 0) Af) Af)
     (Ab (Ak 3 qo5.nd (qa4 (v2 (Aj qj5) qj4 (v2 (Au qb5) Am (vnm 0) Af) (vnm 1))))
     (Ab (G9 (qa4 (v2 (Aj qJ8) qav9 (v2 (Au qb5) Am (vnm 0) Af) (vnm 1))) (Gh (vpn 0) Af))
     (Ag (An (emv 3)))))
     At)
     (Ab (Ak 4 qo5.nd (qa4 (v2 (Aj qj5) qj4 (v2 (Aj qw7) qw6 (v2 (Aj qf0) qe9 (v2 (Au qb5) Am (vnm 0) Af) Af) Af) Af)))
     (Ab (Ak 5 qo5.nd (qa4 (v2 (Aj qj5) qj4 (v2 (Aj qw7) qw6 (v2 (Aj qj5) qj4 (v2 (Aj qw7) qw6 (vnm 4) (vnm 4)) Af) Af) Af)))
     (Ab (sif (q2 (Aq Bu (qb1 _)) Bz (vnm 1) Af)
     (Ag (An (qa4 (v2 (Aj qj5) qj4 (v2 (Aj qf0) qe9 (v2 (Aj qw7) qw6 (vnm 5) Af) (vnm 4)) (vnm 1)))))
     At)
     (Ag (An (qa4 (v2 (Aj qj5) qj4 (v2 (Aj qJ8) qav9 (vnm 5) Af) (vnm 1)))))))))),λ r Q u h=>?_⟩)
 obtain⟨b,m,g,rfl,⟨x,y,z,rfl,B⟩,p,G,k⟩:=h;refine As [bagD x y z g,.int m,.u,.u,.u,.u] rfl ?_;refine qc9 (λ r=>∃ j o t c,r=[bagD j o t g,.int m,c,.u,.u,.u]/\Bg j o t g) (λ K l=>?_) ?_
 . refine if_v (b:=decide (x=0)) rfl (λ _=>?_) (λ _=>l _ ⟨x,y,z,_,rfl,B⟩)
   refine qb0 [bagD x y z g,.int m,.int 0,.u,.u,.u] (λ K l=>l) ?_;refine qc9 (λ r=>∃ c:Int,0<=c/\r=[bagD x y z g,.int m,.int c,.u,.u,.u]) (λ K l=>?_) ?_
   . refine if_v (b:=decide (z < (((g.map D.int).length:Nat):Int))) rfl (λ C=>?_) (λ _=>l _ ⟨0,by decide,rfl⟩)
     obtain⟨v,Z,e⟩:=qG4 (xs:=g.map D.int) (i:=z) B.z0 (zAa C);obtain⟨c,I,rfl⟩:=zB8.mp Z;exact qs8 (Ae (y:=.int z) (x:=.l false (g.map .int)) rfl rfl e) rfl (l _ ⟨c,B.nn c I,rfl⟩)
   rintro r ⟨c,I,rfl⟩;refine qb0 [bagD x y (z+1) g,.int m,.int c,.u,.u,.u] (λ K l=>?_) ?_
   . exact qaU5 (k:=2) (x:=z) (y:=1) (ys:=[.int x,.int y,.int z,.l false (g.map .int)]) rfl rfl (by decide) rfl rfl l
   refine qc9 (λ r=>∃ j:Int,0<=j/\r=[bagD j y (z+1) g,.int m,.int c,.u,.u,.u]) (λ K l=>?_) ?_
   . refine if_v (b:=decide (1000000000000000000<=c)) rfl (λ _=>?_) (λ _=>l _ ⟨x,B.x0,rfl⟩)
     exact qD2 (d:=.int c) (ys:=[.int x,.int y,.int (z+1),.l false (g.map .int)]) (k:=0) (n:=0) rfl rfl rfl rfl rfl (l _ ⟨c,I,rfl⟩)
   rintro r ⟨j,J,rfl⟩;have e1:f2 Jy (f2 Jw (f2 Jw (f2 Jx (f2 gIx (rdN 0) (kC (.int 1))) (kC (.int 48271))) (f2 Jy (rdN 2) (kC (.int 2147483647)))) (f2 Jx (kC (.int 7919)) (f2 gIx (rdN 0) (kC (.int 2))))) (kC (.int 2147483647)) [bagD j y (z+1) g,.int m,.int c,.u,.u,.u]=some (.int ((y * 48271+c % 2147483647+7919 * (z+1)) % 2147483647)) :=
     Ae (Ae (Ae (Ae (x:=.int y) rfl rfl (Ll (by decide))) (Ae rfl rfl (Ff (by decide))) rfl) (Ae (y:=.int (z+1)) rfl rfl (mulL (by decide))) rfl) rfl (Ff (by decide))
   exact qV3 (ys:=[.int j,.int y,.int (z+1),.l false (g.map .int)]) (k:=1) (n:=1) e1 rfl rfl rfl (l _ ⟨j,_,z+1,_,rfl,J,Int.emod_nonneg _ (by decide),zCa _ (by decide),by have:=B.z0;lia,B.nn⟩)
 rintro r ⟨j,o,t,c,rfl,B'⟩;refine qg8 (decide (0 < j)) rfl (λ L=>?_) λ _=>?_
 . refine qb0 [bagD j o t g,.int m,c,.int (j % m),.u,.u] (λ K l=>qa1 (Ae (x:=.int j) rfl rfl (Ff p)) l) ?_
   refine qb0 [bagD (j / m) o t g,.int m,c,.int (j % m),.u,.u] (λ K l=>?_) ?_
   . exact qV3 (ys:=[.int j,.int o,.int t,.l false (g.map .int)]) (k:=0) (n:=0) (Ae (x:=.int j) rfl rfl (qaz5 p G)) rfl rfl rfl l
   exact k (j % m) _ (Int.emod_nonneg _ (by lia)) (zCa _ p) ⟨_,_,_,rfl,Int.ediv_nonneg B'.x0 (by lia),B'.y0,B'.y1,B'.z0,B'.nn⟩
 have f0:0<=(o+1) * 39373 % 1000000007:=Int.emod_nonneg _ (by decide);have f1:(o+1) * 39373 % 1000000007 < 1000000007:=zCa _ (by decide);refine qb0 [bagD j o t g,.int m,c,.u,.int ((o+1) * 39373 % 1000000007),.u] (λ K l=>qa1 (Ae (Ae (Ae (x:=.int o) rfl rfl rfl) rfl (Ll (by decide))) rfl (Ff (by decide))) l) ?_;generalize (o+1) * 39373 % 1000000007=f at f0 f1;refine qb0 [bagD j o t g,.int m,c,.u,.int f,.int (f * f % 998244353 * 30011 % 998244353)] (λ K l=>qa1 (Ae (Ae (Ae (Ae rfl rfl (mulL (qV9 (by lia) (by lia)))) rfl (Ff (by decide))) rfl (Ll (by decide))) rfl (Ff (by decide))) l) ?_;generalize f * f % 998244353 * 30011 % 998244353=s;have M:∀ v,Q (.int (v % m)) [bagD j o t g,.int m]:=λ v=>k _ _ (Int.emod_nonneg _ (by lia)) (zCa _ p) ⟨_,_,_,rfl,B'⟩
 refine qg8 (decide (1000000 < m)) rfl (λ _=>?_) λ _=>?_
 . exact qg5 _ (Ae (Ae (Ae rfl rfl (Ll (by decide))) rfl rfl) rfl (Ff p)) (M _)
 exact qg5 _ (Ae (Ae rfl rfl (qaz5 (by decide) (by decide))) rfl (Ff p)) (M _)
theorem qc1:qa9 ["_law_bag_here", "_law_size", "_law_many", "_law_way", "_law_one", "_law_other", "_law_homes", "_law_k", "_law_some"] ["_law_bag_here", "_law_size", "_law_many"] (qa3 qi5):=by walk_at "s"
def qw2:VSp:=λ ds Q _=>∃ b n m ns,ds=[b,.int n,.int m]/\M8 ns b/\1<=n/\n<=64/\0<=m/\m<=100 /\
 ∀ c a,M8 ns c->(∀ h∈a,0<=h/\h < n)->a.length=m.toNat->Q (.l false (Ms a)) [c,.int n,.u]
theorem qaN1{x y i:Int}(c:0<=i)(h1:i < 2){P:Int->Prop}(d:P x)(e:P y):∃ v,atI [D.int x,D.int y] i=some (.int v)/\P v:=by
 obtain⟨v,a,b⟩:=qG4 (xs:=[D.int x,D.int y]) c h1;simp only[zAm,zBs,or_false] at a;rcases a with rfl | rfl
 . exact⟨x,b,d⟩
 exact⟨y,b,e⟩
theorem qO4{x y z w i:Int}(c:0<=i)(h1:i < 4){P:Int->Prop}(d:P x)(e:P y)(f:P z)(g:P w):∃ v,atI [D.int x,D.int y,D.int z,D.int w] i=some (.int v)/\P v:=by
 obtain⟨v,b,a⟩:=qG4 (xs:=[D.int x,D.int y,D.int z,D.int w]) c h1;simp only[zAm,zBs,or_false] at b;rcases b with rfl | rfl | rfl | rfl
 . exact⟨x,a,d⟩
 . exact⟨y,a,e⟩
 . exact⟨z,a,f⟩
 exact⟨w,a,g⟩
theorem qx1(T:Txt K mg a):VFn P w K mg base 2 a.f37 a.d37 ["_law_bag_here", "_law_size", "_law_many"] qw2:=by
 refine VFn.mk' T.d37.F qc1 (wOf [true,true,true]) (λ c Q Q' R a4 hQ _ h=>by obtain⟨b,n,m,j,e,S,U,V,C,h5,q⟩:=h;exact⟨b,n,m,j,e,S,U,V,C,h5,λ s f W a2 a3=>hQ _ _ (q s f W a2 a3)⟩) (λ c Q R h=>by obtain⟨b,n,m,j,e,_⟩:=h;rw[e];rfl) (λ c Q R h=>by obtain⟨b,n,m,j,e,⟨x,y,z,eb,_⟩,_⟩:=h;rw[e,eb];rfl) (λ a5 A outer sh H E av G=>⟨_,(Ab (Ak 3 qc1.nd (Ah T.d31 (qc2 T) qa2 (rm G) (vaN 0 (vaV (qa4 Af) Ac))))
     (Ab (Ak 4 qc1.nd (Ah T.d31 (qc2 T) qa2 (rm G) (vaN 0 (vaN 1 Ac))))
     (Ab (Ak 5 qc1.nd (Ah T.d31 (qc2 T) qa2 (rm G) (vaN 0 (vaN 1 Ac))))
     (Ab (Ak 6 qc1.nd (qa4 (B8 qa6)))
     (Ab (qS0 PassesOwn.leaving T.D1 (G0 (vaN 2 Ac)) (Bc 7 qc1.nd)
     (Ab (Ak 8 qc1.nd (Iu (vaV (Ah T.d31 (qc2 T) qa2 (rm G) (vaN 0 (vaN 1 Ac))) (vaV (qb8 (vnm 4)) (vaV (e2 (Aj qm7) qm6 (qa4 (v2 (Aj qm7) qm6 (vnm 1) Af)) (Ah T.d31 (qc2 T) qa2 (rm G) (vaN 0 (vaV (qa4 (vbi (qC6 rfl) qad4.ops T.Em (qa0 Af (qa0 (vnm 1) qa6 rfl) rfl))) Ac)))) (vaV (qa4 (v2 (Au qb5) Am (B8 (qa0 (vnm 4) (qa0 (vnm 5) qa6 rfl) rfl)) (v2 (Aj qj5) qj4 (vnm 7) Af))) Ac))))))
     (Ag (B6 (Fq 6 qx2 F.plainAttrs_list F.slot_list_append F.type_list_append qd9 (vaV (qb8 (v2 (Au qb5) Am (vnm 8) (vnm 3))) Ac))))))
     (Ag (An (emv 6)))))))),λ c Q R h=>?_⟩)
 obtain⟨b,n,m,j,rfl,B,n1,n2,m0,m1,q⟩:=h;refine As [b,.int n,.int m,.u,.u,.u,.u,.u,.u] rfl ?_;refine qc9 (λ c=>∃ b w,c=[b,.int n,.int m,.int w,.u,.u,.u,.u,.u]/\M8 j b/\0<=w/\w < 4) (λ K g=>?_) ?_
 . exact qd7 rfl B rfl (by decide) (by decide) λ v s I J B'=>g _ ⟨s,v,rfl,B',I,J⟩
 rintro c ⟨b,way,rfl,B,w0,w1⟩;refine qc9 (λ c=>∃ b o,c=[b,.int n,.int m,.int way,.int o,.u,.u,.u,.u]/\M8 j b/\0<=o/\o < n) (λ K g=>?_) ?_
 . exact qs6 (m:=n) rfl B rfl (by decide) (by lia) (by lia) λ v s I J B'=>g _ ⟨s,v,rfl,B',I,J⟩
 rintro c ⟨b,o,rfl,B,Y,Z⟩;refine qc9 (λ c=>∃ b p,c=[b,.int n,.int m,.int way,.int o,.int p,.u,.u,.u]/\M8 j b/\0<=p/\p < n) (λ K g=>?_) ?_
 . exact qs6 (m:=n) rfl B rfl (by decide) (by lia) (by lia) λ v s I J B'=>g _ ⟨s,v,rfl,B',I,J⟩
 rintro c ⟨b,p,rfl,B,p0,p1⟩;refine qb0 [b,.int n,.int m,.int way,.int o,.int p,.l false (Ms []),.u,.u] (λ K g=>g) ?_;refine qc9 (λ c=>∃ b f t k,c=[b,.int n,.u,.int way,.int o,.int p,.l false (Ms f),t,k]/\M8 j b/\(∀ h∈f,0<=h/\h < n)/\f.length=m.toNat) (λ K g=>?_) ?_
 . refine qak5 (n:=m) rfl (qT1 (by lia) (by lia)) ?_
   refine qf2 (λ i c=>∃ b f t k,c=[b,.int n,.u,.int way,.int o,.int p,.l false (Ms f),t,k]/\M8 j b/\(∀ h∈f,0<=h/\h < n)/\f.length=i) _ 0 _ ⟨b,[],_,_,rfl,B,nofun,rfl⟩ ?_ ?_
   . rintro i x hx c ⟨b,f,t,k,rfl,B,X,O⟩ K2 L
     rw[zAr] at O L;obtain⟨hi,rfl⟩:=qW9 hx;refine As [b,.int n,.u,.int way,.int o,.int p,.l false (Ms f),.int (i:Nat),k] rfl ?_;refine qc9 (λ c=>∃ b u M l r,c=[b,.int n,.u,.int way,.int o,.int p,.l false (Ms f),.int (i:Nat),.l false [.int u,.int M,.int l,.int r]]/\M8 j b/\(0<=u/\u < n)/\(0<=M/\M < n)/\(0<=l/\l < n)/\(0<=r/\r < n)) (λ K g=>?_) ?_
     . refine qh8 (qx4 (qh2 ?_))
       refine qs6 (ds:=[b,.int n,.u,.int way,.int o,.int p,.l false (Ms f),.int (i:Nat),k]) (m:=n) rfl B rfl (by decide) (by lia) (by lia) λ u b1 a0 W B1=>?_
       refine qg4 (y:=.int o) rfl rfl (qh2 (qH6 (x:=.int (n - 1)) rfl ?_));refine qd7 (ds:=[b1,.int n,.u,.int way,.int o,.int p,.l false (Ms f),.int (i:Nat),k]) (m:=if n < 4 then n else 4) rfl B1 rfl (by split<;>lia) (by split<;>lia) λ l b2 c0 c1 B2=>?_
       have c2:l < n:=by revert c1;split<;>lia
       refine qa1 (a:=D.int (n - 1 - l)) rfl ?_;obtain⟨r,e4,C⟩:=qaN1 (x:=o) (y:=p) (i:=((i:Nat):Int) % 2) (by lia) (by lia) (P:=λ v=>0<=v/\v < n) ⟨Y,Z⟩ ⟨p0,p1⟩;refine qe5 (y:=.int r) (Ae (x:=.l false [.int o,.int p]) rfl (Ae (x:=.int (i:Nat)) (y:=.int 2) rfl rfl (Ff (by decide))) e4) (qd5 ⟨by show 4<=1000000;decide,?_⟩);exact g _ ⟨b2,u,o,n - 1 - l,r,rfl,B2,⟨a0,W⟩,⟨Y,Z⟩,⟨by lia,by lia⟩,C⟩
     rintro c ⟨b,u,M,l,r,rfl,B,S,U,V,C⟩;obtain⟨v,ev,hv⟩:=qO4 (P:=λ v=>0<=v/\v < n) w0 w1 S U V C;refine qae6 (ys:=Ms f) (d:=.int v) rfl (Ae (x:=.l false [.int u,.int M,.int l,.int r]) rfl rfl ev) rfl (by rw[qh4];unfold big;lia) ?_;rw[qN5];refine L _ ⟨b,f++[v],_,_,rfl,B,λ h N=>?_,by rw[zAd,O];rfl⟩;rcases zAe.mp N with N | N
     . exact X h N
     rw[zAj.mp N];exact hv
   rintro c ⟨b,f,t,k,rfl,h⟩;rw[zAr,qZ5] at h;exact g _ ⟨b,f,t,k,rfl,h⟩
 rintro c ⟨b,f,t,k,rfl,B,X,O⟩;exact q b f B X O
theorem qd1:qa9 ["_law_bag_here", "_law_most", "_law_way", "_law_size", "_law_wraps", "_law_many", "_law_told_here", "_law_great", "_law_keys", "_law_home_here", "_law_key", "_law_homes", "_law_number"] ["_law_bag_here", "_law_most"] (qa3 qJ2):=by walk_at "s"
def qag4:VSp:=λ ds Q _=>∃ b M ns,ds=[b,.int M]/\M8 ns b/\1<=M/\M<=64/\∀ a n wr ps ks,M8 ns a->1<=n->n<=64->Ku ps->ks.Nodup->(∀ k∈ks,Al k)->ks.length<=66->Q (.q [Mp n wr ps,.l false (Ms ks)]) [a,.int M]
theorem qas2{x y z i:Int}(c:0<=i)(h1:i < 3){P:Int->Prop}(d:P x)(e:P y)(f:P z):∃ v,atI [D.int x,D.int y,D.int z] i=some (.int v)/\P v:=by
 obtain⟨v,b,a⟩:=qG4 (xs:=[D.int x,D.int y,D.int z]) c h1;simp only[zAm,zBs,or_false] at b;rcases b with rfl | rfl | rfl
 . exact⟨x,a,d⟩
 . exact⟨y,a,e⟩
 exact⟨z,a,f⟩
theorem qaK7{x i:Int}(b:0<=i)(h1:i < 5)(d:0<=x/\x<=64):∃ v,atI [D.int 0,D.int 0,D.int 1,D.int 6,D.int x] i=some (.int v)/\0<=v/\v<=64:=by
 obtain⟨v,a,c⟩:=qG4 (xs:=[D.int 0,D.int 0,D.int 1,D.int 6,D.int x]) b h1;simp only[zAm,zBs,or_false] at a;rcases a with rfl | rfl | rfl | rfl | rfl<;>exact⟨_,c,by lia,by lia⟩
theorem qaE5{ps:Pr}{m:Int}:Mw ps++[.q [.int k,.int m]]=Mw (ps++[(k,m)]):=by unfold Mw;rw[zBe];rfl
theorem qaI8(ps:Pr):(Mw ps).length=ps.length:=zA8 _
theorem qai6(T:Txt K mg a):VFn P w K mg base 3 a.f38 a.d38 ["_law_bag_here", "_law_most"] qag4:=by
 refine VFn.mk' T.d38.F qd1 (wOf [true,true]) (λ c Q Q' xe a9 hQ _ h=>by obtain⟨b,M,s,e,h1,h2,h3,q⟩:=h;exact⟨b,M,s,e,h1,h2,h3,λ U n wr j f a1 L a3 a4 a5 a6 a7=>hQ _ _ (q U n wr j f a1 L a3 a4 a5 a6 a7)⟩) (λ c Q xe ⟨b,M,s,e,_⟩=>by rw[e];rfl) (λ c Q xe h=>by obtain⟨b,M,s,e,⟨x,y,z,eb,_⟩,_⟩:=h;rw[e,eb];rfl) (λ b0 A outer sh H E av t=>⟨_,(Ab (Ak 2 qd1.nd (Ah T.d31 (qc2 T) qa2 (rm t) (vaN 0 (vaV (qa4 Af) Ac))))
     (Ab (Ak 3 qd1.nd (e2vP (Au qb5) Am (Iu (vaV (e2 (Aj qf0) qe9 (qa4 Af) (Ah T.d31 (qc2 T) qa2 (rm t) (vaN 0 (vaV (qa4 (vbi (qC6 rfl) qad4.ops T.Em (qa0 Af (qa0 (vnm 1) qa6 rfl) rfl))) Ac)))) (vaV (e2 (Aj qf0) qe9 (qa4 Af) (Ah T.d31 (qc2 T) qa2 (rm t) (vaN 0 (vaV (qa4 (vbi (qC6 rfl) qad4.ops T.Em (qa0 Af (qa0 (vnm 1) qa6 rfl) rfl))) Ac)))) (vaV (e2 (Aj qf0) qe9 (qa4 Af) (Ah T.d31 (qc2 T) qa2 (rm t) (vaN 0 (vaN 1 Ac)))) (vaV (qb8 (vnm 1)) Ac))))) (vnm 2)))
     (Ab (Ak 4 qd1.nd (e2v (Ax (qj6 t.u64) (qb1 _)) Bf (Ah T.d31 (qc2 T) qa2 (rm t) (vaN 0 (vaV (qa4 Af) Ac))) Af))
     (Ab (Ak 5 qd1.nd (e2P (Au qb5) Am (Iu (vaV (qb8 (vnm 3)) (vaV (qa4 (v2 (Aj qf0) qe9 (vnm 3) Af)) (vaV (qa4 (v2 (Aj qf0) qe9 Af (v2 (Aj qJ8) qav9 (v2 (Aj qw7) qw6 (vnm 3) Af) Af))) (vaV (Ah T.d31 (qc2 T) qa2 (rm t) (vaN 0 (vaV (qa4 (v2 (Aj qf0) qe9 (vnm 3) Af)) Ac))) Ac))))) (Ah T.d31 (qc2 T) qa2 (rm t) (vaN 0 (vaV (qa4 Af) Ac)))))
     (Ab (Ak 6 qd1.nd (e2P (Au qb5) Am (qa4 (B8 (qa0 Af (qa0 Af (qa0 Af (qa0 Af (qa0 Af qa6 rfl) rfl) rfl) rfl) rfl))) (Ah T.d31 (qc2 T) qa2 (rm t) (vaN 0 (vaV (qa4 Af) Ac)))))
     (Ab (Ak 7 qd1.nd (e2P (Au qb5) Am (qa4 (B8 (qa0 Af (qa0 Af (qa0 Af (qa0 (vpow 10000000000000000) qa6 rfl) rfl) rfl) rfl))) (Ah T.d31 (qc2 T) qa2 (rm t) (vaN 0 (vaV (qa4 Af) Ac)))))
     (Ab (Ak 8 qd1.nd (qa4 (B8 qa6)))
     (Ab (La PassesOwn.leaving (Ah T.d37 (qx1 T) qa2 (rm t) (vaN 0 (vaN 3 (vaN 5 Ac)))) (Bc 9 qd1.nd)
     (Ab (Ak 10 qd1.nd (e2n 9 (Aj qf0) qe9 (e2n 3 (Aj qw7) qw6 (Ah T.d31 (qc2 T) qa2 (rm t) (vaN 0 (vaN 7 Ac))))))
     (Ag (sif (q2 (Aq qJ7 (by with_unfolding_all rfl)) Jf (vnm 10) (vnm 8))
     (Ag (B6 (Fq 8 qx2 F.plainAttrs_list F.slot_list_append F.type_list_append qd9 (vaN 10 Ac))))
     At))))
     (Ab (Ak 11 qd1.nd (qa4 (B8 qa6)))
     (Ab (La PassesOwn.leaving (qa4 (vsl (vnm 8) vpo_n (vpo_s (vnm 6)))) (Bc 10 qd1.nd)
     (Ab (Ak 12 qd1.nd (e2P (Au qb5) Am (Iu (vaV (Ah T.d31 (qc2 T) qa2 (rm t) (vaN 0 (vaN 3 Ac))) (vaV (e2 (Aj qm7) qm6 (qa4 (vpow 1000000000000000000)) (Ah T.d31 (qc2 T) qa2 (rm t) (vaN 0 (vaN 3 Ac)))) (vaV (Ah T.d31 (qc2 T) qa2 (rm t) (vaN 0 (vaV (qa4 (vpow 1000000000000000000)) Ac))) Ac)))) (Ah T.d31 (qc2 T) qa2 (rm t) (vaN 0 (vaV (qa4 Af) Ac)))))
     (Ag (B6 (Fq 11 qx2 F.plainAttrs_list F.slot_list_append F.type_list_append qd9 (vaV (qa4 (Fx (qa0 (vnm 10) (qa0 (vnm 12) qa6 rfl) rfl))) Ac))))))
     (Ag (An (Iv (vaV (Iv (vaV (qb8 (vnm 3)) (vaV (qb8 (vnm 4)) (vaV (efz 11) Ac)))) (vaV (emv 8) Ac))))))))))))))),λ c Q xe h=>?_⟩)
 obtain⟨b,M,s,rfl,B,M0,M1,q⟩:=h;refine As [b,.int M,.u,.u,.u,.u,.u,.u,.u,.u,.u,.u,.u] rfl ?_;refine qc9 (λ c=>∃ b way,c=[b,.int M,.int way,.u,.u,.u,.u,.u,.u,.u,.u,.u,.u]/\M8 s b/\0<=way/\way < 4) (λ K o=>?_) ?_
 . exact qd7 rfl B rfl (by decide) (by decide) λ v U v0 v1 B'=>o _ ⟨U,v,rfl,B',v0,v1⟩
 rintro c ⟨b,way,rfl,B,w0,w1⟩;refine qc9 (λ c=>∃ b n,c=[b,.int M,.int way,.int n,.u,.u,.u,.u,.u,.u,.u,.u,.u]/\M8 s b/\1<=n/\n<=64) (λ K o=>?_) ?_
 . refine qh8 (qaB6 (qx4 (qh2 (qH6 (x:=.int 1) rfl ?_))))
   refine qd7 (ds:=[b,.int M,.int way,.u,.u,.u,.u,.u,.u,.u,.u,.u,.u]) (m:=if M < 8 then M else 8) rfl B rfl (by split<;>lia) (by split<;>lia) λ V R a1 c1 B1=>?_
   have e1:V < M:=by revert c1;split<;>lia
   refine qa1 (a:=D.int (1+V)) rfl (qh2 (qH6 (x:=.int 1) rfl ?_));refine qd7 (ds:=[R,.int M,.int way,.u,.u,.u,.u,.u,.u,.u,.u,.u,.u]) (m:=if M < 16 then M else 16) rfl B1 rfl (by split<;>lia) (by split<;>lia) λ N O L S B2=>?_
   have e2:N < M:=by revert S;split<;>lia
   refine qa1 (a:=D.int (1+N)) rfl (qh2 (qH6 (x:=.int 1) rfl ?_));refine qs6 (ds:=[O,.int M,.int way,.u,.u,.u,.u,.u,.u,.u,.u,.u,.u]) (m:=M) rfl B2 rfl (by decide) (by lia) (by lia) λ x3 b3 a3 c3 B3=>?_
   refine qa1 (a:=D.int (1+x3)) rfl (qg4 (y:=.int M) rfl rfl (qd5 ⟨by show 4<=1000000;decide,qa1 (a:=D.int way) rfl ⟨rfl,?_⟩⟩));obtain⟨n,en,hn⟩:=qO4 (P:=λ v=>1<=v/\v<=64) w0 w1 (x:=1+V) (y:=1+N) (z:=1+x3) (w:=M) ⟨by lia,by lia⟩ ⟨by lia,by lia⟩ ⟨by lia,by lia⟩ ⟨M0,M1⟩;exact qa1 en (o _ ⟨b3,n,rfl,B3,hn.1,hn.2⟩)
 rintro c ⟨b,n,rfl,B,n1,n2⟩;refine qc9 (λ c=>∃ b wr,c=[b,.int M,.int way,.int n,.bl wr,.u,.u,.u,.u,.u,.u,.u,.u]/\M8 s b) (λ K o=>?_) ?_
 . refine qh8 (qD1 (qd7 rfl B rfl (by decide) (by decide) λ v U v0 v1 B'=>?_))
   exact qa1 (a:=D.bl (decide (v=1))) rfl (o _ ⟨U,_,rfl,B'⟩)
 rintro c ⟨b,wr,rfl,B⟩;refine qc9 (λ c=>∃ b m,c=[b,.int M,.int way,.int n,.bl wr,.int m,.u,.u,.u,.u,.u,.u,.u]/\M8 s b/\0<=m/\m<=66) (λ K o=>?_) ?_
 . refine qh8 (qaB7 (qx4 (qg4 (y:=.int n) rfl rfl (qe5 (y:=.int (n+2)) rfl (qe5 (y:=.int (1+n * 3 / 4)) (Ae (x:=.int 1) rfl (Ae (x:=.int (n * 3)) (y:=.int 4) (Ae (x:=.int n) (y:=.int 3) rfl rfl (Ll (by decide))) rfl (qaz5 (by decide) (by decide))) rfl) (qh2 ?_))))))
   refine qd7 (ds:=[b,.int M,.int way,.int n,.bl wr,.u,.u,.u,.u,.u,.u,.u,.u]) (m:=n+1) rfl B rfl (by lia) (by lia) λ V R a1 c1 B1=>?_
   refine qd5 ⟨by show 4<=1000000;decide,?_⟩;refine qd7 (ds:=[R,.int M,.int way,.int n,.bl wr,.u,.u,.u,.u,.u,.u,.u,.u]) (m:=4) rfl B1 rfl (by decide) (by decide) λ N O L S B2=>?_
   obtain⟨m,em,C⟩:=qO4 (P:=λ v=>0<=v/\v<=66) L S (x:=n) (y:=n+2) (z:=1+n * 3 / 4) (w:=V) ⟨by lia,by lia⟩ ⟨by lia,by lia⟩ ⟨by lia,by lia⟩ ⟨by lia,by lia⟩;exact qa1 em (o _ ⟨O,m,rfl,B2,C.1,C.2⟩)
 rintro c ⟨b,m,rfl,B,m0,m1⟩;refine qc9 (λ c=>∃ b told,c=[b,.int M,.int way,.int n,.bl wr,.int m,.int told,.u,.u,.u,.u,.u,.u]/\M8 s b/\0<=told/\told<=64) (λ K o=>?_) ?_
 . refine qh8 (qH6 (x:=.l false [.int 0,.int 0,.int 1,.int 6,.int 40]) rfl (qd7 (ds:=[b,.int M,.int way,.int n,.bl wr,.int m,.u,.u,.u,.u,.u,.u,.u]) (m:=5) rfl B rfl (by decide) (by decide) λ N O L S B2=>?_))
   obtain⟨m,em,C⟩:=qaK7 (x:=40) L S (by decide);exact qa1 em (o _ ⟨O,m,rfl,B2,C.1,C.2⟩)
 rintro c ⟨b,told,rfl,B,t0,t1⟩;refine qc9 (λ c=>∃ b r,c=[b,.int M,.int way,.int n,.bl wr,.int m,.int told,.int r,.u,.u,.u,.u,.u]/\M8 s b/\1<=r/\r<=10000000000000000) (λ K o=>?_) ?_
 . refine qh8 (qH6 (x:=.l false [.int 9,.int 9,.int 9,.int 10000000000000000]) rfl (qd7 (ds:=[b,.int M,.int way,.int n,.bl wr,.int m,.int told,.u,.u,.u,.u,.u,.u]) (m:=4) rfl B rfl (by decide) (by decide) λ N O L S B2=>?_))
   obtain⟨m,em,C⟩:=qO4 (P:=λ v=>1<=v/\v<=10000000000000000) L S (x:=9) (y:=9) (z:=9) (w:=10000000000000000) (by decide) (by decide) (by decide) (by decide);exact qa1 em (o _ ⟨O,m,rfl,B2,C.1,C.2⟩)
 rintro c ⟨b,r,rfl,B,g0,g1⟩;refine qb0 [b,.int M,.int way,.int n,.bl wr,.int m,.int told,.int r,.l false (Ms []),.u,.u,.u,.u] (λ K o=>o) ?_;refine qc9 (λ c=>∃ b f u g,c=[b,.int M,.int way,.int n,.bl wr,.u,.int told,.int r,.l false (Ms f),u,g,.u,.u]/\M8 s b/\f.Nodup/\(∀ k∈f,Al k)/\f.length<=66) (λ K o=>?_) ?_
 . refine qaL9 (x:=b) (y:=.int n) (w:=.int m) (qj2 rfl B.known) rfl rfl rfl (qj2 rfl B.known) ⟨b,n,m,s,rfl,B,n1,n2,m0,by lia,λ R hs B1 hh hl=>?_⟩
   refine qa1 (a:=[R,.int M,.int way,.int n,.bl wr,.u,.int told,.int r,.l false (Ms []),.u,.u,.u,.u]) rfl (qa1 (a:=Ms hs) rfl ⟨qj9 hs,?_⟩);refine qf2 (λ i c=>∃ b f u g,c=[b,.int M,.int way,.int n,.bl wr,.u,.int told,.int r,.l false (Ms f),u,g,.u,.u]/\M8 s b/\f.Nodup/\(∀ k∈f,Al k)/\f.length<=i) _ 0 _ ⟨R,[],_,_,rfl,B1,List.nodup_nil,nofun,zA3 _⟩ ?_ ?_
   . rintro i x W c ⟨b,f,u,g,rfl,B,X,Y,G⟩ K2 I
     rw[zAr] at G I;obtain⟨h,hi,rfl⟩:=qaJ1 W;obtain⟨h0,h1⟩:=hh h (zB4 hi);have a0:i < 66:=by have:=(zA6.mp hi).1;lia
     refine qr7 (As [b,.int M,.int way,.int n,.bl wr,.u,.int told,.int r,.l false (Ms f),.int h,g,.u,.u] rfl ?_);refine qc9 (λ c=>∃ b Z,c=[b,.int M,.int way,.int n,.bl wr,.u,.int told,.int r,.l false (Ms f),.int h,.int Z,.u,.u]/\M8 s b/\Al Z) (λ K o=>?_) ?_
     . refine qh8 ⟨rfl,rfl,?_⟩
       refine qs6 (ds:=[b,.int M,.int way,.int n,.bl wr,.u,.int told,.int r,.l false (Ms f),.int h,g,.u,.u]) (m:=r) rfl B rfl (by decide) (by lia) (by lia) λ v U v0 v1 B'=>?_
       have e2:0<=n * v:=Int.mul_nonneg (by lia) v0;have e3:n * v<=64 * v:=Int.mul_le_mul_of_nonneg_right n2 v0;exact qa1 (a:=D.int (n * v)) (mulL (qV9 (by lia) (by lia))) (qa1 (a:=D.int (h+n * v)) rfl (o _ ⟨U,h+n * v,rfl,B',by lia,by lia⟩))
     rintro c ⟨b,Z,rfl,B,a8⟩;refine if_v (b:=!decide (Z∈f)) (Ae rfl rfl qaw5) (λ hb=>?_) λ hb=>I _ ⟨b,f,_,_,rfl,B,X,Y,by lia⟩
     have C:¬ Z∈f:=λ z=>by rw[zA9 z] at hb;cases hb
     refine qaU8 (ys:=Ms f) (d:=.int Z) rfl rfl rfl (by decide) (by rw[qh4];unfold big;lia) ?_;rw[qN5];refine I _ ⟨b,f++[Z],_,_,rfl,B,zBt.mpr ⟨X,(by simp),λ x W y hy e=>C (by rw[<- zAj.mp hy,<- e];exact W)⟩,λ x W=>?_,by rw[zAd];exact Nat.add_le_add_right G 1⟩;rcases zAe.mp W with h | h
     . exact Y x h
     rw[zAj.mp h];exact a8
   rintro c ⟨b,f,u,g,rfl,B,X,Y,G⟩;rw[zAr,qh4] at G;exact o _ ⟨b,f,u,g,rfl,B,X,Y,by lia⟩
 rintro c ⟨b,f,u,g,rfl,B,X,Y,G⟩;refine qb0 [b,.int M,.int way,.int n,.bl wr,.u,.int told,.int r,.l false (Ms f),u,g,.l false (Mw []),.u] (λ K o=>o) ?_;refine qc9 (λ c=>∃ b j g l,c=[b,.int M,.int way,.int n,.bl wr,.u,.int told,.int r,.l false (Ms f),u,g,.l false (Mw j),l]/\M8 s b/\j.map (·.1)=f.take told.toNat/\∀ p∈j,Al p.2) (λ K o=>?_) ?_
 . have ec:Gd (Ms f) none (some told)=Ms (f.take told.toNat):=by rw[show told=((told.toNat:Nat):Int) by lia,qP7,Int.toNat_natCast];unfold Ms;rw[List.map_take]
   refine qr4 (qaT9 rfl rfl rfl ec) (qa1 (a:=Ms (f.take told.toNat)) rfl ⟨qj9 _,?_⟩);refine qf2 (λ i c=>∃ b j g l,c=[b,.int M,.int way,.int n,.bl wr,.u,.int told,.int r,.l false (Ms f),u,g,.l false (Mw j),l]/\M8 s b/\j.map (·.1)=(f.take told.toNat).take i/\∀ p∈j,Al p.2) _ 0 _ ⟨b,[],_,_,rfl,B,rfl,nofun⟩ ?_ ?_
   . rintro i x W c ⟨b,j,g,l,rfl,B,J,hq⟩ K2 I
     rw[zAr] at J I;obtain⟨k,hi,rfl⟩:=qaJ1 W;have a0:j.length<=64:=by have:=congrArg List.length J;simp at this;lia
     refine qr7 (As [b,.int M,.int way,.int n,.bl wr,.u,.int told,.int r,.l false (Ms f),u,.int k,.l false (Mw j),l] rfl ?_);refine qc9 (λ c=>∃ b v,c=[b,.int M,.int way,.int n,.bl wr,.u,.int told,.int r,.l false (Ms f),u,.int k,.l false (Mw j),.int v]/\M8 s b/\Al v) (λ K o=>?_) ?_
     . refine qh8 (qaB7 (qx4 (qh2 ?_)))
       refine qs6 (ds:=[b,.int M,.int way,.int n,.bl wr,.u,.int told,.int r,.l false (Ms f),u,.int k,.l false (Mw j),l]) (m:=n) rfl B rfl (by decide) (by lia) (by lia) λ V R a1 c1 B1=>qh2 (qH6 (x:=.int 1000000000000000000) rfl ?_)
       refine qs6 (ds:=[R,.int M,.int way,.int n,.bl wr,.u,.int told,.int r,.l false (Ms f),u,.int k,.l false (Mw j),l]) (m:=n) rfl B1 rfl (by decide) (by lia) (by lia) λ N O L S B2=>qa1 (a:=D.int (1000000000000000000 - N)) rfl (qh2 ?_)
       refine qd7 (ds:=[O,.int M,.int way,.int n,.bl wr,.u,.int told,.int r,.l false (Ms f),u,.int k,.l false (Mw j),l]) (m:=1000000000000000000) rfl B2 rfl (by decide) (by decide) λ x3 b3 a3 c3 B3=>qd5 ⟨by show 3<=1000000;decide,?_⟩
       refine qd7 (ds:=[b3,.int M,.int way,.int n,.bl wr,.u,.int told,.int r,.l false (Ms f),u,.int k,.l false (Mw j),l]) (m:=3) rfl B3 rfl (by decide) (by decide) λ x4 b4 a4 c4 B4=>?_
       obtain⟨v,ev,hv⟩:=qas2 (P:=Al) a4 c4 (x:=V) (y:=1000000000000000000 - N) (z:=x3) ⟨by lia,by lia⟩ ⟨by lia,by lia⟩ ⟨by lia,by lia⟩;exact qa1 ev (o _ ⟨b4,v,rfl,B4,hv⟩)
     rintro c ⟨b,v,rfl,B,hv⟩;refine qG5 (ys:=Mw j) (d:=.q [.int k,.int v]) rfl rfl (by rw[qaI8];unfold big;lia) ?_;rw[qaE5];refine I _ ⟨b,j++[(k,v)],_,_,rfl,B,by rw[zBe,J,qU7 hi];rfl,λ p C=>?_⟩;rcases zAe.mp C with h | h
     . exact hq p h
     rw[zAj.mp h];exact hv
   rintro c ⟨b,j,g,l,rfl,B,J,hq⟩;rw[zAr,qh4,List.take_length] at J;exact o _ ⟨b,j,g,l,rfl,B,J,hq⟩
 rintro c ⟨b,j,g,l,rfl,B,J,hq⟩;have hG:Ku j:=⟨by have:=congrArg List.length J;simp at this;lia,by rw[J];exact X.sublist (List.take_sublist _ _),λ p C=>⟨Y _ (List.mem_of_mem_take (by rw[<- J];exact List.mem_map_of_mem C)),hq p C⟩⟩
 refine qi6 (qas1 (qaB2 (qg4 (y:=.int n) rfl rfl (qg4 (y:=.bl wr) rfl rfl (qh2 (qaN3 (d:=.l false (Mw j)) rfl (qd5 ⟨by show 3<=1000000;decide,?_⟩)))))));refine qh2 (qa1 (a:=D.l false (Ms f)) rfl (qd5 ⟨by show 2<=1000000;decide,?_⟩));have e:(D.l false (Mw j)).fz=.l true (Mw j):=congrArg (D.l true) (qac4 j);rw[e];exact q b n wr j f B n1 n2 hG X Y G
theorem qat4:qa9 ["_law_plan", "_law_key"] ["_law_plan", "_law_key"] (qa3 qW6):=by walk_at "s"
def qat1:VSp:=Aw λ ds d=>∃ n wr ps k,ds=[Mp n wr ps,.int k]/\1<=n/\(ps.map (·.1)).Nodup/\d=.int (qb9 n ps k)
theorem qu2(T:Txt K mg a):VFn P w K mg base 1 a.f32 a.d32 ["_law_plan", "_law_key"] qat1:=by
 refine VFn.mk2 T.d32.F qat4 (wOf [true,true]) qb2 (λ c Q f h=>by obtain⟨d,⟨n,wr,b,k,e,_⟩,_⟩:=h;rw[e];exact⟨rfl,rfl⟩) (λ g A outer m H E o i=>⟨_,(Ag (An (qa4 (v2 (Aj qj5) qj4 (vget (hu_of i) (Ir (qG3 rfl) qar0.ops T.Eu (qa0 (v2 (Au qb5) Am (vnm 0) Af) qa6 rfl)) (vnm 1) (vnm 1) ⟨rfl,rfl,rfl,rfl⟩) (v2 (Au qb5) Am (vnm 0) Af))))),λ c Q f h=>?_⟩);obtain⟨d,⟨n,wr,b,k,rfl,p,j,rfl⟩,q⟩:=h;have l:Ba (fx1 Jg) (A9 (f2 gIx (rdN 0) (kC (.int 2))) λ _=>some []) [Mp n wr b,.int k]=some (.dct false (kvD b)):=by
   show Jg (.l true (Mw b))=_;exact qaq8 j
 exact qg5 _ (Ae (qac1 l rfl) (y:=.int n) rfl (Ff (by lia))) q
theorem qd6:qa9 ["_law_plan", "_law_keys", "_law_homes", "_law_found", "_law_on", "_law_turn", "_law_room"] ["_law_plan", "_law_keys"] (qa3 qt7):=by walk_at "s"
theorem qam2{n:Int}{ps:Pr}(a:1<=n){z:Bool}(ks:List Int)(r:Nat):Ka (.l z (Ms (ks.map (qb9 n ps)))) (.int (r:Nat))=some (.int (G5 (Mq n ps) ks r:Nat)):=by
 show ((flats (Ms (ks.map (qb9 n ps)))).bind λ b=>some (D.int (b.countP (λ z=>eqV z (.int (r:Nat))):Nat)))=_;rw[qv1];show some (D.int (((ks.map (qb9 n ps)).map V.int).countP (λ z=>eqV z (.int (r:Nat))):Nat))=_;congr 3;unfold G5;rw[List.countP_map,List.countP_map,List.countP_eq_length_filter];congr 1;refine List.filter_congr λ k _=>?_
 show decide (qb9 n ps k=(r:Nat))=_
 have:=qy6 (ps:=ps) a k
 exact zBz.mpr (by lia)
def onT(n:Int)(ps:Pr)(ks:List Int):Nat->Int:=onC (cR n.toNat (Mq n ps) ks)
def A6(n:Int)(ps:Pr)(ks:List Int)(i m:Nat):List Int:=(List.range m).map λ r=>onT n ps ks (n.toNat * i+r+1)
theorem qE2{n:Int}{ps:Pr}{m:Nat}:A6 n ps ks i m++[onT n ps ks (n.toNat * i+m+1)]=A6 n ps ks i (m+1):=by
 unfold A6;rw[List.range_succ,zBe];rfl
def qR9:VSp:=Aw λ ds d=>∃ n wr ps z ks,ds=[Mp n wr ps,.l z (Ms ks)]/\1<=n/\n<=64/\(ps.map (·.1)).Nodup/\ks.length<=200/\d=.l false (Ms (A6 n ps ks wr.toNat n.toNat))
theorem qS8(T:Txt K mg a):VFn P w K mg base 2 a.f35 a.d35 ["_law_plan", "_law_keys"] qR9:=by
 refine VFn.mk2 T.d35.F qd6 (wOf [true,true]) qb2 (λ f Q N h=>by obtain⟨d,⟨n,wr,b,z,c,e,_⟩,_⟩:=h;rw[e];exact⟨rfl,rfl⟩) (λ O A outer sh H E v S=>⟨_,(Ab (scN (NY:=["_law_key", "_law_plan"]) (src:=[none,some 0]) 2 1 qd6.nd (blk (λ v C G H0 I=>(Bc 0 (show (["_law_key", "_law_plan"]:List Str).Nodup by decide +kernel))) (λ v C G H0 I=>Ih) (λ v C G H0 I=>(Ah T.d32 (qu2 T) qp5 (rm S) (vaN 1 (vaN 0 Ac))))))
     (Ab (Ak 3 qd6.nd (qa4 (B8 qa6)))
     (Ab (Ak 4 qd6.nd (qa4 Af))
     (Ab (qS0 PassesOwn.leaving T.D1 (G0 (vaV (qa4 (v2 (Aj qf0) qe9 Af (Ir qam8 qaU1.ops T.Er (qa0 (v2 (Au qb5) Am (vnm 0) Af) qa6 rfl)))) Ac)) (Bc 5 qd6.nd)
     (Ab (Ak 3 qd6.nd (qa4 (B8 qa6)))
     (Ag (qS0 PassesOwn.leaving T.D1 (G0 (vaV (qb8 (v2 (Au qb5) Am (vnm 0) Af)) Ac)) (Bc 6 qd6.nd)
     (Ab (Ak 4 qd6.nd (qa4 (vbi (qQ4 rfl) qaq9.ops T.F7 (qa0 Af (qa0 (v2 (Aj qm7) qm6 (v2 (Aj qf0) qe9 (vnm 4) (vbm qaG6 PySem.F.plainAttrs_list PySem.F.slot_list_count PySem.F.type_list_count qY7 (vnm 2) (vnm 6) qar1)) Af) qa6 rfl) rfl))))
     (Ag (B6 (Fq 3 qx2 PySem.F.plainAttrs_list PySem.F.slot_list_append PySem.F.type_list_append qd9 (vaV (qb8 (vnm 4)) Ac)))))))))
     (Ag (An (emv 3))))))),λ f Q N h=>?_⟩)
 obtain⟨d,⟨n,wr,b,z,c,rfl,J,n2,U,hl,rfl⟩,q⟩:=h;refine As [Mp n wr b,.l z (Ms c),.u,.u,.u,.u,.u] rfl ?_;refine qb0 [Mp n wr b,.l z (Ms c),.l false (Ms (c.map (qb9 n b))),.u,.u,.u,.u] (λ K m=>qh8 (qa1 (a:=D.l z (Ms c)) rfl (qa1 (a:=Ms c) rfl ⟨qj9 c,?_⟩))) ?_
 . refine qk2 (λ ι=>∃ d,ι=[d,Mp n wr b]) (λ x=>some (match x with | .int k=>.int (qb9 n b k) | d=>d)) _ [] _ (by show 0+_ < 1000000;rw[qh4];lia) ⟨_,rfl⟩ ?_ ?_
   . rintro y V ι W ⟨d,rfl⟩ R X r
     obtain⟨k,_,rfl⟩:=zB8.mp V;exact qr7 (qar8 (Br rfl (qx5 (x:=Mp n wr b) (y:=.int k) (d:=.int (qb9 n b k)) rfl rfl rfl ⟨n,wr,b,k,rfl,J,U,rfl⟩ rfl ⟨r,X [.int k,Mp n wr b] ⟨_,rfl⟩⟩)))
   rintro ι ⟨d,rfl⟩;rw[zB6,qac6];have Y:((Ms c).map λ x=>match x with | .int k=>D.int (qb9 n b k) | d=>d)=Ms (c.map (qb9 n b)):=by unfold Ms;rw[List.map_map,List.map_map];rfl
   rw[Y];exact m
 generalize s:D.l false (Ms (c.map (qb9 n b)))=o;refine qb0 [Mp n wr b,.l z (Ms c),o,.l false [],.u,.u,.u] (λ K m=>m) ?_;refine qb0 [Mp n wr b,.l z (Ms c),o,.l false [],.int 0,.u,.u] (λ K m=>m) ?_;refine qc9 (λ f=>∃ L p l,f=[Mp n wr b,.l z (Ms c),o,.l false (Ms (A6 n b c wr.toNat n.toNat)),L,p,l]) (λ K m=>?_) ?_
 . refine qO5 (n:=((1+wr.toNat:Nat):Int)) (by cases wr<;>rfl) (qT1 (by lia) (by cases wr<;>decide)) ?_
   refine qf2 (λ i f=>∃ F p l,f=[Mp n wr b,.l z (Ms c),o,.l false F,.int (onT n b c (n.toNat * i)),p,l]/\(0 < i->F=Ms (A6 n b c (i - 1) n.toNat))) _ 0 _ ⟨_,_,_,rfl,λ h=>absurd h (by lia)⟩ ?_ ?_
   . rintro i x B f ⟨F,p,l,rfl,_⟩ K2 t
     rw[zAr] at t ⊢;obtain⟨hi,rfl⟩:=qW9 B;refine qr7 (As [Mp n wr b,.l z (Ms c),o,.l false F,.int (onT n b c (n.toNat * i)),.int (i:Nat),l] rfl ?_);refine qb0 [Mp n wr b,.l z (Ms c),o,.l false [],.int (onT n b c (n.toNat * i)),.int (i:Nat),l] (λ K m=>m) ?_;refine qL1 (n:=n) rfl (qT1 (by lia) (by lia)) ?_;refine qf2 (λ j f=>∃ l,f=[Mp n wr b,.l z (Ms c),o,.l false (Ms (A6 n b c i j)),.int (onT n b c (n.toNat * i+j)),.int (i:Nat),l]) _ 0 _ ⟨_,rfl⟩ ?_ ?_
     . rintro j x B f ⟨l,rfl⟩ K3 u
       rw[zAr] at u ⊢;obtain⟨Z,rfl⟩:=qW9 B;refine qr7 (As [Mp n wr b,.l z (Ms c),o,.l false (Ms (A6 n b c i j)),.int (onT n b c (n.toNat * i+j)),.int (i:Nat),.int (j:Nat)] rfl ?_);refine qb0 [Mp n wr b,.l z (Ms c),o,.l false (Ms (A6 n b c i j)),.int (onT n b c (n.toNat * i+j+1)),.int (i:Nat),.int (j:Nat)] (λ K m=>qq0 ?_ m) ?_
       . have hc:Ka o (.int (j:Nat))=some (.int (G5 (Mq n b) c j:Nat)):=by rw[<- s];exact qam2 J c j
         have e:=Ae (g:=gSub) (y:=.int 1) (Ae (g:=Jw) (fa:=rdN 4) (ds:=[Mp n wr b,.l z (Ms c),o,.l false (Ms (A6 n b c i j)),.int (onT n b c (n.toNat * i+j)),.int (i:Nat),.int (j:Nat)]) (x:=.int (onT n b c (n.toNat * i+j))) rfl (Ae (g:=Ka) (fa:=rdN 2) (fb:=rdN 6) (by rw[<- s];rfl) rfl hc) rfl) (fb:=kC (.int 1)) rfl rfl;unfold Ba A9;rw[e];have em:cR n.toNat (Mq n b) c (n.toNat * i+j)=G5 (Mq n b) c j:=by unfold cR;rw[Nat.mul_add_mod,zC7 Z]
         show some (D.int (if onT n b c (n.toNat * i+j)+(G5 (Mq n b) c j:Nat) - 1 > 0 then onT n b c (n.toNat * i+j)+(G5 (Mq n b) c j:Nat) - 1 else 0))=some (D.int (if onC (cR n.toNat (Mq n b) c) (n.toNat * i+j)+(cR n.toNat (Mq n b) c (n.toNat * i+j):Int) - 1 > 0 then onC (cR n.toNat (Mq n b) c) (n.toNat * i+j)+(cR n.toNat (Mq n b) c (n.toNat * i+j):Int) - 1 else 0));rw[em];rfl
       refine qae6 (ys:=Ms (A6 n b c i j)) (d:=.int (onT n b c (n.toNat * i+j+1))) rfl rfl rfl (by rw[qh4];unfold A6 big;rw[zA8,zBa];lia) ?_;rw[qN5,qE2];exact u _ ⟨_,rfl⟩
     rintro f ⟨l,rfl⟩;rw[zAr,qZ5,show n.toNat * i+n.toNat=n.toNat * (i+1) by rw[Nat.mul_add,Nat.mul_one]];exact t _ ⟨_,_,_,rfl,λ _=>rfl⟩
   rintro f ⟨F,p,l,rfl,M⟩;rw[zAr,qZ5,Int.toNat_natCast] at M;rw[M (by lia),show 1+wr.toNat - 1=wr.toNat by lia];exact m _ ⟨_,_,_,rfl⟩
 rintro f ⟨L,p,l,rfl⟩;exact q
theorem qd8:qa9 ["_law_plan", "_law_keys", "_law_passing_here", "_law_begin", "_law_found", "_law_at", "_law_on", "_law_key"] ["_law_plan", "_law_keys"] (qa3 qA4):=by walk_at "s"
theorem qap4:∀ ps:List (Int×Int),(Mw ps).mapM Kb=some ps
 | []=>rfl
 | p::r=>by
   show List.mapM Kb (D.q [.int p.1,.int p.2]::Mw r)=_;rw[List.mapM_cons,qap4 r];rfl
theorem qag7{z:Bool}{L:Pr}{f:Int->Int}(e:L=S.map λ k=>(f k,k))(a:S.Nodup)(b:S.length<=64):qaq4 (.l z (Mw L))=some (.l false (Mw (Fd L))):=by
 show ((Mw _).mapM Kb).bind _=_;rw[qap4];refine qm0 ⟨?_,by rw[e,zA8];exact b⟩;rw[e];exact zBl.mpr (a.imp λ h z=>h (congrArg Prod.snd z))
theorem qX9{f:Int->Nat}:((Fd (ks.map λ k=>(((f k:Nat):Int),k))).map (·.2)).Perm ks:=by
 have h:((Fd (ks.map λ k=>(((f k:Nat):Int),k))).map (·.2)).Perm ((ks.map λ k=>(((f k:Nat):Int),k)).map (·.2)):=(List.mergeSort_perm _ _).map _;rw[List.map_map] at h;have e:ks.map ((·.2) ∘ λ k=>(((f k:Nat):Int),k))=ks:=List.map_id ks;rwa[e] at h
theorem qY0{f:Int->Nat}{p:Int×Int}(a:p∈Fd (ks.map λ k=>(((f k:Nat):Int),k))):p.1=(f p.2:Nat):=by
 rw[List.mem_mergeSort] at a;obtain⟨k,_,rfl⟩:=zB8.mp a;rfl
theorem qaP7{f:Int->Nat}(b:ks.Nodup):((Fd (ks.map λ k=>(((f k:Nat):Int),k))).map (·.2)).Pairwise (Kt f):=by
 have a:=(qX9 (f:=f)).nodup_iff.mpr b;unfold List.Nodup at a;rw[zBl] at a ⊢;refine((qV7 _).and a).imp_of_mem λ{p q} c d h=>?_
 have g:=qY0 c;have i:=qY0 d;have e:=h.1;simp only[S6.plt,decide_eq_false_iff_not] at e;have j:=h.2;unfold Kt;lia
theorem qaS9{z:Bool}:∀{L R:List Int},¬ k∈L->K9 (.l z (Ms (L++k::R))) (.int k)=some (.int (L.length:Nat)):=by
 intro L R h;have e:Gp (.int k) ((L++k::R).map V.int)=some L.length:=by
   induction L with
   | nil=>show (if decide (k=k)=true then some 0 else _)=_;rw[if_pos (zA9 rfl)];rfl
   | cons a L b =>
     rw[zAm,not_or] at h;show (if decide (a=k)=true then some 0 else (Gp (.int k) ((L++k::R).map V.int)).map (· + 1))=_;rw[if_neg (by simpa using λ z=>h.1 z.symm),b h.2];rfl
 show ((flats (Ms (L++k::R))).bind λ c=>(Gp (.int k) c).map λ j=>D.int (j:Nat))=_;rw[qv1];show (Gp (.int k) ((L++k::R).map V.int)).map (λ j=>D.int (j:Nat))=_;rw[e];rfl
theorem qX6{n:Int}{ps:Pr}{z:Bool}(h:1<=n):gIx (.l z (Ms (A6 n ps ks i n.toNat))) (.int (-1))=some (.int (onT n ps ks (n.toNat * i+n.toNat))):=by
 obtain⟨m,e⟩:∃ m,n.toNat=m+1:=⟨n.toNat - 1,by lia⟩
 have e2:A6 n ps ks i n.toNat=A6 n ps ks i m++[onT n ps ks (n.toNat * i+m+1)]:=by rw[qE2,e]
 rw[e2,show n.toNat * i+n.toNat=n.toNat * i+m+1 by lia];unfold Ms;rw[zBe];exact qaA3 _ _
def qV6:VSp:=λ ds Q _=>∃ n wr ps z ks,ds=[Mp n wr ps,.l z (Ms ks)]/\1<=n/\n<=64/\(ps.map (·.1)).Nodup/\ks.Nodup/\ks.length<=200 /\
 ((∃ q,Crowd n.toNat wr (Mq n ps) ks q)->Q .non ds)/\((∀ q,¬ Crowd n.toNat wr (Mq n ps) ks q)->∀ g,Kept n.toNat wr (Mq n ps) g ks->Q (.l false (Mu n.toNat g)) ds)
theorem qu1(T:Txt K mg a):VFn P w K mg base 3 a.f36 a.d36 ["_law_plan", "_law_keys"] qV6:=by
 refine VFn.mk2 T.d36.F qd8 (wOf [true,true]) (λ o Q Q' xe a4 hQ _ h=>by obtain⟨n,wr,j,z,l,e,v,h2,h3,h4,h5,q,q'⟩:=h;exact⟨n,wr,j,z,l,e,v,h2,h3,h4,h5,λ h=>hQ _ _ (q h),λ h g z=>hQ _ _ (q' h g z)⟩) (λ o Q xe h=>by obtain⟨n,wr,j,z,l,e,_⟩:=h;rw[e];exact⟨rfl,rfl⟩) (λ a5 A outer sh H E av t=>⟨_,(Ab (sif (q2 (Aq Bu (qb1 _)) Bz (vbi qr9 qr8.ops T.Cu (qa0 (vnm 1) qa6 rfl)) (v2 (Au qb5) Am (vnm 0) Af))
     (Ag (An (qa4 A7)))
     At)
     (Ab (Ak 2 qd8.nd (Ah T.d35 (qS8 T) qa2 (rm t) (vaN 0 (vaN 1 Ac))))
     (Ab (sif (tand (Bh (tv (v2 (Au qb5) Am (vnm 0) Af))) (K5 (q2 (Aq Bu (qb1 _)) Bz (v2 (Au qb5) Am (vnm 2) (vneg Af)) Af))).te
     (Ag (An (qa4 A7)))
     At)
     (Ab (Ak 3 qd8.nd (qa4 Af))
     (Ab (sif (tv (v2 (Au qb5) Am (vnm 0) Af))
     (Ag (Ak 3 qd8.nd (qa4 (v2 (Aj qf0) qe9 (vbm qav8 PySem.F.plainAttrs_list PySem.F.slot_list_index PySem.F.type_list_index qK4 (vnm 2) Af qab5) Af))))
     At)
     (Ab (Ak 4 qd8.nd (qa4 (v2 (Aj qw7) qw6 (B8 (qa0 A7 qa6 rfl)) (v2 (Au qb5) Am (vnm 0) Af))))
     (Ab (Ak 5 qd8.nd (qa4 (vneg Af)))
     (Ab (La PassesOwn.leaving (ebi qae0 qaz6.ops T.Dv (G0 (vaV (ecN (NY:=["_law_key", "_law_begin", "_law_plan"]) (src:=[none,some 3,some 0]) 1 (blk (λ av C s0 H0 ex=>(Bc 0 (show (["_law_key", "_law_begin", "_law_plan"]:List Str).Nodup by decide +kernel))) (λ av C s0 H0 ex=>Ih) (λ av C s0 H0 ex=>(Iv (vaV (e2v (Aj qj5) qj4 (e2v (Aj qm7) qm6 (Ah T.d32 (qu2 T) qp5 (rm t) (vaN 2 (vaN 0 Ac))) (vnm 1)) (v2 (Au qb5) Am (vnm 2) Af)) (vaV (qb8 (vnm 0)) Ac)))))) Ac))) (Jl (n:=2) rfl (qF6 (Bc 6 qd8.nd) (qF6 (Bc 7 qd8.nd) Jk)))
     (Ab (Ak 5 qd8.nd (qa4 (vbi (qQ4 rfl) qaq9.ops T.F7 (qa0 (v2 (Aj qf0) qe9 (vnm 5) Af) (qa0 (vnm 6) qa6 rfl) rfl))))
     (Ag (G9 (qb8 (vnm 7)) (Gh (vpn 4) (v2 (Aj qj5) qj4 (v2 (Aj qf0) qe9 (vnm 3) (vnm 5)) (v2 (Au qb5) Am (vnm 0) Af)))))))
     (Ag (An (emv 4))))))))))),λ o Q xe h=>?_⟩)
 obtain⟨n,wr,j,z,l,rfl,O,n2,nd,S,hl,q,q'⟩:=h;have B:=Gu (ps:=j) O;have oc:=qai3 (T:=l) (by lia) B;refine As [Mp n wr j,.l z (Ms l),.u,.u,.u,.u,.u,.u] rfl ?_;refine qg8 (decide (n < (l.length:Int))) (Ae (qu6 rfl) (y:=.int n) rfl (by rw[qh4];rfl)) (λ h=>qg5 .non rfl (q ⟨0,by lia,?_⟩)) λ h=>?_
 . have h:=zAa h
   cases wr with
   | true=>rw[if_pos rfl];exact⟨rfl,by lia⟩
   | false=>rw[if_neg (by decide),List.filter_eq_self.mpr λ _ _=>zA9 (zBi _)];lia
 have a0:l.length<=n.toNat:=by have:=zBg h;lia
 refine qb0 [Mp n wr j,.l z (Ms l),.l false (Ms (A6 n j l wr.toNat n.toNat)),.u,.u,.u,.u,.u] (λ K m=>qh8 (qx5 (x:=Mp n wr j) (y:=.l z (Ms l)) rfl rfl rfl ⟨n,wr,j,z,l,rfl,O,n2,nd,hl,rfl⟩ rfl m)) ?_;refine qg1 (!wr&&decide (0 < onT n j l (n.toNat * wr.toNat+n.toNat))) (λ Q q=>qs5 (!wr) (decide (0 < onT n j l (n.toNat * wr.toNat+n.toNat))) (λ Q q=>qh9 (b:=wr) rfl q) (λ _ Q q=>qh0 (Ae (Ae rfl rfl (qX6 O)) rfl rfl) q) q) (λ h=>qg5 .non rfl (q ?_)) λ h=>?_
 . cases wr with
   | true=>cases h
   | false =>
     have h:=zAa h;rw[show n.toNat * false.toNat+n.toNat=n.toNat by show n.toNat * 0+_=_;lia] at h;exact oc.mp h
 refine qb0 [Mp n wr j,.l z (Ms l),.l false (Ms (A6 n j l wr.toNat n.toNat)),.int 0,.u,.u,.u,.u] (λ K m=>m) ?_;refine qc9 (λ o=>∃ s:Nat,o=[Mp n wr j,.l z (Ms l),.l false (Ms (A6 n j l wr.toNat n.toNat)),.int (s:Nat),.u,.u,.u,.u]/\s<=n.toNat/\(wr=false->s=0)/\(∀ q,¬ Crowd n.toNat wr (Mq n j) l q)/\∀ q,¬ Crowd n.toNat false (λ k=>Aa n.toNat (s % n.toNat) (Mq n j k)) l q) (λ K m=>?_) ?_
 . refine if_v (b:=wr) rfl (λ G=>?_) λ G=>m _ ⟨0,rfl,by lia,λ _=>rfl,?_,?_⟩
   . subst G
     obtain⟨r,t,h0⟩:=qaw1 (T:=l) (by lia) B a0;have hm:(0:Int)∈A6 n j l 1 n.toNat:=zB8.mpr ⟨r,zAp.mpr t,by rw[Nat.mul_one];exact h0⟩;obtain⟨L,R,U,nL⟩:=List.eq_append_cons_of_mem hm;have V:L.length < n.toNat:=by
       have:=congrArg List.length U
       unfold A6 at this;simp at this;lia
     have v:onT n j l (n.toNat+L.length+1)=0:=by
       have:(A6 n j l 1 n.toNat)[L.length]? = some 0:=by rw[U];simp
       unfold A6 at this;rw[zBb,List.getElem?_range V,Nat.mul_one] at this;exact Option.some.inj this
     refine qq0 (d:=.int ((L.length+1:Nat):Int)) (Ae (g:=Jw) (y:=.int 1) (Ae (g:=K9) (x:=.l false (Ms (L++0::R))) (y:=.int 0) (by rw[<- U];rfl) rfl (qaS9 nL)) rfl rfl) (m _ ⟨L.length+1,rfl,by lia,λ h=>absurd h (by decide),λ q c=>?_,qE7 V B v⟩);have c:=c.2;rw[if_pos rfl] at c;lia
   . subst G
     have h:decide _=false:=h;rw[show n.toNat * false.toNat+n.toNat=n.toNat by show n.toNat * 0+_=_;lia] at h;exact λ q c=>zBg h (oc.mpr ⟨q,c⟩)
   subst G;have h:decide _=false:=h;rw[show n.toNat * false.toNat+n.toNat=n.toNat by show n.toNat * 0+_=_;lia] at h;rw[Nat.zero_mod,show (λ k=>Aa n.toNat 0 (Mq n j k))=Mq n j from funext λ k=>Jc];exact λ q c=>zBg h (oc.mpr ⟨q,c⟩)
 rintro o ⟨s,rfl,hs,G,nc,a1⟩;have I:s % n.toNat < n.toNat:=Nat.mod_lt _ (by lia);generalize eP:D.l false (Ms (A6 n j l wr.toNat n.toNat))=J;refine qb0 [Mp n wr j,.l z (Ms l),J,.int (s:Nat),.l false (Mu n.toNat λ _=>none),.u,.u,.u] (λ K m=>qq0 (Ae rfl (y:=.int n) rfl (qY6 (by lia) n2)) m) ?_;refine qb0 [Mp n wr j,.l z (Ms l),J,.int (s:Nat),.l false (Mu n.toNat λ _=>none),.int (-1),.u,.u] (λ K m=>m) ?_;refine qc9 (λ o=>∃ g d5 M N,o=[Mp n wr j,.l z (Ms l),J,.int (s:Nat),.l false (Mu n.toNat g),d5,M,N]/\Kept n.toNat wr (Mq n j) g l) (λ K m=>?_) ?_
 . refine co_to (qh2 (qa1 (a:=D.l z (Ms l)) rfl (qa1 (a:=Ms l) rfl ⟨qj9 l,?_⟩)))
   refine qk2 (λ ι=>∃ d,ι=[d,.int (s:Nat),Mp n wr j]) (λ x=>some (match x with | .int k=>.q [.int (Aa n.toNat (s % n.toNat) (Mq n j k):Nat),.int k] | d=>d)) _ [] _ (by show 0+_ < 1000000;rw[qh4];lia) ⟨_,rfl⟩ ?_ ?_
   . rintro y W ι a6 ⟨d,rfl⟩ R hR X
     obtain⟨k,_,rfl⟩:=zB8.mp W;have this:=hR [.int k,.int (s:Nat),Mp n wr j] ⟨_,rfl⟩;refine qr7 (qar8 (Br rfl (qh2 (qD1 (qD1 (qx5 (x:=Mp n wr j) (y:=.int k) (d:=.int (qb9 n j k)) rfl rfl rfl ⟨n,wr,j,k,rfl,O,nd,rfl⟩ rfl ?_))))));refine qa1 (a:=D.int (qb9 n j k - (s:Nat))) rfl (qa1 (a:=D.int (Aa n.toNat (s % n.toNat) (Mq n j k):Nat)) ((Ff (by lia)).trans ?_) (qg4 (y:=.int k) rfl rfl (qd5 ⟨by show 2<=1000000;decide,X,this⟩)));have v:=qaw9 (B k) hs;rw[qy6 O k,show ((n.toNat:Nat):Int)=n by lia] at v;rw[v]
   rintro ι ⟨d,rfl⟩;rw[zB6,qac6];have U:((Ms l).map λ x=>match x with | .int k=>D.q [.int (Aa n.toNat (s % n.toNat) (Mq n j k):Nat),.int k] | d=>d)=Mw (l.map λ k=>((Aa n.toNat (s % n.toNat) (Mq n j k):Nat),k)):=by
     unfold Ms Mw;rw[List.map_map,List.map_map];rfl
   rw[U];have pw:=qaP7 (f:=λ k=>Aa n.toNat (s % n.toNat) (Mq n j k)) S;have pm:=qX9 (f:=λ k=>Aa n.toNat (s % n.toNat) (Mq n j k)) (ks:=l);have of:=λ p=>qY0 (f:=λ k=>Aa n.toNat (s % n.toNat) (Mq n j k)) (ks:=l) (p:=p)
   have es:=qag7 (z:=false) (L:=l.map λ k=>(((Aa n.toNat (s % n.toNat) (Mq n j k):Nat):Int),k)) rfl S (by lia);generalize Fd (l.map λ k=>(((Aa n.toNat (s % n.toNat) (Mq n j k):Nat):Int),k))=L at pw pm of es;refine qd5 (qa1 (a:=D.l false (Mw L)) es (qa1 (a:=Mw L) rfl ⟨qF1 L,?_⟩));refine qf2 (λ i o=>∃ g top M N,o=[Mp n wr j,.l z (Ms l),J,.int (s:Nat),.l false (Mu n.toNat λ i=>g (Aa n.toNat (s % n.toNat) i)),.int ((top:Nat) - 1:Int),M,N]/\Fill n.toNat (λ k=>Aa n.toNat (s % n.toNat) (Mq n j k)) g ((L.take i).map (·.2)) top) _ 0 _ ⟨_,0,_,_,rfl,Fill.start (by lia) λ k=>qh6 (B k) I⟩ ?_ ?_
   . rintro i y W o ⟨g,top,M,N,rfl,F⟩ K2 Y
     rw[zAr] at F Y;unfold Mw at W;rw[zBb] at W;obtain⟨⟨h0,k⟩,hp,rfl⟩:=zAk.mp W;obtain rfl:h0=((Aa n.toNat (s % n.toNat) (Mq n j k):Nat):Int):=of _ (zB4 hp);have a2:=(zA6.mp hp).1;have a3:L.map (·.2)=((L.take i).map (·.2)++[k])++(L.drop (i+1)).map (·.2):=by
       conv=>lhs;rw[<- zBd i L,List.drop_eq_getElem_cons a2,(zA6.mp hp).2]
       simp
     have tk:(L.take (i+1)).map (·.2)=(L.take i).map (·.2)++[k]:=by rw[List.take_add_one,hp,zBe];rfl
     rw[a3] at pw pm;have u:∀ x∈(L.take i).map (·.2),Kt (λ k=>Aa n.toNat (s % n.toNat) (Mq n j k)) x k:=λ x hx=>(List.pairwise_append.mp (List.pairwise_append.mp pw).1).2.2 x hx k (zAj.mpr rfl)
     have nk:¬ k∈(L.take i).map (·.2):=λ h=>by rcases u k h with z | z<;>lia
     have t:=F.room u λ q c=>a1 q ((c.mono (List.sublist_append_left _ _)).perm pm)
     have F':=F.put nk u t;generalize er:max top (Aa n.toNat (s % n.toNat) (Mq n j k))=r at t F';refine qp8 (As [Mp n wr j,.l z (Ms l),J,.int (s:Nat),.l false (Mu n.toNat λ i=>g (Aa n.toNat (s % n.toNat) i)),.int ((top:Nat) - 1:Int),.int (Aa n.toNat (s % n.toNat) (Mq n j k):Nat),.int k] rfl ?_);refine qb0 [Mp n wr j,.l z (Ms l),J,.int (s:Nat),.l false (Mu n.toNat λ i=>g (Aa n.toNat (s % n.toNat) i)),.int (r:Nat),.int (Aa n.toNat (s % n.toNat) (Mq n j k):Nat),.int k] (λ K m=>qq0 (d:=.int (r:Nat)) ?_ m) ?_
     . show some (D.int (if ((Aa n.toNat (s % n.toNat) (Mq n j k):Nat):Int) > (top:Nat) - 1+1 then ((Aa n.toNat (s % n.toNat) (Mq n j k):Nat):Int) else (top:Nat) - 1+1))=_
       congr 2
       split<;>lia
     have em:(((s:Nat):Int)+(r:Nat)) % n=(rot n.toNat (s % n.toNat) r:Nat):=by
       have:((s+r:Nat):Int) % ((n.toNat:Nat):Int)=((s+r) % n.toNat:Nat):=by lia
       rw[show ((n.toNat:Nat):Int)=n by lia,Nat.add_mod,zC7 t,qao0 I t] at this;rw[<- this];congr 1
     refine qD2 (ys:=Mu n.toNat λ i=>g (Aa n.toNat (s % n.toNat) i)) (d:=.int k) (k:=(rot n.toNat (s % n.toNat) r:Nat)) rfl rfl rfl (Ae (x:=.int ((s:Nat)+(r:Nat))) (y:=.int n) rfl rfl ((Ff (by lia)).trans (by rw[em]))) (qaj9 (qaC8 I t)) ?_;rw[qz8];have ec:Mu n.toNat (Row.set (λ i=>g (Aa n.toNat (s % n.toNat) i)) (rot n.toNat (s % n.toNat) r) k)=Mu n.toNat λ i=>Row.set g r k (Aa n.toNat (s % n.toNat) i):=qA5 λ i hi=>by
       by_cases e:i=rot n.toNat (s % n.toNat) r
       . subst e;rw[qb6,qL4 I t,qb6]
       rw[qd0 e,qd0 λ z=>e (by rw[<- z,qW8 I hi])]
     refine Y _ ⟨_,r+1,.int (Aa n.toNat (s % n.toNat) (Mq n j k):Nat),.int k,?_,by rw[tk];exact F'⟩;rw[<- ec,show (((r+1:Nat):Int) - 1)=((r:Nat):Int) by lia];rfl
   rintro o ⟨g,top,M,N,rfl,F⟩;have Z:(Mw L).length=L.length:=zA8 _;rw[zAr,Z,List.take_length] at F;refine m _ ⟨_,_,_,_,rfl,?_⟩;have K1:=F.k.of_perm pm;cases wr with
   | true=>exact K1.turn I B
   | false =>
     obtain rfl:=G rfl;rw[Nat.zero_mod] at K1 ⊢;rw[show (λ k=>Aa n.toNat 0 (Mq n j k))=Mq n j from funext λ k=>Jc] at K1;rw[show (λ i=>g (Aa n.toNat 0 i))=g from funext λ i=>by rw[Jc]];exact K1
 rintro o ⟨g,d5,M,N,rfl,KP⟩;exact q' nc g KP
theorem qah1:qa9 ["_law_found"] ["_law_found"] (qa3 qI9):=by walk_at "s"
def qag1:VSp:=Aw λ ds d=>∃ x t,ds=[x]/\x.kind=some t/\d=.bl (Ht t "int" && !(Ht t "bool"))
theorem qB1(T:Txt K mg a):VFn P w K mg base 1 a.f29 a.d29 ["_law_found"] qag1:=by
 refine VFn.mk2 T.d29.F qah1 (wOf [true]) qb2 (λ f Q g h=>by obtain⟨d,⟨x,t,e,_⟩,_⟩:=h;rw[e];exact⟨rfl,rfl⟩) (λ i A outer k H E l m=>⟨_,(Ag (An (qa4 (K6 (vbi qg2 qv4.ops T.Cc (qa0 (vnm 0) (qa0 (vty "int" T.Er) qa6 rfl) rfl)) (Iq (vnot (vbi qg2 qv4.ops T.Cc (qa0 (vnm 0) (qa0 (vty "bool" T.Ee) qa6 rfl) rfl)))))))),λ f Q g h=>?_⟩);obtain⟨d,⟨x,t,rfl,b,rfl⟩,q⟩:=h;refine As [x] rfl ?_;have c:∀ n:String,Jz n=true->Ba (fx2 gIsi) (A9 (rdN 0) (A9 (kC (D.ty n)) λ _=>some [])) [x]=some (.bl (Ht t n)):=λ n j=>by
   unfold Ba A9;rw[rd0 (qj8 b)];show (if Jz n=true then x.kind.map λ t=>D.bl (Ht t n) else none)=_;rw[if_pos j,b];rfl
 exact qg5 _ (qP2 (c "int" rfl) (A8 (c "bool" rfl) rfl)) q
theorem qah2:qa9 ["_law_plan", "_law_keys", "_law_room"] ["_law_plan", "_law_keys", "_law_room"] (qa3 qJ3):=by walk_at "s"
def qag5:VSp:=Aw λ ds d=>∃ n wr ps z ks r,ds=[Mp n wr ps,.l z (Ms ks),.int r]/\1<=n/\(ps.map (·.1)).Nodup/\ks.length<=1000/\0<=r/\r < n/\d=.bl (qC5 n wr ps ks r)
theorem qai7(T:Txt K mg a):VFn P w K mg base 2 a.f40 a.d40 ["_law_plan", "_law_keys", "_law_room"] qag5:=by
 refine VFn.mk2 T.d40.F qah2 (wOf [true,true,true]) qb2 (λ p Q s h=>by obtain⟨d,⟨n,wr,c,z,f,r,e,_⟩,_⟩:=h;rw[e];exact⟨rfl,rfl⟩) (λ t A outer L H E i j=>⟨_,(Ab (sif (tor (Bh (te (Ah T.d29 (qB1 T) qa2 (rm j) (vaN 2 Ac)))) (Ib (Bh (qch Kf Kx Ke Kw Af (vnm 2) (v2 (Au qb5) Am (vnm 0) Af))))).te
     (Ag (An (qa4 vbl)))
     At)
     (Ab (sif (tv (v2 (Au qb5) Am (vnm 0) Af))
     (Ag (An (qa4 (K6 (v2 (Ax (qj6 j.u64) (qb1 _)) Bf (vnm 2) Af) (Iq (v2 (Ax Bu (qb1 _)) Bz (vbi qr9 qr8.ops T.Cu (qa0 (vnm 1) qa6 rfl)) (v2 (Au qb5) Am (vnm 0) Af)))))))
     At)
     (Ag (An (e2v (Ax Bu (qb1 _)) Bz (ebi qr9 qr8.ops T.Cu (G0 (vaV (ecN (NY:=["_law_key", "_law_room", "_law_plan"]) (src:=[none,some 2,some 0]) 1 (blk (λ i C m H0 o=>(Bc 0 (show (["_law_key", "_law_room", "_law_plan"]:List Str).Nodup by decide +kernel))) (λ i C m H0 o=>(Ii (q2v (Ax Gs (qb1 _)) (Aq Gs (qb1 _)) Hy (Ah T.d32 (qu2 T) qp5 (rm j) (vaN 2 (vaN 0 Ac))) (vnm 1)))) (λ i C m H0 o=>(qb8 (vnm 0))))) Ac))) (v2 (Aj qm7) qm6 (v2 (Au qb5) Am (vnm 0) Af) (vnm 2))))))),λ p Q s h=>?_⟩)
 obtain⟨d,⟨n,wr,c,z,f,r,rfl,u,v,M,B,G,rfl⟩,q⟩:=h;refine As [Mp n wr c,.l z (Ms f),.int r] rfl ?_;unfold qC5 at q;refine qg1 false (λ Q q=>?_) (λ h=>nomatch h) λ _=>?_
 . refine qh1 false false (λ Q q=>qaI3 (x:=.int r) (d:=.bl true) rfl ⟨_,_,rfl,rfl,rfl⟩ rfl q) (λ _ Q q=>qh9 (b:=true) ?_ q) q
   show (if decide (0<=r)=true then some (D.bl (decide (r < n))) else some (.bl false))=_;rw[if_pos (zA9 B),zA9 G]
 refine qg8 wr rfl (λ h=>?_) λ h=>?_
 . subst h
   rw[if_pos rfl] at q;refine qg5 _ (qP2 (a:=decide (r=0)) (b:=decide (n < (f.length:Int))) rfl (Ae (x:=.int (f.length:Nat)) (y:=.int n) (by rw[qu6 (z:=z) (ys:=Ms f) rfl,qh4]) rfl rfl)) q
 subst h;rw[if_neg (by decide)] at q;refine qi6 (qD1 (co_to (qh2 (qa1 (a:=D.l z (Ms f)) rfl (qa1 (a:=Ms f) rfl ⟨qj9 f,?_⟩)))));refine qk2 (λ ι=>∃ d,ι=[d,.int r,Mp n false c]) (G2 λ k=>decide (r<=qb9 n c k)) _ [] _ (by show 0+_ < 1000000;rw[qh4];lia) ⟨_,rfl⟩ ?_ ?_
 . rintro y I ι l ⟨d,rfl⟩ R J g
   obtain⟨k,_,rfl⟩:=zB8.mp I;have this:=J [.int k,.int r,Mp n false c] ⟨_,rfl⟩;refine qr7 (qah7 (qx5 (x:=Mp n false c) (y:=.int k) (d:=.int (qb9 n c k)) rfl rfl rfl ⟨n,false,c,k,rfl,u,v,rfl⟩ rfl ?_));refine qa1 (a:=D.bl (decide (r<=qb9 n c k))) rfl (qa1 (a:=decide (r<=qb9 n c k)) rfl (ite_b (λ h=>?_) λ h=>?_))
   . rw[qaa5 (by exact h)] at this
     exact qu9 (d:=.int k) rfl rfl ⟨g,this⟩
   rw[qaa6 (by exact h)] at this;have this:R (l++[]) _:=this;rw[zAf] at this;exact this
 rintro ι ⟨d,rfl⟩;rw[qB8,zB6];refine qd5 (qa1 (a:=D.int ((f.filter λ k=>decide (r<=qb9 n c k)).length:Nat)) (by show some (D.int ((Ms _).length:Nat))=_;rw[qh4]) ?_);exact qa1 (a:=D.bl _) rfl q
theorem qan7:qa9 ["_law_plan", "_law_key", "_law_room", "_law_on"] ["_law_plan", "_law_key", "_law_room"] (qa3 qat6):=by walk_at "s"
def qaC1:VSp:=Aw λ ds d=>∃ n wr ps k r,ds=[Mp n wr ps,.int k,.int r]/\1<=n/\(ps.map (·.1)).Nodup/\d=G1 (Av n wr ps k r)
theorem qap3(T:Txt K mg a):VFn P w K mg base 2 a.f33 a.d33 ["_law_plan", "_law_key", "_law_room"] qaC1:=by
 refine VFn.mk2 T.d33.F qan7 (wOf [true,true,true]) qb2 (λ f Q g h=>by obtain⟨d,⟨n,wr,c,k,r,e,_⟩,_⟩:=h;rw[e];exact⟨rfl,rfl⟩) (λ i A outer p H E s j=>⟨_,(Ab (Ak 3 qan7.nd (e2n 2 (Aj qm7) qm6 (Ah T.d32 (qu2 T) qa2 (rm j) (vaN 0 (vaN 1 Ac)))))
     (Ab (sif (tv (v2 (Au qb5) Am (vnm 0) Af))
     (Ag (An (qa4 (v2 (Aj qj5) qj4 (vnm 3) (v2 (Au qb5) Am (vnm 0) Af)))))
     At)
     (Ag (An (eif (q2 (Aq Gs (qb1 _)) Hy (vnm 3) Af) (qb8 (vnm 3)) (qa4 A7)))))),λ f Q g h=>?_⟩)
 obtain⟨d,⟨n,wr,c,k,r,rfl,l,m,rfl⟩,q⟩:=h;refine As [Mp n wr c,.int k,.int r,.u] rfl ?_;refine qb0 [Mp n wr c,.int k,.int r,.int (r - qb9 n c k)] (λ K o=>⟨rfl,qx5 (x:=Mp n wr c) (y:=.int k) (d:=.int (qb9 n c k)) rfl rfl rfl ⟨n,wr,c,k,rfl,l,m,rfl⟩ rfl (qa1 (a:=D.int (r - qb9 n c k)) rfl o)⟩) ?_;unfold Av at q;refine qg8 wr rfl (λ h=>?_) (λ h=>?_)
 . subst h
   exact qg5 (.int ((r - qb9 n c k) % n)) (Ae rfl (y:=.int n) rfl (Ff (by lia))) q
 subst h;refine qi6 (Hh (b:=decide (0<=r - qb9 n c k)) rfl (λ h=>?_) (λ h=>?_))
 . rw[if_neg (by decide),if_pos (zAa h)] at q
   exact⟨rfl,q⟩
 rw[if_neg (by decide),if_neg (zBg h)] at q;exact q
theorem qA2:qa9 ["_law_plan", "_law_room", "_law_one", "_law_other", "_law_first", "_law_second"] ["_law_plan", "_law_room", "_law_one", "_law_other"] (qa3 qJ4):=by walk_at "s"
theorem gt2(f g x y:Int):HT.lexGt [f,0 - x] [g,0 - y]=(decide (g < f)||decide (f=g)&&decide (x < y)):=by
 rw[HT.qu5,HT.qu5,HT.qq4];by_cases h:f=g
 . subst h
   rw[if_pos rfl,zAy (Int.lt_irrefl f),zA9 rfl,Bool.false_or,Bool.true_and];by_cases a:0 - x=0 - y
   . rw[if_pos a,zAy (by lia)]
   rw[if_neg a];exact zBz.mpr (by lia)
 rw[if_neg h,zAy h,Bool.false_and,Bool.or_false]
def qag6:VSp:=Aw λ ds d=>∃ n wr ps r x y,ds=[Mp n wr ps,.int r,.int x,.int y]/\1<=n/\(ps.map (·.1)).Nodup/\d=.bl (qf5 n wr ps r x y)
theorem qai8(T:Txt K mg a):VFn P w K mg base 3 a.f34 a.d34 ["_law_plan", "_law_room", "_law_one", "_law_other"] qag6:=by
 refine VFn.mk2 T.d34.F qA2 (wOf [true,true,true,true]) qb2 (λ p Q s h=>by obtain⟨d,⟨n,wr,b,r,x,y,e,_⟩,_⟩:=h;rw[e];exact⟨rfl,rfl⟩) (λ t A outer u H E v i=>⟨_,(Ab (Ak 4 qA2.nd (Ah T.d33 (qap3 T) qa2 (rm i) (vaN 0 (vaN 2 (vaN 1 Ac)))))
     (Ab (Ak 5 qA2.nd (Ah T.d33 (qap3 T) qa2 (rm i) (vaN 0 (vaN 3 (vaN 1 Ac)))))
     (Ab (sif (tor (q2 (Aq Fc (qb1 _)) Fp (vnm 4) A7) (Ib (q2 (Aq (qj6 i.u64) (qb1 _)) Bf (vnm 2) (vnm 3)))).te
     (Ag (An (qa4 vbl)))
     At)
     (Ag (An (qa4 (vor (v2 (Ax Fc (qb1 _)) Fp (vnm 5) A7) (Iq (v2 (Ax (qaQ3 i.units0) (qb1 _)) qaP5 (Fx (qa0 (vnm 4) (qa0 (v2 (Aj qm7) qm6 Af (vnm 2)) qa6 rfl) rfl)) (Fx (qa0 (vnm 5) (qa0 (v2 (Aj qm7) qm6 Af (vnm 3)) qa6 rfl) rfl))))))))))),λ p Q s h=>?_⟩)
 obtain⟨d,⟨n,wr,b,r,x,y,rfl,l,m,rfl⟩,q⟩:=h;refine As [Mp n wr b,.int r,.int x,.int y,.u,.u] rfl ?_;refine qb0 [Mp n wr b,.int r,.int x,.int y,G1 (Av n wr b x r),.u] (λ K j=>qZ4 (x:=Mp n wr b) (y:=.int x) (w:=.int r) rfl rfl rfl rfl rfl ⟨n,wr,b,x,r,rfl,l,m,rfl⟩ rfl j) ?_;refine qb0 [Mp n wr b,.int r,.int x,.int y,G1 (Av n wr b x r),G1 (Av n wr b y r)] (λ K j=>qZ4 (x:=Mp n wr b) (y:=.int y) (w:=.int r) rfl rfl rfl rfl rfl ⟨n,wr,b,y,r,rfl,l,m,rfl⟩ rfl j) ?_;unfold qf5 at q;cases k:Av n wr b x r with
 | none =>
   rw[k] at q;exact qg1 true (λ Q q=>q) (λ _=>q) λ h=>nomatch h
 | some f =>
   rw[k] at q;by_cases c:x=y
   . subst c
     rw[k] at q ⊢;refine qg1 true (λ Q q=>qh1 false true (λ Q q=>q) (λ _ Q q=>qh0 (Ae rfl rfl (show some (D.bl (decide (x=x)))=some (.bl true) by rw[zA9 rfl])) q) q) (λ _=>?_) λ h=>nomatch h
     have e:(decide (f < f)||decide (f=f)&&decide (x < x))=false:=by simp
     exact e ▸ (show Q (.bl (decide (f < f)||decide (f=f)&&decide (x < x))) _ from q)
   refine qg1 false (λ Q q=>qh1 false false (λ Q q=>q) (λ _ Q q=>qh0 (Ae rfl rfl (show some (D.bl (decide (x=y)))=some (.bl false) by rw[zAy c])) q) q) (λ h=>nomatch h) λ _=>?_
   cases o:Av n wr b y r with
   | none =>
     rw[o] at q;exact qg5 _ rfl q
   | some g =>
     rw[o] at q;refine qg5 (.bl (HT.lexGt [f,0 - x] [g,0 - y])) (qaK9 (a:=false) rfl rfl) ?_;rw[gt2];exact q
theorem qy0:qa9 ["_law_plan", "_law_held", "_law_key", "_law_came", "_law_room", "_law_there"] ["_law_plan", "_law_held", "_law_key"] (qa3 qat5):=by walk_at "s"
def qaC0:VSp:=λ ds Q _=>∃ n wr ps g m key a g',ds=[Mp n wr ps,.l false (Mu n.toNat g),.int key]/\1<=n/\(ps.map (·.1)).Nodup/\a.length<=64/\Bi n wr ps m g key (Mq n ps key) a g'/\Q (.l false (Mv a)) [Mp n wr ps,.l false (Mu n.toNat g'),.int key]
theorem call4{k:Nat}{w:D}(f:rdN i ds=some p)(g:rdN j ds=some x)(h:rdN l ds=some y)(e:rdN k ds=some w)(a:rdN l (ds.set k .u)=some y)(b:rdN j ((ds.set k .u).set l .u)=some x)(c:rdN i (((ds.set k .u).set l .u).set j .u)=some p)(r:R [p,x,y,w] d)(m:Ap [.sl i,.sl j,.sl l,.sl k] [p,x,y,w] ((((ds.set k .u).set l .u).set j .u).set i .u)=some ds)(q:Q d ds):qi0 (Aw R) [] (tbN i (tbN j (tbN l (tbN k Ay)))) ds Q xe :=
 qc5 f (qc5 g (qc5 h (qc5 e (qa1 e (qa1 a (qa1 b (qa1 c (qf1 r (qa1 m q)))))))))
theorem qaD6{n:Int}{wr:Bool}{ps:Pr}{b:Nat->Option Int}{c:Int}{a:List (Int×Nat)}(d:D)(g:d.imm=true)(h:d.known=true)(i:(Mv a).length < 1000000)(j:r < n.toNat)(f:e.nx [Mp n wr ps,.l false (Mu n.toNat (Row.set b r c)),d,.l false (Mv (a++[(c,r)])),.int (r:Nat),d]) :
   G8 (Ft (By (rdN 2)) (Gx (λ _=>some (1,[])) (rdN 4))) (G8 (K8 (Gg Hq 3 (tbV (Bw (Ba gTup (A9 (rdN 2) (A9 (rdN 4) λ _=>some [])))) Ay))) (Ft (By (rdN 5)) (gNm 2))) e [Mp n wr ps,.l false (Mu n.toNat b),.int c,.l false (Mv a),.int (r:Nat),d]:=by
 refine qb0 [Mp n wr ps,.l false (Mu n.toNat (Row.set b r c)),.int c,.l false (Mv a),.int (r:Nat),d] (λ K f=>?_) ?_
 . refine qD2 (d:=.int c) (ys:=Mu n.toNat b) rfl rfl rfl rfl (qaj9 j) ?_
   rw[qz8];exact f
 refine qb0 [Mp n wr ps,.l false (Mu n.toNat (Row.set b r c)),.int c,.l false (Mv (a++[(c,r)])),.int (r:Nat),d] (λ K f=>?_) ?_
 . exact qG5 (ys:=Mv a) (d:=.q [.int c,.int (r:Nat)]) rfl rfl i (by rw[qad5];exact f)
 exact qs8 (d:=d) (qj2 rfl h) g f
theorem qaH1(T:Txt K mg a):VFn P w K mg base 4 a.f41 a.d41 ["_law_plan", "_law_held", "_law_key"] qaC0:=by
 refine VFn.mk2 T.d41.F qy0 (wOf [true,true,false]) (λ s Q Q' S U V _ h=>by obtain⟨n,wr,f,g,m,i,v,G,e,W,X,Y,Z,q⟩:=h;exact⟨n,wr,f,g,m,i,v,G,e,W,X,Y,Z,V _ _ q⟩) (λ s Q S h=>by obtain⟨n,wr,f,g,m,i,v,G,e,_⟩:=h;rw[e];exact⟨rfl,rfl⟩) (λ a0 A outer sh H E av k=>⟨_,(Ab (Ak 3 qy0.nd (qa4 (B8 qa6)))
     (Ab (Ak 4 qy0.nd (Ah T.d32 (qu2 T) qa2 (rm k) (vaN 0 (vaN 2 Ac))))
     (Ab (qan4 PassesOwn.leaving (q2 (Aq qr2 (qb1 _)) qu0 (vnm 2) A7)
     (Ab (Ak 5 qy0.nd (qb8 (v2 (Au qb5) Am (vnm 1) (vnm 4))))
     (Ab (sif (tor (q2 (Aq Fc (qb1 _)) Fp (vnm 5) A7) (Ib (te (Ah T.d34 (qai8 T) qa2 (rm k) (vaN 0 (vaN 4 (vaN 2 (vaN 5 Ac)))))))).te
     (Ab (G9 (qb8 (vnm 2)) (Gh (vpn 1) (vnm 4)))
     (Ab (B6 (Fq 3 qx2 F.plainAttrs_list F.slot_list_append F.type_list_append qd9 (vaV (qa4 (Fx (qa0 (vnm 2) (qa0 (vnm 4) qa6 rfl) rfl))) Ac)))
     (Ag (Ak 2 qy0.nd (qb8 (vnm 5))))))
     At)
     (Ag (Ak 4 qy0.nd (qa4 (v2 (Aj qj5) qj4 (v2 (Aj qf0) qe9 (vnm 4) Af) (v2 (Au qb5) Am (vnm 0) Af))))))))
     (Ag (An (emv 3)))))),λ s Q S h=>?_⟩)
 obtain⟨n,wr,f,g,m,i,v,G,rfl,B,N,hl,O,q⟩:=h;refine As [Mp n wr f,.l false (Mu n.toNat g),.int i,.u,.u,.u] rfl ?_;refine qb0 [Mp n wr f,.l false (Mu n.toNat g),.int i,.l false (Mv []),.u,.u] (λ K j=>j) ?_;refine qb0 [Mp n wr f,.l false (Mu n.toNat g),.int i,.l false (Mv []),.int (Mq n f i:Nat),.u] (λ K j=>?_) ?_
 . exact qx5 (x:=Mp n wr f) (y:=.int i) (d:=.int (Mq n f i:Nat)) rfl rfl rfl ⟨n,wr,f,i,rfl,B,N,by rw[qy6 B]⟩ rfl j
 refine qc9 (λ s=>∃ I u,s=[Mp n wr f,.l false (Mu n.toNat G),.non,.l false (Mv v),I,u]) (λ K j=>?_) ?_
 . refine qU2 (λ m s=>(∃ t c r o l u,s=[Mp n wr f,.l false (Mu n.toNat t),.int c,.l false (Mv o),.int (r:Nat),u]/\Bi n wr f m t c r l G/\o++l=v)∨∃ I u,s=[Mp n wr f,.l false (Mu n.toNat G),.non,.l false (Mv v),I,u]) m (.inl ⟨g,i,_,[],v,_,rfl,O,rfl⟩) ?_
   rintro m s (⟨t,c,r,o,l,u,rfl,O,M⟩ | ⟨I,u,rfl⟩) K2 C
   . refine qh0 (b:=true) rfl (Br rfl ?_)
     have J:(Mv o).length < 1000000:=by
       have:=congrArg List.length M
       rw[zAd] at this;unfold Mv;rw[zA8];lia
     cases O with
     | stop k L =>
       refine qb0 [Mp n wr f,.l false (Mu n.toNat t),.int c,.l false (Mv o),.int (r:Nat),.non] (λ K j=>qs8 (d:=.non) (Ae rfl rfl (by rw[Hi k,L];rfl)) rfl j) ?_;refine qb0 [Mp n wr f,.l false (Mu n.toNat (Row.set t r c)),.non,.l false (Mv (o++[(c,r)])),.int (r:Nat),.non] (λ K j=>Jq true (λ Q q=>qh1 true true (λ Q q=>q) (λ h=>nomatch h) q) (λ _=>qaD6 .non rfl rfl J k j) λ h=>nomatch h) ?_;exact qq0 (d:=.int (Row.next n.toNat r:Nat)) (Ae (Ae rfl rfl rfl) (y:=.int n) rfl (by rw[Ff (by lia),qB3 B k])) (C 0 _ (Nat.zero_lt_one) (.inr ⟨.int (Row.next n.toNat r:Nat),.non,by rw[<- M];rfl⟩))
     | swap k L R z =>
       rename_i m y l
       refine qb0 [Mp n wr f,.l false (Mu n.toNat t),.int c,.l false (Mv o),.int (r:Nat),.int y] (λ K j=>qs8 (d:=.int y) (Ae rfl rfl (by rw[Hi k,L];rfl)) rfl j) ?_;refine qb0 [Mp n wr f,.l false (Mu n.toNat (Row.set t r c)),.int y,.l false (Mv (o++[(c,r)])),.int (r:Nat),.int y] (λ K j=>Jq true (λ Q q=>qh1 false true (λ Q q=>q) (λ _ Q q=>call4 (p:=Mp n wr f) (x:=.int (r:Nat)) (y:=.int c) (w:=.int y) rfl rfl rfl rfl rfl rfl rfl ⟨n,wr,f,_,c,y,rfl,B,N,congrArg D.bl R.symm⟩ rfl q) q) (λ _=>qaD6 (.int y) rfl rfl J k j) λ h=>nomatch h) ?_;exact qq0 (d:=.int (Row.next n.toNat r:Nat)) (Ae (Ae rfl rfl rfl) (y:=.int n) rfl (by rw[Ff (by lia),qB3 B k])) (C m _ (zBy m) (.inl ⟨_,y,_,_,l,_,rfl,z,by rw[<- M,zAq];rfl⟩))
     | on k L R z =>
       rename_i m y
       refine qb0 [Mp n wr f,.l false (Mu n.toNat t),.int c,.l false (Mv o),.int (r:Nat),.int y] (λ K j=>qs8 (d:=.int y) (Ae rfl rfl (by rw[Hi k,L];rfl)) rfl j) ?_;refine qb0 [Mp n wr f,.l false (Mu n.toNat t),.int c,.l false (Mv o),.int (r:Nat),.int y] (λ K j=>Jq false (λ Q q=>qh1 false false (λ Q q=>q) (λ _ Q q=>call4 (p:=Mp n wr f) (x:=.int (r:Nat)) (y:=.int c) (w:=.int y) rfl rfl rfl rfl rfl rfl rfl ⟨n,wr,f,_,c,y,rfl,B,N,congrArg D.bl R.symm⟩ rfl q) q) (λ h=>nomatch h) λ _=>j) ?_;exact qq0 (d:=.int (Row.next n.toNat r:Nat)) (Ae (Ae rfl rfl rfl) (y:=.int n) rfl (by rw[Ff (by lia),qB3 B k])) (C m _ (zBy m) (.inl ⟨_,c,_,_,l,_,rfl,z,M⟩))
   exact qh0 (b:=false) rfl (Gi (λ h=>nomatch h) (j _ ⟨_,_,rfl⟩))
 rintro s ⟨I,u,rfl⟩;exact q
theorem qM5:qa9 ["_law_found", "_law_pair"] ["_law_found"] (qa3 qJ1):=by walk_at "s"
theorem qaq0:∀ a:List (Int×Nat),D.imms (Mv a)=true
 | []=>rfl
 | _::a=>qaq0 a
def qag3:VSp:=Aw λ ds d=>∃ z a,ds=[.l z (Mv a)]/\d=.bl true
theorem qai5(T:Txt K mg a):VFn P w K mg base 2 a.f42 a.d42 ["_law_found"] qag3:=by
 refine VFn.mk2 T.d42.F qM5 (wOf [true]) qb2 (λ c Q k h=>by obtain⟨d,⟨z,f,e,_⟩,_⟩:=h;rw[e];exact⟨rfl,rfl⟩) (λ l A outer o H E r g=>⟨_,(Ab (sif (Bh (tv (vbi qg2 qv4.ops T.Cc (qa0 (vnm 0) (qa0 (vty "list" T.D0) qa6 rfl) rfl))))
     (Ag (An (qa4 vbl)))
     At)
     (Ab (sforP PassesOwn.leaving (vpn 0) (Bc 1 qM5.nd)
     (Ag (sif (tor (Bh (tv (vbi qg2 qv4.ops T.Cc (qa0 (vnm 1) (qa0 (vty "tuple" T.Eg) qa6 rfl) rfl)))) (tor (q2 (Aq (qY1 g.u64) (qb1 _)) Ia (vbi qr9 qr8.ops T.Cu (qa0 (vnm 1) qa6 rfl)) Af) (tor (Bh (te (Ah T.d29 (qB1 T) qa2 (rm g) (vaV (qb8 (v2 (Au qb5) Am (vnm 1) Af)) Ac)))) (Ib (Bh (te (Ah T.d29 (qB1 T) qa2 (rm g) (vaV (qb8 (v2 (Au qb5) Am (vnm 1) Af)) Ac)))))))).te
     (Ag (An (qa4 vbl)))
     At)))
     (Ag (An (qa4 vbl))))),λ c Q k h=>?_⟩)
 obtain⟨d,⟨z,f,rfl,rfl⟩,q⟩:=h;refine As [.l z (Mv f),.u] rfl ?_;refine qg1 false (λ Q q=>qh9 (b:=true) rfl q) (λ h=>nomatch h) λ _=>?_
 refine qc9 (λ c=>∃ d,c=[.l z (Mv f),d]) (λ K m=>?_) ?_
 . refine qa1 (a:=(0,[])) rfl (qa1 (a:=D.l z (Mv f)) rfl (qa1 (a:=Mv f) rfl ⟨qaq0 f,λ w=>?_⟩))
   refine qf2 (λ i c=>∃ d,c=[.hole w,d]) _ 0 _ ⟨_,rfl⟩ ?_ ?_
   . rintro i y n c ⟨d,rfl⟩ K2 j
     obtain⟨p,_,rfl⟩:=zB8.mp (zB4 n);refine qr7 (As [.hole w,.q [.int p.1,.int (p.2:Nat)]] rfl ?_);refine Jq false (λ Q q=>qh1 false false (λ Q q=>qh9 (b:=true) rfl q) (λ _ Q q=>qh1 false false (λ Q q=>qh0 (b:=false) rfl q) (λ _ Q q=>qh1 false false (λ Q q=>?_) (λ _ Q q=>?_) q) q) q) (λ h=>nomatch h) λ _=>j _ ⟨_,rfl⟩
     . exact ql3 (qg4 (y:=.int p.1) rfl rfl (qd5 (qf1 (d:=.bl true) ⟨_,_,rfl,rfl,rfl⟩ (qa1 rfl (qa1 rfl q)))))
     exact ql3 (qg4 (y:=.int (p.2:Nat)) rfl rfl (qd5 (qf1 (d:=.bl true) ⟨_,_,rfl,rfl,rfl⟩ (qa1 rfl (qa1 rfl q)))))
   rintro c ⟨d,rfl⟩;exact qa1 (qar3 rfl) (m _ ⟨d,rfl⟩)
 rintro c ⟨d,rfl⟩;exact q
theorem qt0:qa9 ["_law_e", "_law_some", "_law_words"] ["_law_e"] (qa3 qW5):=by walk_at "s"
def qV5(L:List (γ×Str)):VSp:=Aw λ ds d=>∃ C fs w,ds=[.exn C fs]/\(C,w)∈L/\d=.str w
theorem isx{K:W.Frag}{u:V'}{C:γ}{R:Ds->List Pl->Ds->Prop}(d:f ds=some (.exn C fs))(ix:IsX K C)(e:W.kitOne K (.ref C) u=some b)(h:tr ds (λ xs ps c=>R (.bl b::xs) (.no::ps) c) xe):tbV (Li K f u) tr ds R xe:=qa1 (a:=D.exn C fs) d ⟨C,fs,b,rfl,ix,e,h⟩
theorem qaH5{K:W.Frag}{u:V'}{C:γ}{Q:Bool->Ds->Prop}(c:f ds=some (.exn C fs))(ix:IsX K C)(d:W.kitOne K (.ref C) u=some b)(q:Q (!b) ds):Hb (ttE (Li K f u)) ds Q xe:=qa1 (a:=D.exn C fs) c ⟨C,fs,b,rfl,ix,d,qa1 (a:=b) rfl q⟩
theorem as_t{M:γ->Option Bool}{ts:VTS}{tr:VH}{C:γ}{p:Str×D}{r:List (Str×D)}(a:M C=some true)(h:ts (Hf e) (ds.set j (.exn C (p::r)))):hAs M j ts tr ⟨C,p::r⟩ e ds:=⟨λ z=>(nomatch z),true,a,Br rfl h⟩
theorem as_f{M:γ->Option Bool}{ts:VTS}{tr:VH}{C:γ}{p:Str×D}{r:List (Str×D)}(a:M C=some false)(h:tr ⟨C,p::r⟩ e ds):hAs M j ts tr ⟨C,p::r⟩ e ds:=⟨λ z=>(nomatch z),false,a,Gi zAh h⟩
theorem qV2{K:W.Frag}{L:List (γ×Str)}{C:γ}{w fl:Str}(h:rdN i ds=some (.exn C fs))(a:Ap [.sl i] [.exn C fs] (ds.set i .u)=some ds)(hm:(C,w)∈L)(ex:Exc K C)(b:qc8 K C fl)(c:fs.lookup fl=some v)(q:e.rt (.q [.str w,v]) ds):sRet (Jj (tbV (qi0 (qV5 L) [] (tbN i Ay)) (tbV (tEFX K (rdN i) fl) Ay))) (Hf e) ds :=
 qi6 (qas1 (qh2 (qU0 h ⟨.str w,⟨C,fs,w,rfl,hm,rfl⟩,qa1 a (qh2 (qa1 h ⟨C,fs,v,rfl,ex,b,c,qd5 ⟨by show 2<=1000000;decide,q⟩⟩))⟩)))
noncomputable abbrev Lp:Ds:=[.str "wrong",.str "room",.str "there",.str "gone",.str "unkept",.str "unlike",.str "text",.str "row",.str "plan",.str "many"]
theorem qK2(T:Txt K mg a):G7 false P w K mg base 1 a.f39 a.d39 ["_law_e"] (qV5 [(a.Cd, "room"),(a.Cf, "there")]):=by
 refine VFn.mk2 T.d39.F qt0 (wOf [true]) qb2 (λ n Q o h=>by obtain⟨d,⟨C,l,w,e,_⟩,_⟩:=h;rw[e];exact⟨rfl,rfl⟩) (λ p A outer S H E U r=>⟨_,(Ab (Ak 1 qt0.nd (Iu (vaV (Fs a.D6 T.Cc (vnm 0) T.Ez) (vaV (Fs a.Cd T.Cc (vnm 0) T.Du) (vaV (Fs a.Cf T.Cc (vnm 0) T.E8) (vaV (Fs a.Cr T.Cc (vnm 0) T.Ef) Ac))))))
     (Ab (Ak 1 qt0.nd (e2n 1 (Aj qf0) qe9 (Iu (vaV (Fs a.Cv T.Cc (vnm 0) T.Ev) (vaV (Fs a.Cw T.Cc (vnm 0) T.Et) (vaV (Fs a.Cy T.Cc (vnm 0) T.Es) (vaV (Fs a.D5 T.Cc (vnm 0) T.Ey) Ac)))))))
     (Ab (Ak 1 qt0.nd (e2n 1 (Aj qf0) qe9 (Iu (vaV (Fs a.Cz T.Cc (vnm 0) T.Ep) (vaV (Fs a.Ct T.Cc (vnm 0) T.Ej) Ac)))))
     (Ab (sif (tor (Bh (te (eisXt "ValueError" T.Cc (vnm 0) T.E5))) (Ib (q2 (Aq (qY1 r.u64) (qb1 _)) Ia (vbm qaG6 F.plainAttrs_list F.slot_list_count F.type_list_count qY7 (vnm 1) vbl qar1) Af))).te
     (Ag (An (qa4 Bk)))
     At)
     (Ab (Ak 2 qt0.nd (qa4 (B8 (qa0 Bk (qa0 Bk (qa0 Bk (qa0 Bk (qa0 Bk (qa0 Bk (qa0 Bk (qa0 Bk (qa0 Bk (qa0 Bk qa6 rfl) rfl) rfl) rfl) rfl) rfl) rfl) rfl) rfl) rfl))))
     (Ag (An (qb8 (v2 (Au qb5) Am (vnm 2) (vbm qav8 F.plainAttrs_list F.slot_list_index F.type_list_index qK4 (vnm 1) vbl qab5)))))))))),λ n Q o h=>?_⟩)
 obtain⟨d,⟨C,l,w,rfl,m,rfl⟩,q⟩:=h;obtain⟨c,f,g,j,i,ix,s,t,u,v,z,B,G,I,J,L,M,N,O,R⟩:∃ c f g j i,IsX K C/\W.kitOne K (.ref C) (.ref a.D6)=some c/\W.kitOne K (.ref C) (.ref a.Cd)=some f/\W.kitOne K (.ref C) (.ref a.Cf)=some g/\W.kitOne K (.ref C) (.ref a.Cr)=some j/\W.kitOne K (.ref C) (.ref a.Cv)=some false/\W.kitOne K (.ref C) (.ref a.Cw)=some false/\W.kitOne K (.ref C) (.ref a.Cy)=some false/\W.kitOne K (.ref C) (.ref a.D5)=some false/\W.kitOne K (.ref C) (.ref a.Cz)=some false/\W.kitOne K (.ref C) (.ref a.Ct)=some false/\W.kitOne K (.ref C) (.type "ValueError")=some true /\
     Ka (.l false [.bl c,.bl f,.bl g,.bl j,.bl false,.bl false,.bl false,.bl false,.bl false,.bl false]) (.bl true)=some (.int 1)/\K9 (.l false [.bl c,.bl f,.bl g,.bl j,.bl false,.bl false,.bl false,.bl false,.bl false,.bl false]) (.bl true)=some (.int i)/\gIx (.l false Lp) (.int i)=some (.str w):=by
   simp only[zAm,zBs,or_false,Prod.mk.injEq] at m;rcases m with⟨rfl,rfl⟩ | ⟨rfl,rfl⟩
   . exact⟨false,true,false,false,1,T.El,T.Dp,qZ9 _ _,T.Dr,T.D3,T.Da,T.D9,T.Dc,T.Dk,T.De,T.D8,T.Ek,rfl,rfl,rfl⟩
   exact⟨false,false,true,false,2,T.En,T.Dw,T.Dm,qZ9 _ _,T.D7,T.Dn,T.Di,T.Dl,T.Dy,T.Do,T.Dg,T.Ex,rfl,rfl,rfl⟩
 refine As [.exn C l,.u,.u] rfl ?_;refine qb0 [.exn C l,.l false [.bl c,.bl f,.bl g,.bl j],.u] (λ K k=>qh8 (qx4 (isx rfl ix s (isx rfl ix t (isx rfl ix u (isx rfl ix v (qd5 ⟨by show 4<=1000000;decide,k⟩))))))) ?_;refine qb0 [.exn C l,.l false [.bl c,.bl f,.bl g,.bl j,.bl false,.bl false,.bl false,.bl false],.u] (λ K k=>qh8 ⟨rfl,qx4 (isx rfl ix z (isx rfl ix B (isx rfl ix G (isx rfl ix I (qd5 ⟨by show 4<=1000000;decide,qa1 (a:=D.l false [.bl c,.bl f,.bl g,.bl j,.bl false,.bl false,.bl false,.bl false]) rfl k⟩)))))⟩) ?_;refine qb0 [.exn C l,.l false [.bl c,.bl f,.bl g,.bl j,.bl false,.bl false,.bl false,.bl false,.bl false,.bl false],.u] (λ K k=>qh8 ⟨rfl,qx4 (isx rfl ix J (isx rfl ix L (qd5 ⟨by show 2<=1000000;decide,qa1 (a:=D.l false [.bl c,.bl f,.bl g,.bl j,.bl false,.bl false,.bl false,.bl false,.bl false,.bl false]) rfl k⟩)))⟩) ?_;refine qg1 false (λ Q q=>qh1 false false (λ Q q=>qaH5 rfl ix M q) (λ _ Q q=>qh0 (b:=false) (Ae (x:=.int 1) (y:=.int 1) (Ae rfl rfl N) rfl rfl) q) q) (λ h=>nomatch h) λ _=>?_
 refine qb0 [.exn C l,.l false [.bl c,.bl f,.bl g,.bl j,.bl false,.bl false,.bl false,.bl false,.bl false,.bl false],.l false Lp] (λ K k=>k) ?_;exact qi6 (qu9 (d:=.str w) (Ae (x:=.l false Lp) (y:=.int i) rfl (Ae rfl rfl O) R) rfl q)
theorem qA1:qa9 ["_law_row", "_law_key", "_law_e"] ["_law_row", "_law_key"] (qa3 qW3):=by walk_at "s"
theorem qaN2{th:VH}(h:∀(N:Ds->Prop)(X:XKd),(∀ a,e.nx a->N a)->(∀ x a,th x e a->X x a)->t { e with nx:=N,xe:=X } ds):sTryW t th e ds:=h _ _ (λ _ z=>z) λ _ _ z=>z
def qat0(C CP:γ):VSp:=λ ds Q _=>∃ n wr ps g dn S k,ds=[Mt false C CP n wr ps g dn,.int k]/\Al k/\1<=n/\n<=64/\(∀ y∈S,Al y)/\Kept n.toNat wr (Mq n ps) g S/\dn.length<=1000 /\
 (k∈S->Q (.q [.str "there",.int k]) ds)/\(¬ k∈S->(∀ r:Nat,Crowd n.toNat wr (Mq n ps) (S++[k]) r->Q (.q [.str "room",.int (r:Nat)]) ds) /\
   ((∀ q,¬ Crowd n.toNat wr (Mq n ps) (S++[k]) q)->∀ m a g',m<=64->a.length<=64->Bi n wr ps m g k (Mq n ps k) a g'->Kept n.toNat wr (Mq n ps) g' (S++[k])->Q (.q [.str "told",.l false (Mv a)]) [Mt false C CP n wr ps g' (dn++[.q [.str "put",.int k]]),.int k]))
theorem qaw4(T:Txt K mg a):VFn P w K mg base 9 a.f43 a.d43 ["_law_row", "_law_key"] (qat0 a.Cb a.Ca):=by
 refine VFn.mk2 T.d43.F qA1 (wOf [true,true]) (λ B Q Q' o I t _ h=>by obtain⟨n,wr,d,g,f,S,k,e,J,L,M,O,R,U,u,q⟩:=h;exact⟨n,wr,d,g,f,S,k,e,J,L,M,O,R,U,λ a=>t _ _ (u a),λ i=>⟨λ r c=>t _ _ ((q i).1 r c),λ v m c j a b s K=>t _ _ ((q i).2 v m c j a b s K)⟩⟩) (λ B Q o h=>by obtain⟨n,wr,d,g,f,S,k,e,_⟩:=h;rw[e];exact⟨rfl,rfl⟩) (λ V A outer sh H E av l=>⟨_,(Ag (stryW (λ E' o pn W=>(Ag (An (Iv (vaV (qa4 Bk) (vaV (qp9 0 T.d28 T.Ch.cl (qY3 T) W (rm l) (vaN 1 Ac)) Ac))))))
     (vhas 2 qA1.nd T.Dx T.E8 (λ C=>(Ag (An (Iv (vaV (Ah T.d39 (qK2 T) qZ8 (rm (l.mark _)) (vaN 2 Ac)) (vaV (eefld (K:=K) rfl (vnm 2)) Ac))))))
     (vhas 2 qA1.nd T.Db T.Du (λ C=>(Ag (An (Iv (vaV (Ah T.d39 (qK2 T) qZ8 (rm (l.mark _)) (vaN 2 Ac)) (vaV (eefld (K:=K) rfl (vnm 2)) Ac))))))
     (vhas 2 qA1.nd T.E7 T.Ec (λ C=>(Ag (An (Iv (vaV (Ah T.d39 (qK2 T) qZ8 (rm (l.mark _)) (vaN 2 Ac)) (vaV (qa4 Af) Ac))))))
     vhnil))))),λ B Q o h=>?_⟩)
 obtain⟨n,wr,d,g,f,S,k,rfl,Y,Z,n2,hS,KP,z,u,q⟩:=h;refine As [Mt false a.Cb a.Ca n wr d g f,.int k,.u] rfl ?_;refine qaN2 λ N X hN G=>?_
 refine qi6 (qas1 (qe5 (y:=.str "told") rfl (qh2 (qT2 (p:=Mt false a.Cb a.Ca n wr d g f) rfl (qn3 rfl) (qc5 (x:=.int k) rfl (qd5 (qa1 (a:=D.int k) rfl (qa1 (a:=Mt false a.Cb a.Ca n wr d g f) rfl ⟨n,wr,d,g,f,S,k,rfl,Y,Z,n2,hS,KP,z,λ i=>?_,λ i=>⟨λ r c=>?_,λ v m cs j b1 b2 b3 K'=>?_⟩⟩))))))))
 . exact qa1 (a:=[Mt false a.Cb a.Ca n wr d g f,.int k,.u]) rfl (G _ _ (as_t T.E4 (qV2 rfl rfl (.tail _ (.head _)) T.Dx T.Dh rfl (u i))))
 . exact qa1 (a:=[Mt false a.Cb a.Ca n wr d g f,.int k,.u]) rfl (G _ _ (as_f T.Dt (as_t T.Dq (qV2 rfl rfl (.head _) T.Db T.D2 rfl ((q i).1 r c)))))
 exact qa1 (a:=[Mt false a.Cb a.Ca n wr d j _,.int k,.u]) rfl (qd5 ⟨by show 2<=1000000;decide,(q i).2 v m cs j b1 b2 b3 K'⟩)
theorem qm5:qa9 ["_law_row", "_law_plan", "_law_there", "_law_key", "_law_held", "_law_word", "_law_found", "_law_due"] ["_law_row", "_law_plan", "_law_there", "_law_key"] (qa3 qJ0):=by walk_at "s"
theorem qR1{g:VTG}(h:te ds (λ d a=>g d a e.nx) e.xe):Ft te g e ds:=h
theorem ix0{L:Nat}:ixN (L+1) 0=some 0:=by
 unfold ixN;rw[if_pos (by lia),if_pos (by lia)];rfl
theorem eq_tk{w:Str}:gEq (.q [.str w,.int k]) (.q [.str w,.int k])=some (.bl true):=by
 show some (D.bl ((w == w)&&((k == k)&&true)))=_;rw[zAv,zAv];rfl
theorem eq_cs:∀ a:List (Int×Nat),Fh (eqN 20) (Mv a) (Mv a)=some true
 | []=>rfl
 | q::a=>by
   show (some ((q.1 == q.1)&&(((q.2:Int) == (q.2:Int))&&true))).bind (λ x=>(Fh (eqN 20) (Mv a) (Mv a)).bind λ y=>some (x&&y))=_;rw[eq_cs a,zAv,zAv];rfl
theorem ne_cs{z:Bool}(a:List (Int×Nat)):gNe (.l z (Mv a)) (.l z' (Mv a))=some (.bl false):=by
 show (Fh (eqN 20) (Mv a) (Mv a)).map (λ b=>D.bl (!b))=_;rw[eq_cs];rfl
def qag2(C CP:γ):VSp:=λ ds Q _=>∃ n wr ps g dn S k,ds=[Mt false C CP n wr ps g dn,Mp n wr ps,.l false (Ms S),.int k]/\Al k/\1<=n/\n<=64/\(ps.map (·.1)).Nodup/\(∀ y∈S,Al y)/\Kept n.toNat wr (Mq n ps) g S/\dn.length=S.length/\Q (.bl true) ds /\
 (¬ k∈S->∀ g' e,Kept n.toNat wr (Mq n ps) g' (S++[k])->Q (.bl true) [Mt false C CP n wr ps g' (dn++[e]),Mp n wr ps,.l false (Ms (S++[k])),.int k])
theorem qai4(T:Txt K mg a):VFn P w K mg base 10 a.f44 a.d44 ["_law_row", "_law_plan", "_law_there", "_law_key"] (qag2 a.Cb a.Ca):=by
 refine VFn.mk2 T.d44.F qm5 (wOf [true,true,true,true]) (λ B Q Q' Y a0 Z _ h=>by obtain⟨n,wr,j,g,o,S,k,e,h0,h1,h2,h3,h4,h5,h6,M,q⟩:=h;exact⟨n,wr,j,g,o,S,k,e,h0,h1,h2,h3,h4,h5,h6,Z _ _ M,λ i l e K=>Z _ _ (q i l e K)⟩) (λ B Q Y h=>by obtain⟨n,wr,j,g,o,S,k,e,_⟩:=h;rw[e];exact⟨rfl,rfl⟩) (λ a1 A outer sh H E av u=>⟨_,(Ab (Ak 4 qm5.nd (Ah T.d36 (qu1 T) qa2 (rm u) (vaN 1 (vaN 2 Ac))))
     (Ab (G9 (Ah T.d43 (qaw4 T) qa2 (rm u) (vaN 0 (vaN 3 Ac))) (Jl (n:=2) rfl (qF6 (Bc 5 qm5.nd) (qF6 (Bc 6 qm5.nd) Jk))))
     (Ab (sif (q2 (Aq qA8 (by with_unfolding_all rfl)) Jf (vnm 3) (vnm 2))
     (Ag (An (Gw (qa4 (v2 (Ax (qj6 u.u64) (qb1 _)) Bf (Fx (qa0 (vnm 5) (qa0 (vnm 6) qa6 rfl) rfl)) (Fx (qa0 Bk (qa0 (vnm 3) qa6 rfl) rfl)))) (Ic (e2v (Ax (qj6 u.u64) (qb1 _)) Bf (qv3 0 T.d24 T.Ch.cl (qc4 T) qa2 (rm u)) (vnm 4))))))
     At)
     (Ab (sif (q2v (Ax Fc (qb1 _)) (Aq Fc (qb1 _)) Fp (Ah T.d36 (qu1 T) qa2 (rm u) (vaN 1 (vaV (qa4 (v2 (Aj qf0) qe9 (vnm 2) (B8 (qa0 (vnm 3) qa6 rfl)))) Ac))) A7)
     (Ag (An (Gw (qa4 (v2 (Ax (qj6 u.u64) (qb1 _)) Bf (vnm 5) Bk)) (Gw (Ah T.d40 (qai7 T) qa2 (rm u) (vaN 1 (vaV (qa4 (v2 (Aj qf0) qe9 (vnm 2) (B8 (qa0 (vnm 3) qa6 rfl)))) (vaN 6 Ac)))) (Ic (e2v (Ax (qj6 u.u64) (qb1 _)) Bf (qv3 0 T.d24 T.Ch.cl (qc4 T) qa2 (rm u)) (vnm 4)))))))
     At)
     (Ab (Ak 7 qm5.nd (Ah T.d41 (qaH1 T) qa2 (rm u) (vaN 1 (vaN 4 (vaN 3 Ac)))))
     (Ab (sif (tor (q2 (Aq (qY1 u.u64) (qb1 _)) Ia (vnm 5) Bk) (tor (Bh (te (Ah T.d42 (qai5 T) qa2 (rm u) (vaN 6 Ac)))) (Ib (q2 (Aq (qY1 u.u64) (qb1 _)) Ia (vnm 6) (vnm 7))))).te
     (Ag (An (qa4 vbl)))
     At)
     (Ab (B6 (Fq 6 qx2 F.plainAttrs_list F.slot_list_append F.type_list_append qd9 (vaV (qa4 (Fx (qa0 (vnm 3) (qa0 Af qa6 rfl) rfl))) Ac)))
     (Ab (G9 (qa4 (Fx (qa0 (vnm 3) (qa0 Af qa6 rfl) rfl))) (Gh (vpn 6) Af))
     (Ab (B6 (Fq 2 qx2 F.plainAttrs_list F.slot_list_append F.type_list_append qd9 (vaV (qb8 (vnm 3)) Ac)))
     (Ag (An (Gw (e2 (Ax (qj6 u.u64) (qb1 _)) Bf (qv3 0 T.d24 T.Ch.cl (qc4 T) qa2 (rm u)) (Ah T.d36 (qu1 T) qa2 (rm u) (vaN 1 (vaN 2 Ac)))) (Ic (e2v (Ax (qj6 u.u64) (qb1 _)) Bf (qv3 0 T.d24 T.Ch.cl (qc4 T) qa2 (rm u)) (vnm 4))))))))))))))),λ B Q Y h=>?_⟩)
 obtain⟨n,wr,j,g,o,S,k,rfl,R,C,G,J,U,KP,a2,M,N⟩:=h;have a3:S.length<=64:=by have:=KP.len;lia
 have V:(S++[k]).length<=200:=by rw[zAd];show S.length+1<=200;lia
 refine As [Mt false a.Cb a.Ca n wr j g o,Mp n wr j,.l false (Ms S),.int k,.u,.u,.u,.u] rfl ?_;refine qb0 [Mt false a.Cb a.Ca n wr j g o,Mp n wr j,.l false (Ms S),.int k,.l false (Mu n.toNat g),.u,.u,.u] (λ K z=>qh8 (qT9 (x:=Mp n wr j) (y:=.l false (Ms S)) rfl rfl rfl ⟨n,wr,j,false,S,rfl,C,G,J,KP.h.1,by lia,λ ⟨q,c⟩=>absurd c (KP.no_crowd q),λ _ gh Kh=>?_⟩)) ?_
 . rw[qA5 (Kh.same KP λ _=>Iff.rfl)]
   exact qa1 (a:=[Mt false a.Cb a.Ca n wr j g o,Mp n wr j,.l false (Ms S),.int k,.u,.u,.u,.u]) rfl z
 by_cases v:k∈S
 . refine qb0 [Mt false a.Cb a.Ca n wr j g o,Mp n wr j,.l false (Ms S),.int k,.l false (Mu n.toNat g),.str "there",.int k,.u] (λ K z=>?_) ?_
   . refine qR1 (qT9 (x:=Mt false a.Cb a.Ca n wr j g o) (y:=.int k) rfl rfl rfl ?_)
     exact⟨n,wr,j,g,o,S,k,rfl,R,C,G,U,KP,by lia,λ _=>qa1 (a:=[Mt false a.Cb a.Ca n wr j g o,Mp n wr j,.l false (Ms S),.int k,.l false (Mu n.toNat g),.u,.u,.u]) rfl (qp8 z),λ i=>⟨λ r c=>absurd v i,λ _ _ _ _ _ _ _ _=>absurd v i⟩⟩
   refine qg8 true (Ae rfl rfl (by rw[qaa8,zA9 v])) (λ _=>?_) λ h=>nomatch h
   exact qi6 (Jr true (Ae rfl rfl eq_tk) (λ _=>qD1 (qK5 (p:=Mt false a.Cb a.Ca n wr j g o) (d:=.l false (Mu n.toNat g)) rfl (qn3 rfl) ⟨false,n,wr,j,g,o,rfl,rfl⟩ rfl (qa1 (a:=D.bl true) (qak2 λ _ _=>rfl) M))) λ h=>nomatch h)
 have I:(S++[k]).Nodup:=zBt.mpr ⟨KP.h.1,(by simp),λ x hx y hy e=>v (by rw[<- zAj.mp hy,<- e];exact hx)⟩;by_cases L:∃ q,Crowd n.toNat wr (Mq n j) (S++[k]) q
 . refine qc9 (λ B=>∃ r:Nat,Crowd n.toNat wr (Mq n j) (S++[k]) r/\B=[Mt false a.Cb a.Ca n wr j g o,Mp n wr j,.l false (Ms S),.int k,.l false (Mu n.toNat g),.str "room",.int (r:Nat),.u]) (λ K z=>?_) ?_
   . refine qR1 (qT9 (x:=Mt false a.Cb a.Ca n wr j g o) (y:=.int k) rfl rfl rfl ?_)
     exact⟨n,wr,j,g,o,S,k,rfl,R,C,G,U,KP,by lia,λ i=>absurd i v,λ i=>⟨λ r c=>qa1 (a:=[Mt false a.Cb a.Ca n wr j g o,Mp n wr j,.l false (Ms S),.int k,.l false (Mu n.toNat g),.u,.u,.u]) rfl (qp8 (z _ ⟨r,c,rfl⟩)),λ O _ _ _ _ _ _ _=>L.elim λ q c=>absurd c (O q)⟩⟩
   rintro B ⟨r,c,rfl⟩;have u:=c.1;refine qg8 false (Ae rfl rfl (by rw[qaa8,zAy v])) (λ h=>nomatch h) λ _=>?_
   refine qK9 (qah7 (ql3 (qc5 (x:=Mp n wr j) rfl (qe5 (y:=.l false (Ms (S++[k]))) (Ae (x:=.l false (Ms S)) (y:=.l false (Ms [k])) rfl rfl (qan1 (by show _+1<=1000;lia))) (qd5 (qa1 (a:=Mp n wr j) rfl ?_))))));refine⟨n,wr,j,false,S++[k],rfl,C,G,J,I,V,λ _=>?_,λ O=>L.elim λ q c=>absurd c (O q)⟩;refine qa1 (a:=[Mt false a.Cb a.Ca n wr j g o,Mp n wr j,.l false (Ms S),.int k,.l false (Mu n.toNat g),.str "room",.int (r:Nat),.u]) rfl (qa1 (a:=D.bl true) rfl (qa1 (a:=true) rfl (Br rfl (qi6 ?_))));refine Jr true rfl (λ _=>qaA5 (ql3 ?_)) λ h=>nomatch h
   refine qc5 (x:=Mp n wr j) rfl (qe5 (y:=.l false (Ms (S++[k]))) (Ae (x:=.l false (Ms S)) (y:=.l false (Ms [k])) rfl rfl (qan1 (by show _+1<=1000;lia))) (qc5 (x:=.int (r:Nat)) rfl (qd5 (qa1 (a:=D.int (r:Nat)) rfl (qa1 (a:=Mp n wr j) rfl (qf1 (d:=.bl true) ⟨n,wr,j,false,S++[k],(r:Nat),rfl,C,J,by lia,by lia,by lia,by rw[(qC4 C u).mpr c]⟩ ?_))))));exact qa1 (a:=[Mt false a.Cb a.Ca n wr j g o,Mp n wr j,.l false (Ms S),.int k,.l false (Mu n.toNat g),.str "room",.int (r:Nat),.u]) rfl (qa1 (a:=true) rfl (Br rfl (qD1 (qK5 (p:=Mt false a.Cb a.Ca n wr j g o) (d:=.l false (Mu n.toNat g)) rfl (qn3 rfl) ⟨false,n,wr,j,g,o,rfl,rfl⟩ rfl (qa1 (a:=D.bl true) (qak2 λ _ _=>rfl) M)))))
 refine qc9 (λ B=>∃ m t l,t.length<=64/\Bi n wr j m g k (Mq n j k) t l/\Kept n.toNat wr (Mq n j) l (S++[k])/\B=[Mt false a.Cb a.Ca n wr j l (o++[.q [.str "put",.int k]]),Mp n wr j,.l false (Ms S),.int k,.l false (Mu n.toNat g),.str "told",.l false (Mv t),.u]) (λ K z=>?_) ?_
 . refine qR1 (qT9 (x:=Mt false a.Cb a.Ca n wr j g o) (y:=.int k) rfl rfl rfl ?_)
   exact⟨n,wr,j,g,o,S,k,rfl,R,C,G,U,KP,by lia,λ i=>absurd i v,λ i=>⟨λ r c=>absurd ⟨r,c⟩ L,λ O m t l b1 W X K'=>qa1 (a:=[Mt false a.Cb a.Ca n wr j l (o++[.q [.str "put",.int k]]),Mp n wr j,.l false (Ms S),.int k,.l false (Mu n.toNat g),.u,.u,.u]) rfl (qp8 (z _ ⟨m,t,l,W,X,K',rfl⟩))⟩⟩
 rintro B ⟨m,t,l,W,X,K',rfl⟩
 replace N:=N v l (.q [.str "put",.int k]) K'
 generalize o++[.q [.str "put",.int k]]=s at N ⊢;refine qg8 false (Ae rfl rfl (by rw[qaa8,zAy v])) (λ h=>nomatch h) λ _=>?_
 refine qK9 (qah7 (ql3 (qc5 (x:=Mp n wr j) rfl (qe5 (y:=.l false (Ms (S++[k]))) (Ae (x:=.l false (Ms S)) (y:=.l false (Ms [k])) rfl rfl (qan1 (by show _+1<=1000;lia))) (qd5 (qa1 (a:=Mp n wr j) rfl ?_))))));refine⟨n,wr,j,false,S++[k],rfl,C,G,J,I,V,λ c=>absurd c L,λ _ g3 K3=>?_⟩;refine qa1 (a:=[Mt false a.Cb a.Ca n wr j l s,Mp n wr j,.l false (Ms S),.int k,.l false (Mu n.toNat g),.str "told",.l false (Mv t),.u]) rfl (qa1 (a:=D.bl false) rfl (qa1 (a:=false) rfl (Gi (λ h=>nomatch h) ?_)));refine qb0 [Mt false a.Cb a.Ca n wr j l s,Mp n wr j,.l false (Ms S),.int k,.l false (Mu n.toNat l),.str "told",.l false (Mv t),.l false (Mv t)] (λ K z=>qh8 (qaL9 (x:=Mp n wr j) (y:=.l false (Mu n.toNat g)) (w:=.int k) rfl rfl rfl rfl rfl ⟨n,wr,j,g,m,k,t,l,rfl,C,J,W,X,qa1 (a:=[Mt false a.Cb a.Ca n wr j l s,Mp n wr j,.l false (Ms S),.int k,.l false (Mu n.toNat l),.str "told",.l false (Mv t),.u]) rfl z⟩)) ?_;refine qg1 false (λ Q q=>qh1 false false (λ Q q=>qh0 (b:=false) rfl q) (λ _ Q q=>qh1 false false (λ Q q=>qaI3 (x:=.l false (Mv t)) (d:=.bl true) rfl ⟨false,t,rfl,rfl⟩ rfl q) (λ _ Q q=>qh0 (b:=false) (Ae rfl rfl (ne_cs t)) q) q) q) (λ h=>nomatch h) λ _=>?_
 refine qb0 [Mt false a.Cb a.Ca n wr j l s,Mp n wr j,.l false (Ms S),.int k,.l false (Mu n.toNat l),.str "told",.l false (Mv t++[D.q [.int k,.int 0]]),.l false (Mv t)] (λ K z=>qG5 (ys:=Mv t) (d:=.q [.int k,.int 0]) rfl rfl (by show (Mv t).length < 1000000;unfold Mv;rw[zA8];lia) z) ?_;refine qc9 (λ B=>∃ f,B=[Mt false a.Cb a.Ca n wr j l s,Mp n wr j,.l false (Ms S),.int k,.l false (Mu n.toNat l),.str "told",f,.l false (Mv t)]) (λ K z=>qV3 (d:=.q [.int k,.int 64]) (ys:=Mv t++[D.q [.int k,.int 0]]) (n:=0) rfl rfl rfl (by rw[zAd];exact ix0) (z _ ⟨_,rfl⟩)) ?_;rintro B ⟨f,rfl⟩;refine qb0 [Mt false a.Cb a.Ca n wr j l s,Mp n wr j,.l false (Ms (S++[k])),.int k,.l false (Mu n.toNat l),.str "told",f,.l false (Mv t)] (λ K z=>qae6 (ys:=Ms S) (d:=.int k) rfl rfl rfl (by rw[qh4];unfold big;lia) (by rw[qN5];exact z)) ?_;refine qi6 (qaA5 ?_);refine qK5 (p:=Mt false a.Cb a.Ca n wr j l s) (d:=.l false (Mu n.toNat l)) rfl (qn3 rfl) ⟨false,n,wr,j,l,s,rfl,rfl⟩ rfl (qT9 (x:=Mp n wr j) (y:=.l false (Ms (S++[k]))) rfl rfl rfl ⟨n,wr,j,false,S++[k],rfl,C,G,J,I,V,λ c=>absurd c L,λ _ gh Kh=>?_⟩);refine qa1 (a:=[Mt false a.Cb a.Ca n wr j l s,Mp n wr j,.l false (Ms (S++[k])),.int k,.l false (Mu n.toNat l),.str "told",f,.l false (Mv t)]) rfl (qa1 (a:=D.bl true) (qak2 (K'.same Kh λ _=>Iff.rfl)) (qa1 (a:=true) rfl (Br rfl (qD1 (qK5 (p:=Mt false a.Cb a.Ca n wr j l s) (d:=.l false (Mu n.toNat l)) rfl (qn3 rfl) ⟨false,n,wr,j,l,s,rfl,rfl⟩ rfl (qa1 (a:=D.bl true) (qak2 λ _ _=>rfl) N))))))
theorem qw3:qa9 ["_law_script", "_law_bag_here", "_law_twice", "_law_plan", "_law_keys", "_law_row", "_law_there", "_law_key", "_law_turn", "_law_held"] ["_law_script"] (qa3 Ik):=by walk_at "s"
theorem qaC2{A B:List Int}(p:A.Perm B):Fe A=Fe B:=qV8 ((List.mergeSort_perm A _).trans p) (by
 have:=List.pairwise_mergeSort (le:=λ a b:Int=>decide (a<=b)) (λ a b c d e=>zA9 (Int.le_trans (zAa d) (zAa e))) (λ a b=>by rcases Int.le_total a b with h | h<;>simp[h]) A
 exact this.imp λ h=>zAa h)
theorem qab9{z:Bool}(h1:ks.Nodup)(h2:ks.length<=64):qaK2 (.l z (Ms ks))=some (.l false (Ms (Fe ks))):=by
 show ((intsD (Ms ks)).bind λ a=>gd (a.Nodup/\a.length<=64) (.l false ((Fe a).map D.int)))=_;rw[qab1];exact qm0 ⟨h1,h2⟩
theorem qaS8(h:qc ds (λ b a=>if b=true then t e a else u e a) e.xe):sIf qc t u e ds:=h
theorem qaQ8(T:Txt K mg a):Gc P w K mg base (CX1 P w) 12 a.f45 a.d45 ["_law_script"] (Jd K):=by
 refine T.d45.F.okX qw3 (λ vs H Q E h=>?_) (λ a0 A outer s H vs Q E N h=>?_)
 . obtain⟨l,ns,rfl,_⟩:=h
   rfl
 obtain⟨l,ns,rfl,O,hl,k⟩:=h;refine⟨_,qX1 (sset 1 qw3.nd (callD T.d30 (qaH2 T) (rm N) (qe6 (pv 0) qt9))) (show VSs ⟨λ _=>E,λ _=>false,List.replicate 10 none,[]⟩ (Fv true (CX1 P w) P w K mg base ["_law_script", "_law_bag_here", "_law_twice", "_law_plan", "_law_keys", "_law_row", "_law_there", "_law_key", "_law_turn", "_law_held"] "law" (qa3 Ik) a.f45 a0 A outer s H E) _ _ from(Ab (Ak 2 qw3.nd (Ah T.d31 (qc2 T) qa2 (rm N) (vaN 1 (vaV (qa4 Af) Ac))))
     (Ab (G9 (Ah T.d38 (qai6 T) qa2 (rm N) (vaN 1 (vaV (qa4 Af) Ac))) (Jl (n:=2) rfl (qF6 (Bc 3 qw3.nd) (qF6 (Bc 4 qw3.nd) Jk))))
     (Ab (B6 (Fq 4 qaQ9 F.plainAttrs_list F.slot_list_insert F.type_list_insert qaj3 (vaV (Ah T.d31 (qc2 T) qa2 (rm N) (vaN 1 (vaV (qa4 (v2 (Aj qf0) qe9 (vbi qr9 qr8.ops T.Cu (qa0 (vnm 4) qa6 rfl)) Af)) Ac))) (vaV (qa4 (vpow 1000000000000000000)) Ac))))
     (Ab (Ak 5 qw3.nd (qaT6 (ndv:=[]) T.Ch T.F8 T.d23.bn (qS7 T) qa2 (rm N) (vaV (efzV (emake T.Ce T.F5 T.d9 (qK1 T) qa2 (rm N) (vaV (qb8 (v2 (Au qb5) Am (vnm 3) Af)) (vaV (qb8 (v2 (Au qb5) Am (vnm 3) Af)) (vaV (qa4 (Ir qi9 qP8.ops T.D0 (qa0 (v2 (Au qb5) Am (vnm 3) Af) qa6 rfl))) Ac))))) Ac)))
     (Ab (Ak 6 qw3.nd (qa4 (B8 qa6)))
     (Ab (sforP PassesOwn.leaving (vpn 4) (Bc 7 qw3.nd)
     (Ag (qS0 PassesOwn.leaving T.D1 (G0 (vaV (qa4 (v2 (Aj qf0) qe9 Af (vnm 2))) Ac)) (Bc 8 qw3.nd)
     (Ag (sif (Bh (te (Ah T.d44 (qai4 T) qa2 (rm N) (vaN 5 (vaN 3 (vaN 6 (vaN 7 Ac)))))))
     (Ag (An (qa4 vbl)))
     At)))))
     (Ab (Ak 9 qw3.nd (qv3 5 T.d25 T.Ch.cl (qj7 T) qa2 (rm N)))
     (Ag (An (Gw (e2n 9 (Ax (qj6 N.u64) (qb1 _)) Bf (ecL (NY:=["_law_key"]) (src:=[none]) (qv3 5 T.d24 T.Ch.cl (qc4 T) qa2 (rm N)) (blk (λ av C s0 H0 ex=>(Bc 0 (show (["_law_key"]:List Str).Nodup by decide +kernel))) (λ av C s0 H0 ex=>(Ii (q2 (Aq qr2 (qb1 _)) qu0 (vnm 0) A7))) (λ av C s0 H0 ex=>(qb8 (vnm 0)))))) (Ic (qa4 (v2 (Ax (qj6 N.u64) (qb1 _)) Bf (vbi qG2 qad3.ops T.Dv (qa0 (vnm 9) qa6 rfl)) (vbi qG2 qad3.ops T.Dv (qa0 (vnm 6) qa6 rfl)))))))))))))))).h,?_⟩
 refine⟨_,rfl,l,ns,rfl,O,hl,λ p L H' hp hL kp B=>?_⟩;obtain⟨x,y,z,t,B⟩:=B;refine qaj6 (rest:=[]) (X:=Fv true (CX1 P w) P w K mg base [] "law" (qa3 Ik) a.f45 a0 A outer s H E) (n:=8) (x:=x) (y:=y) (z:=z) (ns:=t) rfl (λ _=>rfl) rfl B.at_ B.li B.ne (λ H'=>k H') ?_;have B0:M8 t (bagD x y z t):=⟨x,y,z,rfl,B.x0,B.y0,B.y1,B.z0,B.nn⟩
 generalize bagD x y z t=b at B0;generalize V.ref l=u;refine As [D.hole u,b,.u,.u,.u,.u,.u,.u,.u,.u] rfl ?_;refine qc9 (λ r=>∃ b q,r=[D.hole u,b,.int q,.u,.u,.u,.u,.u,.u,.u]/\M8 t b/\0<=q/\q < 2) (λ K I=>qh8 (qd7 rfl B0 rfl (by decide) (by decide) λ v Y v0 v1 B'=>I _ ⟨Y,v,rfl,B',v0,v1⟩)) ?_;rintro r ⟨b,q,rfl,B,t0,t1⟩;refine qc9 (λ r=>∃ b n wr c o,r=[D.hole u,b,.int q,Mp n wr c,.l false (Ms o),.u,.u,.u,.u,.u]/\M8 t b/\1<=n/\n<=64/\Ku c/\(∀ k∈o,Al k)/\o.length<=66) (λ K I=>?_) ?_
 . refine qR1 (ql3 (qc5 (x:=b) (qj2 rfl B.known) (qe5 (y:=.int 64) rfl (qd5 (qa1 (a:=b) (qj2 rfl B.known) ?_)))))
   exact⟨b,64,t,rfl,B,by decide,by decide,λ Y n wr c o B' W Z G nd hk a1=>qa1 (a:=[D.hole u,Y,.int q,.u,.u,.u,.u,.u,.u,.u]) rfl (qp8 (I _ ⟨Y,n,wr,c,o,rfl,B',W,Z,G,hk,a1⟩))⟩
 rintro r ⟨b,n,wr,c,o,rfl,B,W,Z,G,hk,a1⟩;refine qc9 (λ r=>∃ b o,r=[D.hole u,b,.int q,Mp n wr c,.l false (Ms o),.u,.u,.u,.u,.u]/\(∀ k∈o,Al k)) (λ K I=>qac8 ⟨rfl,qh2 ?_⟩) ?_
 . refine qd7 (m:=(o.length:Int)+1) rfl B (Ae (x:=.int (o.length:Nat)) (y:=.int 1) (by rw[qu6 (z:=false) (ys:=Ms o) rfl,qh4]) rfl rfl) (by lia) (by lia) λ v Y v0 v1 B'=>?_
   refine qe5 (y:=.int 1000000000000000000) rfl (qd5 (qa1 (a:=Ms o) rfl (qa1 (a:=(Ms (o.take v.toNat++1000000000000000000::o.drop v.toNat),D.non)) ?_ (I _ ⟨Y,_,rfl,λ x hx=>?_⟩))))
   . show (if 0<=v/\v < 1000000/\(Ms o).length < big then some ((Ms o).take v.toNat++D.int 1000000000000000000::(Ms o).drop v.toNat,D.non) else none)=_
     rw[if_pos ⟨v0,by lia,by rw[qh4];unfold big;lia⟩];unfold Ms;rw[zBe,zAx,List.map_take,List.map_drop]
   rcases zAe.mp hx with h | h
   . exact hk x (List.mem_of_mem_take h)
   rcases zAm.mp h with rfl | h
   . exact⟨by decide,by decide⟩
   exact hk x (List.mem_of_mem_drop h)
 rintro r ⟨b,o,rfl,hk⟩;refine qb0 [D.hole u,b,.int q,Mp n wr c,.l false (Ms o),Mt false a.Cb a.Ca n wr c (λ _=>none) [],.u,.u,.u,.u] (λ K I=>qh8 (qh2 (fz_to (qaI2 (qg4 (y:=.int n) rfl rfl (qg4 (y:=.bl wr) rfl rfl (qe5 (y:=.l false (Mw c)) (qap7 (z:=true)) (qd5 ?_)))))))) ?_
 . refine⟨n,wr,false,c,rfl,W,Z,G,rfl,?_⟩
   refine qa1 (a:=Ad false a.Ca n wr c) rfl (qa1 (a:=[D.hole u,b,.int q,Mp n wr c,.l false (Ms o),.u,.u,.u,.u,.u]) rfl (qd5 ?_));rw[qaK5];refine⟨n,wr,c,.non,λ _=>none,[],rfl,W,Z,nofun,Kept.none (by lia) (Gu W),.inl ⟨rfl,rfl⟩,rfl,?_⟩;exact qa1 (a:=Mt false a.Cb a.Ca n wr c (λ _=>none) []) rfl (qa1 (a:=[D.hole u,b,.int q,Mp n wr c,.l false (Ms o),.u,.u,.u,.u,.u]) rfl I)
 refine qb0 [D.hole u,b,.int q,Mp n wr c,.l false (Ms o),Mt false a.Cb a.Ca n wr c (λ _=>none) [],.l false (Ms []),.u,.u,.u] (λ K I=>I) ?_;refine qc9 (λ r=>∃ g f S U J,r=[D.hole u,b,.int q,Mp n wr c,.l false (Ms o),Mt false a.Cb a.Ca n wr c g f,.l false (Ms S),U,J,.u]/\Kept n.toNat wr (Mq n c) g S/\(∀ y∈S,Al y)/\f.length=S.length) (λ K I=>?_) ?_
 . refine qa1 (a:=(4,[])) rfl (qa1 (a:=D.l false (Ms o)) rfl (qa1 (a:=Ms o) rfl ⟨qj9 o,λ w=>?_⟩))
   refine qf2 (λ i r=>∃ g f S U J,r=[D.hole u,b,.int q,Mp n wr c,.hole w,Mt false a.Cb a.Ca n wr c g f,.l false (Ms S),U,J,.u]/\Kept n.toNat wr (Mq n c) g S/\(∀ y∈S,Al y)/\f.length=S.length) _ 0 _ ⟨_,[],[],_,_,rfl,Kept.none (by lia) (Gu W),nofun,rfl⟩ ?_ ?_
   . rintro i y hy r ⟨g,f,S,U,J,rfl,KP,O,M⟩ K2 a5
     obtain⟨k,a6,rfl⟩:=zB8.mp (zB4 hy);have ik:=hk k a6;refine qr7 (As [D.hole u,b,.int q,Mp n wr c,.hole w,Mt false a.Cb a.Ca n wr c g f,.l false (Ms S),.int k,J,.u] rfl ?_);refine qO5 (n:=1+q) rfl (qT1 (by lia) (by lia)) ?_;refine qf2 (λ i r=>∃ g f S J,r=[D.hole u,b,.int q,Mp n wr c,.hole w,Mt false a.Cb a.Ca n wr c g f,.l false (Ms S),.int k,J,.u]/\Kept n.toNat wr (Mq n c) g S/\(∀ y∈S,Al y)/\f.length=S.length) _ 0 _ ⟨g,f,S,_,rfl,KP,O,M⟩ ?_ ?_
     . rintro j y hy r ⟨g,f,S,J,rfl,KP,O,M⟩ K3 a2
       refine qr7 (As [D.hole u,b,.int q,Mp n wr c,.hole w,Mt false a.Cb a.Ca n wr c g f,.l false (Ms S),.int k,y,.u] rfl ?_);refine qaS8 (ql3 (qc5 (x:=Mt false a.Cb a.Ca n wr c g f) rfl (qc5 (x:=Mp n wr c) rfl (qc5 (x:=.l false (Ms S)) rfl (qc5 (x:=.int k) rfl (qd5 (qa1 (a:=D.int k) rfl (qa1 (a:=D.l false (Ms S)) rfl (qa1 (a:=Mp n wr c) rfl (qa1 (a:=Mt false a.Cb a.Ca n wr c g f) rfl ?_))))))))));refine⟨n,wr,c,g,f,S,k,rfl,ik,W,Z,G.nd,O,KP,M,qa1 (a:=[D.hole u,b,.int q,Mp n wr c,.hole w,Mt false a.Cb a.Ca n wr c g f,.l false (Ms S),.int k,y,.u]) rfl (qa1 (a:=true) rfl (Gi (by decide) (a2 _ ⟨g,f,S,_,rfl,KP,O,M⟩))),λ a8 g' e K'=>qa1 (a:=[D.hole u,b,.int q,Mp n wr c,.hole w,Mt false a.Cb a.Ca n wr c g' (f++[e]),.l false (Ms (S++[k])),.int k,y,.u]) rfl (qa1 (a:=true) rfl (Gi (by decide) (a2 _ ⟨g',_,S++[k],_,rfl,K',λ x hx=>?_,by rw[zAd,zAd,M];rfl⟩)))⟩;rcases zAe.mp hx with h | h
       . exact O x h
       rw[zAj.mp h];exact ik
     rintro r ⟨g,f,S,J,rfl,h⟩;exact a5 _ ⟨g,f,S,_,_,rfl,h⟩
   rintro r ⟨g,f,S,U,J,rfl,h⟩;exact qa1 (qar3 rfl) (I _ ⟨g,f,S,U,J,rfl,h⟩)
 rintro r ⟨g,f,S,U,J,rfl,KP,O,M⟩;have pm:=KP.perm;have a3:S.length<=64:=by have:=KP.len;lia
 refine qb0 [D.hole u,b,.int q,Mp n wr c,.l false (Ms o),Mt false a.Cb a.Ca n wr c g f,.l false (Ms S),U,J,.l false (Ms ((List.range n.toNat).filterMap g))] (λ K I=>qh8 (qK5 (p:=Mt false a.Cb a.Ca n wr c g f) (d:=.l false (Ms ((List.range n.toNat).filterMap g))) rfl (qn3 rfl) ⟨false,n,wr,c,g,f,rfl,Z,rfl⟩ rfl I)) ?_;refine qi6 (qaA5 ⟨rfl,?_⟩);refine qK5 (p:=Mt false a.Cb a.Ca n wr c g f) (d:=.l false (Mu n.toNat g)) rfl (qn3 rfl) ⟨false,n,wr,c,g,f,rfl,rfl⟩ rfl (qa1 (a:=Mu n.toNat g) rfl ⟨qy4 _ _,?_⟩);refine qk2 (λ ι=>∃ d,ι=[d]) Hj _ [] _ (by show 0+_ < 1000000;rw[qq6];lia) ⟨_,rfl⟩ ?_ ?_
 . rintro y hy ι a7 ⟨d,rfl⟩ R hR a4
   have this:=hR [y] ⟨_,rfl⟩;refine qr7 ?_;rcases qah6 hy with rfl | ⟨k,rfl⟩
   . have this:R (a7++[]) _:=this
     rw[zAf] at this;exact qh0 (b:=false) (Ae rfl rfl rfl) (Gi (by decide) this)
   exact qh0 (b:=true) (Ae rfl rfl rfl) (Br rfl (qu9 (d:=.int k) rfl rfl ⟨a4,this⟩))
 rintro ι ⟨d,rfl⟩;rw[qK8,zB6];refine qa1 (a:=D.bl true) (by show gEq (.l false (Ms _)) (.l false (Ms _))=_;rw[qaK3,zA9 rfl]) (qa1 (a:=true) rfl (Br rfl ?_));refine qr4 (d:=.bl true) (Ae (x:=.l false (Ms (Fe ((List.range n.toNat).filterMap g)))) (y:=.l false (Ms (Fe S))) (qab9 (z:=false) (pm.nodup_iff.mpr KP.h.1) (by rw[pm.length_eq];exact a3)) (qab9 (z:=false) KP.h.1 a3) ?_) rfl;rw[qaC2 pm,qaK3,zA9 rfl]
end
theorem dfX{K:W.Frag}{mg:Str->Option V'}{x qual:Str}{st:Stmt}{f:γ}{ps:List Str}{oc:V'}{od g:Option γ}{m:Array (Option V')}{kV e i d j:V'}{h:Heap}(X:K.In h)(G:h.Ns L5 mg)(a:W.nsIn K L5 x=some (some (.ref f)))(l:K.lookup f=some ⟨oc,od,.func (W.fnOf x qual (qe1 st) (qc7 st) (qa3 st) .none kV e i g d j),m⟩)(c:W.codeIn K d qual=true)(k:W.keepIn K (.ref f)=true)(b:∀(kV e i:V')(g:Option γ)(d j:V')(us:List V'),us.length=ps.length->bindArgs (W.fnOf x qual (qe1 st) (qc7 st) (qa3 st) .none kV e i g d j) ⟨us,[]⟩=pure (ps.zip us)) :
 Df K mg x qual st f (W.fnOf x qual (qe1 st) (qc7 st) (qa3 st) .none kV e i g d j) ps:=dfmk l c k (W.mg_of X G a) b
theorem qaV0{l:W.OpenLaw}{w:World}{K:W.Frag}{mg:Str->Option V'}{fa f0 f1 f2 f3 f4 f5 f6 f7 f8 f9 d f g h i j n o p q r t u c x y z A B C D E F G H I J L M N O P Q R S e0 C0 C1 C2 C3 C4 C5 C6 C7 C8 C9 C10 C11 C12:γ}{d0 d1 d2 d3 d4 d5 d6 d7 d8 d9 T U V X Y Z a0 a1 a2 a3 a4 a5 a6 a7 a8 a9 b0 b1 b2 b3 b4 b5 b6 b7 b8 b9 c0 c1 c2 c3 c4 c5 c6 c7 c8 b:δ}{Cj Co Cq:Tok}(e1:mg "law" = some (.ref fa))(j0:Df K mg "_wall" "_wall" qan8 f0 d0 ["k"])(j1:Md K C4 "__init__" "NoRoom.__init__" qj1 f1 d1 ["self", "room"])(j2:Md K C5 "__init__" "There.__init__" ql7 f2 d2 ["self", "key"])(j3:Df K mg "is_whole" "is_whole" qt2 f3 d3 ["thing"])(j4:Df K mg "is_whole_within" "is_whole_within" qe7 f4 d4 ["thing", "least", "most"])(j5:Df K mg "is_number" "is_number" qo7 f5 d5 ["thing"])(j6:Df K mg "are_parted" "are_parted" ql6 f6 d6 ["numbers"])(j7:Df K mg "is_number_pair" "is_number_pair" qf8 f7 d7 ["thing"])(j8:Df K mg "is_home_list" "is_home_list" qi2 f8 d8 ["thing"])(j9:Md K C0 "__init__" "Plan.__init__" qo9 f9 d9 ["self", "rooms", "wraps", "homes"])(e3:Md K C0 "is_room" "Plan.is_room" qi4 d T ["self", "thing"])(e4:Md K C0 "home" "Plan.home" qp0 f U ["self", "key"])(e5:Md K C0 "far" "Plan.far" qt6 g V ["self", "key", "room"])(e6:Md K C0 "goes_ahead" "Plan.goes_ahead" qe8 h X ["self", "room", "one", "other"])(e7:Df K mg "room_ahead" "room_ahead" ql5 i Y ["plan", "room"])(e8:Df K mg "word_by_room_ahead" "word_by_room_ahead" qd4 j Z ["plan", "rooms", "room"])(e9:Df K mg "word_due" "word_due" qt1 n a0 ["plan", "rooms", "room"])(g0:Df K mg "is_turned" "is_turned" qo6 o a1 ["plan", "rooms"])(g1:Df K mg "fault_of" "fault_of" qt3 p a2 ["plan", "rooms"])(g2:Df K mg "are_crowd" "are_crowd" qo8 q a3 ["plan", "keys", "room"])(g3:Df K mg "crowded_room" "crowded_room" qi3 r a4 ["plan", "keys"])(g4:Df K mg "refuse_crowd" "refuse_crowd" qi1 t a5 ["plan", "keys"])(g5:Df K mg "bring_in" "bring_in" qt4 u a6 ["plan", "rooms", "key"])(g6:MdN K C1 "__init__" "Row.__init__" qt5 c a7 ["self", "plan", "rooms"])(g7:Md K C1 "rooms_held" "Row.rooms_held" qf9 x a8 ["self"])(g8:Md K C1 "keys_held" "Row.keys_held" qg7 y a9 ["self"])(g9:Md K C1 "many" "Row.many" qD9 z b0 ["self"])(h0:Md K C1 "room_of" "Row.room_of" qj0 A b1 ["self", "key"])(h1:Md K C1 "put" "Row.put" qA3 B b2 ["self", "key"])(h2:Df K mg "_law_whole" "_law_whole" qI9 C b3 ["_law_found"])(h3:Df K mg "_law_bag" "_law_bag" qat7 D b4 ["_law_script"])(h4:Df K mg "_law_take" "_law_take" qW4 E b5 ["_law_bag_here", "_law_many"])(h5:Df K mg "_law_home" "_law_home" qW6 F b6 ["_law_plan", "_law_key"])(h6:Df K mg "_law_far" "_law_far" qat6 G b7 ["_law_plan", "_law_key", "_law_room"])(h7:Df K mg "_law_ahead" "_law_ahead" qJ4 H b8 ["_law_plan", "_law_room", "_law_one", "_law_other"])(h8:Df K mg "_law_passing" "_law_passing" qt7 I b9 ["_law_plan", "_law_keys"])(h9:Df K mg "_law_housed" "_law_housed" qA4 J c0 ["_law_plan", "_law_keys"])(i0:Df K mg "_law_drawn_homes" "_law_drawn_homes" qi5 L c1 ["_law_bag_here", "_law_size", "_law_many"])(i1:Df K mg "_law_drawn" "_law_drawn" qJ2 M c2 ["_law_bag_here", "_law_most"])(i2:Df K mg "_law_sort" "_law_sort" qW5 N c3 ["_law_e"])(i3:Df K mg "_law_crowd" "_law_crowd" qJ3 O c4 ["_law_plan", "_law_keys", "_law_room"])(i4:Df K mg "_law_put" "_law_put" qat5 P c5 ["_law_plan", "_law_held", "_law_key"])(i5:Df K mg "_law_pairs" "_law_pairs" qJ1 Q c6 ["_law_found"])(i6:Df K mg "_law_told" "_law_told" qW3 R c7 ["_law_row", "_law_key"])(i7:Df K mg "_law_right" "_law_right" qJ0 S c8 ["_law_row", "_law_plan", "_law_there", "_law_key"])(c9:Df K mg "law" "law" Ik e0 b ["_law_script"])(i8:mg "MOST_NUMBER" = some (.int 1000000000000000000 Cj))(i9:mg "MOST_ROOMS" = some (.int 64 Co))(k0:mg "MOST_HOMES" = some (.int 64 Cq))(k1:mg "ValueError" = none)(k2:mg "abs" = none)(k3:mg "all" = none)(k4:mg "bool" = none)(k5:mg "dict" = none)(k6:mg "enumerate" = none)(k7:mg "int" = none)(k8:mg "isinstance" = none)(k9:mg "len" = none)(l0:mg "list" = none)(l1:mg "max" = none)(l2:mg "min" = none)(l3:mg "range" = none)(l4:mg "set" = none)(l5:mg "sorted" = none)(l6:mg "tuple" = none)(l7:Cl K mg "Plan" C0)(l8:Mk K C0 f9)(l9:qc8 K C0 "rooms")(m0:qc8 K C0 "wraps")(m1:qc8 K C0 "homes")(m2:qc8 K C0 "home_numbers")(m3:IsO K C0)(m4:Cl K mg "Row" C1)(m5:Mk K C1 c)(m6:qc8 K C1 "plan")(m7:qc8 K C1 "held")(m8:qc8 K C1 "done")(m9:mg "HomeError" = some (.ref C2))(n0:Exc K C2)(n1:mg "Wrong" = some (.ref C3))(n2:mg "NoRoom" = some (.ref C4))(n3:Exc K C4)(n4:W.kitOne K (.ref C4) (.type "ValueError")=some true)(n5:MkE K C4 f1)(n6:qc8 K C4 "room")(n7:IsX K C4)(n8:W.kitOne K (.ref C4) (.ref C3)=some false)(n9:W.kitOne K (.ref C4) (.ref C5)=some false)(o0:W.kitOne K (.ref C4) (.ref C6)=some false)(o1:W.kitOne K (.ref C4) (.ref C7)=some false)(o2:W.kitOne K (.ref C4) (.ref C8)=some false)(o3:W.kitOne K (.ref C4) (.ref C9)=some false)(o4:W.kitOne K (.ref C4) (.ref C10)=some false)(o5:W.kitOne K (.ref C4) (.ref C11)=some false)(o6:W.kitOne K (.ref C4) (.ref C12)=some false)(o7:W.mroIn K C4 (.ref C2)=some true)(o8:W.mroIn K C4 (.ref C4)=some true)(o9:W.mroIn K C4 (.ref C5)=some false)(p0:mg "There" = some (.ref C5))(p1:Exc K C5)(j100:W.kitOne K (.ref C5) (.type "ValueError")=some true)(j101:MkE K C5 f2)(j102:qc8 K C5 "key")(j103:IsX K C5)(j104:W.kitOne K (.ref C5) (.ref C3)=some false)(j105:W.kitOne K (.ref C5) (.ref C4)=some false)(j106:W.kitOne K (.ref C5) (.ref C6)=some false)(j107:W.kitOne K (.ref C5) (.ref C7)=some false)(j108:W.kitOne K (.ref C5) (.ref C8)=some false)(j109:W.kitOne K (.ref C5) (.ref C9)=some false)(j110:W.kitOne K (.ref C5) (.ref C10)=some false)(j111:W.kitOne K (.ref C5) (.ref C11)=some false)(j112:W.kitOne K (.ref C5) (.ref C12)=some false)(j113:W.mroIn K C5 (.ref C2)=some true)(j114:W.mroIn K C5 (.ref C4)=some false)(j115:W.mroIn K C5 (.ref C5)=some true)(j116:mg "NotThere" = some (.ref C6))(j117:mg "Unkept" = some (.ref C7))(j118:mg "Unlike" = some (.ref C8))(j119:mg "NoText" = some (.ref C9))(j120:mg "NoRow" = some (.ref C10))(j121:mg "NoPlan" = some (.ref C11))(j122:mg "TooMany" = some (.ref C12))(hb:∀(s:Sh)(v:V'),BindsTo s b ⟨[v],[]⟩ [("_law_script",v)]):∃ fd:δ,(∀(s:Sh)(v:V'),BindsTo s fd ⟨[v],[]⟩ [("_law_script",v)])/\∀ base:Heap,K.In base->base.Ns L5 mg->Gc l.prog w K mg base (CX1 l.prog w) 12 fa fd ["_law_script"] (Jd K):=by
 have e:=e1.symm.trans c9.m;injection e with e
 injection e with e
 subst e;exact⟨b,hb,λ base _ _=>qaQ8 (a:=⟨f0,d0,f1,d1,f2,d2,f3,d3,f4,d4,f5,d5,f6,d6,f7,d7,f8,d8,f9,d9,d,T,f,U,g,V,h,X,i,Y,j,Z,n,a0,o,a1,p,a2,q,a3,r,a4,t,a5,u,a6,c,a7,x,a8,y,a9,z,b0,A,b1,B,b2,C,b3,D,b4,E,b5,F,b6,G,b7,H,b8,I,b9,J,c0,L,c1,M,c2,N,c3,O,c4,P,c5,Q,c6,R,c7,S,c8,fa,b,Cj,Co,Cq,C0,C1,C2,C3,C4,C5,C6,C7,C8,C9,C10,C11,C12⟩) ⟨j0,j1,j2,j3,j4,j5,j6,j7,j8,j9,e3,e4,e5,e6,e7,e8,e9,g0,g1,g2,g3,g4,g5,g6,g7,g8,g9,h0,h1,h2,h3,h4,h5,h6,h7,h8,h9,i0,i1,i2,i3,i4,i5,i6,i7,c9,i8,i9,k0,k1,k2,k3,k4,k5,k6,k7,k8,k9,l0,l1,l2,l3,l4,l5,l6,l7,l8,l9,m0,m1,m2,m3,m4,m5,m6,m7,m8,m9,n0,n1,n2,n3,n4,n5,n6,n7,n8,n9,o0,o1,o2,o3,o4,o5,o6,o7,o8,o9,p0,p1,j100,j101,j102,j103,j104,j105,j106,j107,j108,j109,j110,j111,j112,j113,j114,j115,j116,j117,j118,j119,j120,j121,j122⟩⟩
theorem walk{l:W.OpenLaw}{q:Program}{loose:List Str}{XP:(Str->Option V')->Heap->Prop}{YP:World->Heap->Prop}{d:DefRec}{K:Params->W.Frag}(c:l.most=some 63)(b:d.params.defaults=[])(e:∀(w:World)(h:Heap),YP w h->(K w.params).In h)(F:∀(w:World)(mg:Str->Option V')(fa:γ)(h:Heap),(K w.params).In h->h.Ns L5 mg->mg d.name=some (.ref fa) ->
 ∃ fd:δ,(∀(s:Sh)(u:V'),BindsTo s fd ⟨[u],[]⟩ [("_law_script",u)])/\∀ base:Heap,(K w.params).In base->base.Ns L5 mg->Gc l.prog w (K w.params) mg base (CX1 l.prog w) 12 fa fd ["_law_script"] (Jd (K w.params))) :
 W.WalkO q loose XP YP l.row.toRowW d [] (λ f vs=>PySem.call f vs) :=
 L2.qaA8 (n:=63) (k:=12) (x := "_law_script") (CX:=λ w=>CX1 l.prog w) (sp:=λ w=>Jd (K w.params)) c (by decide) b ⟨λ _=>rfl,by decide,by decide⟩ e F (λ _ _ a g i _ j=>⟨a,g,rfl,j,i,λ _=>rfl⟩) λ _ _ _ _ _ ⟨_,_,_,_,_,_,_,_,z⟩=>z
end LV.My
open PySem PySem.W PyProof.Rows L2
local macro_rules | `(tactic| walk_at "u")=>`(tactic| (intro _ _ _ _ _ _;repeat' first | exact LV.ec0 (rfl) | refine LV.ec1 λ _=>?_))
local macro_rules | `(tactic| walk_at "d")=>`(tactic| (refine' LV.My.dfX (by assumption) (by assumption) ?a ?l ?c ?k ?b;(case a | l | c | k=>k_is);(case b=>walk_at "u")))
local macro_rules | `(tactic| walk_at "e")=>`(tactic| (refine' mdmk ?l ?c ?k ?a ?i ?b;(case a | i | l | c | k=>k_is);(case b=>walk_at "u")))
local macro_rules | `(tactic| walk_at "c")=>`(tactic| (refine' mg_of (by assumption) (by assumption) ?a;k_is))
local macro_rules | `(tactic| walk_at "z")=>`(tactic| (refine' mg_none_of (by assumption) (by assumption) ?a;k_is))
local macro_rules | `(tactic| walk_at "q")=>`(tactic| (first | k_is | kernel_rfl | rfl))
local macro_rules | `(tactic| walk_at "n")=>`(tactic| (show findIn _ _ _=some none;k_is))
local macro_rules | `(tactic| walk_at "x9")=>`(tactic| (refine⟨?_,?_,?_,?_,?_,?_,?_,?_,?_⟩<;>walk_at "q"))
local macro_rules | `(tactic| walk_at "ix")=>`(tactic| (refine⟨⟨?_,?_,?_,?_,?_,?_,?_,?_,?_⟩,?_,?_,?_⟩<;>walk_at "q"))
local macro_rules | `(tactic| walk_at "me")=>`(tactic| (refine⟨⟨?_,?_,?_,?_,?_,?_,?_,?_,?_⟩,?_,?_,?_,?_⟩<;>walk_at "q"))
theorem PySem.Challenge.cw_homeward_k31_puts_move_by_need_holds : PySem.Challenge.rw_homeward_k31_puts_move_by_need.Holds := by
 w_on;o_law;k_head;(case hw=>w_witness2)
 k_fill
 refine LV.My.walk (l:=PySem.Challenge.rw_homeward_k31_puts_move_by_need) rfl rfl (λ w h Y=>PySem.W.kIn_of Y) ?F
 case F =>
 intro w g j h KX G f;refine' LV.My.qaV0 f ?j0 ?j1 ?j2 ?j3 ?j4 ?j5 ?j6 ?j7 ?j8 ?j9 ?j10 ?j11 ?j12 ?j13 ?j14 ?j15 ?j16 ?j17 ?j18 ?j19 ?j20 ?j21 ?j22 ?j23 ?j24 ?j25 ?j26 ?j27 ?j28 ?j29 ?j30 ?j31 ?j32 ?j33 ?j34 ?j35 ?j36 ?j37 ?j38 ?j39 ?j40 ?j41 ?j42 ?j43 ?j44 ?j45 ?j46 ?j47 ?j48 ?j49 ?j50 ?j51 ?j52 ?j53 ?j54 ?j55 ?j56 ?j57 ?j58 ?j59 ?j60 ?j61 ?j62 ?j63 ?j64 ?j65 ?j66 ?j67 ?j68 ?j69 ?j70 ?j71 ?j72 ?j73 ?j74 ?j75 ?j76 ?j77 ?j78 ?j79 ?j80 ?j81 ?j82 ?j83 ?j84 ?j85 ?j86 ?j87 ?j88 ?j89 ?j90 ?j91 ?j92 ?j93 ?j94 ?j95 ?j96 ?j97 ?j98 ?j99 ?j100 ?j101 ?j102 ?j103 ?j104 ?j105 ?j106 ?j107 ?j108 ?j109 ?j110 ?j111 ?j112 ?j113 ?j114 ?j115 ?j116 ?j117 ?j118 ?j119 ?j120 ?j121 ?j122 ?hb
 case j46=>walk_at "c"
 case j47=>walk_at "c"
 case j48=>walk_at "c"
 case j65=>refine' ⟨⟨?_,?_,?_,?_⟩,mg_of (by assumption) (by assumption) ?a⟩;(case a=>k_is);k_is;k_is;k_is;k_is
 case j72=>refine' ⟨⟨?_,?_,?_,?_⟩,mg_of (by assumption) (by assumption) ?a⟩;(case a=>k_is);k_is;k_is;k_is;k_is
 case j77=>walk_at "c"
 case j79=>walk_at "c"
 case j80=>walk_at "c"
 case j98=>walk_at "c"
 case j116=>walk_at "c"
 case j117=>walk_at "c"
 case j118=>walk_at "c"
 case j119=>walk_at "c"
 case j120=>walk_at "c"
 case j121=>walk_at "c"
 case j122=>walk_at "c"
 case j0=>walk_at "d"
 case j1=>walk_at "e"
 case j2=>walk_at "e"
 case j3=>walk_at "d"
 case j4=>walk_at "d"
 case j5=>walk_at "d"
 case j6=>walk_at "d"
 case j7=>walk_at "d"
 case j8=>walk_at "d"
 case j9=>walk_at "e"
 case j10=>walk_at "e"
 case j11=>walk_at "e"
 case j12=>walk_at "e"
 case j13=>walk_at "e"
 case j14=>walk_at "d"
 case j15=>walk_at "d"
 case j16=>walk_at "d"
 case j17=>walk_at "d"
 case j18=>walk_at "d"
 case j19=>walk_at "d"
 case j20=>walk_at "d"
 case j21=>walk_at "d"
 case j22=>walk_at "d"
 case j23=>refine' LV.mdmkN ?l ?c ?k ?a ?i ?t ?b ?bn;(case a | i | l | c | k | t=>k_is);(case b=>intro _ _ _ _ _ _;repeat' first | exact LV.ec0 (⟨_,rfl,rfl⟩) | refine LV.ec1 λ _=>?_);(case bn=>intro _ _ _ _ _ _;refine LV.ec2 ?_;repeat' first | exact LV.ec0 (⟨_,rfl,rfl⟩) | refine LV.ec1 λ _=>?_)
 case j24=>walk_at "e"
 case j25=>walk_at "e"
 case j26=>walk_at "e"
 case j27=>walk_at "e"
 case j28=>walk_at "e"
 case j29=>walk_at "d"
 case j30=>walk_at "d"
 case j31=>walk_at "d"
 case j32=>walk_at "d"
 case j33=>walk_at "d"
 case j34=>walk_at "d"
 case j35=>walk_at "d"
 case j36=>walk_at "d"
 case j37=>walk_at "d"
 case j38=>walk_at "d"
 case j39=>walk_at "d"
 case j40=>walk_at "d"
 case j41=>walk_at "d"
 case j42=>walk_at "d"
 case j43=>walk_at "d"
 case j44=>walk_at "d"
 case j45=>walk_at "d"
 case j49=>walk_at "z"
 case j50=>walk_at "z"
 case j51=>walk_at "z"
 case j52=>walk_at "z"
 case j53=>walk_at "z"
 case j54=>walk_at "z"
 case j55=>walk_at "z"
 case j56=>walk_at "z"
 case j57=>walk_at "z"
 case j58=>walk_at "z"
 case j59=>walk_at "z"
 case j60=>walk_at "z"
 case j61=>walk_at "z"
 case j62=>walk_at "z"
 case j63=>walk_at "z"
 case j64=>walk_at "z"
 case j67=>walk_at "n"
 case j68=>walk_at "n"
 case j69=>walk_at "n"
 case j70=>walk_at "n"
 case j71=>refine⟨?_,?_,?_,?_,kf_of ?_ ?_ ?_ ?_ ?_ ?_ ?_⟩<;>walk_at "q"
 case j74=>walk_at "n"
 case j75=>walk_at "n"
 case j76=>walk_at "n"
 case j78=>walk_at "x9"
 case j81=>walk_at "x9"
 case j82=>walk_at "q"
 case j84=>walk_at "n"
 case j85=>walk_at "ix"
 case j86=>walk_at "q"
 case j87=>walk_at "q"
 case j88=>walk_at "q"
 case j89=>walk_at "q"
 case j90=>walk_at "q"
 case j91=>walk_at "q"
 case j92=>walk_at "q"
 case j93=>walk_at "q"
 case j94=>walk_at "q"
 case j95=>walk_at "q"
 case j96=>walk_at "q"
 case j97=>walk_at "q"
 case j99=>walk_at "x9"
 case j100=>walk_at "q"
 case j102=>walk_at "n"
 case j103=>walk_at "ix"
 case j104=>walk_at "q"
 case j105=>walk_at "q"
 case j106=>walk_at "q"
 case j107=>walk_at "q"
 case j108=>walk_at "q"
 case j109=>walk_at "q"
 case j110=>walk_at "q"
 case j111=>walk_at "q"
 case j112=>walk_at "q"
 case j113=>walk_at "q"
 case j114=>walk_at "q"
 case j115=>walk_at "q"
 case j66=>refine⟨?_,?_,?_,?_⟩<;>k_is
 case j73=>refine⟨?_,?_,?_,?_⟩<;>k_is
 case j83=>walk_at "me"
 case j101=>walk_at "me"
 case hb=>exact λ s v=>.of_eq rfl
#print axioms PySem.Challenge.cw_homeward_k31_puts_move_by_need_holds
