import PyProof.Rows.All
import Wide.All
import OpenK.AllK
import Wide.FinOn
import Lean
import PyProof.EqAt
import PyProof.EqKinds
import PyProof.TupleCall
import PyProof.CompFree
import KE.KIsAll
import PyProof.AttrMiss
import PyProof.IsiH_list
import KE.KDictOf
import PyProof.ConsumeWalk
import PyProof.Rows.SetFrom
import PyProof.NeKinds
import KE.KEqDict
import PyProof.AutoListH
import PyProof.EnumMake
import PyProof.EnumFor
import PyProof.EnumStmt
import PyProof.LayNew
import PyProof.Rows.EnumRows
import KE.KDictList
import KE.KItemsList
import PyProof.ZipIter
import PyProof.Rows.ZipGen
import KE.KRevIter
import PySem.Challenge.RW_homeward_k33_rows_refused
local macro_rules|`(⋯)=>`(by lia)|`(∅)=>`(by decide)
set_option linter.all false
set_option Elab.async false
def zA0:=@List.count_append
def zA1:=@Option.bind_eq_some_iff
def zA2:=@PySem.Heap.get?_push_of_some
def zA3:=@Nat.le_refl
def zA4:=@List.size_toArray
def zA5:=@List.getElem?_eq_some_iff
def zA6:=@List.mem_cons_of_mem
def zA7:=@Nat.le_trans
def zA8:=@Bool.false_ne_true
def zA9:=@PySem.Heap.lt_size
def zAa:=@Nat.lt_of_lt_of_le
def zAb:=@List.mem_cons_self
def zAc:=@Option.map_eq_some_iff
def zAd:=@List.mem_append
def zAe:=@of_decide_eq_true
def zAf:=@List.length_append
def zAg:=@List.mem_singleton
def zAh:=@Bool.and_eq_true_iff
def zAi:=@List.append_nil
def zAj:=@Nat.ne_of_lt
def zAk:=@List.length_map
def zAl:=@List.mem_cons
def zAm:=@List.mem_range
def zAn:=@decide_eq_true
def zAo:=@Nat.zero_add
def zAp:=@List.length_cons
def zAq:=@List.take_of_length_le
def zAr:=@List.getElem?_append_left
def zAs:=@List.append_assoc
def zAt:=@List.count_cons
def zAu:=@List.lookup_cons
def zAv:=@PySem.Heap.get?_push_size
def zAw:=@List.map_cons
def zAx:=@List.mem_append_right
def zAy:=@List.mem_map
def zAz:=@List.forall_mem_cons
def zB0:=@List.not_mem_nil
def zB1:=@beq_self_eq_true
def zB2:=@Array.toList_append
def zB3:=@decide_eq_false
def zB4:=@Option.isSome_iff_exists
def zB5:=@List.mem_of_getElem?
def zB6:=@List.length_take
def zB7:=@Array.length_toList
def zB8:=@List.cons_merge_cons
def zB9:=@List.mem_filter
def zBa:=@List.getElem?_eq_getElem
def zBb:=@List.length_range
def zBc:=@Nat.le_of_lt
def zBd:=@List.getElem?_map
def zBe:=@PySem.Heap.get?_update_other
def zBf:=@List.take_append_drop
def zBg:=@Nat.zero_le
def zBh:=@List.nil_append
def zBi:=@List.getElem?_set_ne
def zBj:=@of_decide_eq_false
def zBk:=@Bool.and_eq_true
def zBl:=@beq_iff_eq
def zBm:=@Int.emod_eq_of_lt
def zBn:=@List.map_append
def zBo:=@List.all_eq_true
def zBp:=@Array.perm_iff_toList_perm
def zBq:=@List.forall_mem_append
def zBr:=@beq_eq_false_iff_ne
def zBs:=@List.filterMap_cons
def zBt:=@List.replicate_succ
def zBu:=@List.getElem?_eq_none
def zBv:=@PySem.Heap.get?_update_self
def zBw:=@List.length_nil
def zBx:=@List.length_drop
def zBy:=@List.cons_append
def zBz:=@Nat.le_of_lt_succ
def zC0:=@List.find?_cons
def zC1:=@Nat.not_lt_zero
def zC2:=@List.getElem?_set_self
def zC3:=@List.any_eq_true
def zC4:=@Nat.le_of_not_lt
def zC5:=@Nat.lt_irrefl
def zC6:=@Nat.lt_of_le_of_lt
def zC7:=@Nat.le_of_eq
def zC8:=@List.getElem?_of_mem
def zC9:=@List.mem_append_left
def zCa:=@Nat.lt_of_succ_lt
def zCb:=@List.flatten_cons
def zCc:=@decide_eq_true_eq
def zCd:=@List.pairwise_map
def zCe:=@Nat.sub_le
def zCf:=@List.nodup_append
def zCg:=@Int.toNat_natCast
def zCh:=@Nat.mod_eq_of_lt
def zCi:=@decide_eq_decide
def zCj:=@Nat.succ_le_succ
def zCk:=@List.findIdx?_cons
def zCl:=@Int.emod_lt_of_pos
def zCm:=@List.nodup_cons
def zCn:=@List.map_map
def zCo:=@List.length_set
def zCp:=@List.any_cons
set_option genSizeOf false
set_option genInjectivity false
set_option maxRecDepth 100000
noncomputable section
structure PySem.W.Fast:Prop where
 (tw2540056654586524540 tw3475521393865359044 tw7945165690194548749 tw11336890368505612343 tw13505581302930723284 tw5407401951137838315 tw8454955541604500722 tw155515442020725246 tw5570432974307982658 tw10648948422002386628 tw12310784004093771107 tw13422379473311734744 tw11544763358823287909 tw371009363912182600 tw4366175669799014586 tw2901696831728431712 tw5696746821700474166 tw980817069276237049 tw2817503469215652803 tw8347325472476465350 tw8359068694977887139 tw8170339493033128238 tw7435756918722564521 tw8902318348898992728 tw8773419918726318942 tw704429931239873108 tw6898290573767001568 tw9037130530426614198 tw1057248430017313155 tw1235573488058926672 tw18036165101424810278 tw8887159662753074001 tw1381373131213218394 tw11554307139871299568 tw4586657499120204040 tw18400390178350251426 tw7732766208925636372 tw18396151186563097677 tw6466258884118140478 tw2366176940456360261
 tw843817789568773741 tw15657551163735341437 tw15880089503252928078 tw14601755092113769768 tw18345294461745249259 tw6440140203811424175 tw11866953572143904404 tw13993134745030760479 tw9613690865096877893 tw16802959661105952128 tw17995950045047630412 tw5586308457348349161 tw18015659962039121222 tw13727716812494427264 tw7973278454122043874 tw3925283132130273973 tw4152390950190468072 tw11616738482462475432 tw3876394157596024883 tw6556198801088672178 tw3917813109465798808 tw8769030952899041237 tw16119561936546273567 tw144692056860925482 tw17661260977747084758 tw764165733909425772 tw12091895868501170954 tw3085936808295855329 tw2887112782140229138 tw15072882943986677019 tw364619779868259426 tw17720930670911719161 tw11352444419624303526 tw749498597590581346 tw813487095698868439 tw14513463868330716264 tw14401200660010489399 tw9436417488523814012 tw15374672673273304490 tw13963220336683345162
 tw9626768789305262180 tw10839575998738741524 tw8868922504374209442 tw13871021669453634158 tw8706388249139995410 tw12399816333080927470 tw16567766107441542305 tw11686654546488795179 tw9113700184464909751 tw4472790678737424539 tw5969422869393679761 tw12534681209654809147 tw13841330536914763580 tw6296364644997298955 tw6752882386462057223 tw18305613161157666684 tw7945011809809105632 tw10243946222841791109 tw13449794697961976939 tw10565201151768431634 tw3084268249051146029 tw11209247610428257698 tw5037873910442807842 tw3719364452978439418 tw13816092254363185595 tw9685816927618965235 tw2701827606313190109 tw181990084993987820 tw12901816339496997415 tw180208742381589064 tw10103862058015268497 tw14791832183344139268 tw10277187250052166167 tw15827771272099747994 tw17837133227959867259 tw12298453882317535501 tw1943160532327745118 tw15995116491182101033 tw16974760398233474823 tw7708823045887379391
 tw4671537370365844039 tw6959585869733154366 tw17173179274619965709 tw12877519985693938001 tw2033495799385952650 tw15421863744939512901 tw16577121361589874359 tw12370016034847136473 tw117198789866072115 tw660744229877861129 tw11206116040087833770 tw4631748509210610044 tw563646977272731276 tw15683096030224193513 tw13927311576864458927 tw16208622238178890415 tw15396736671128645040 tw2734694087269253698 tw10746899975563324015 tw384340173260186263 tw5026514956901226688 tw9372634375878435977 tw1116306480456654556 tw2189636379376861682 tw1760042633419958711 tw4480819005759810210 tw6478505131477184615 tw7105409928710960448 tw3950901307209139825 tw7276615433385175911 tw1720536895464185467 tw4467138721187045118 tw10546795854307945077 tw1854748244565229749 tw13781003916052611517 tw13766539209902329812 tw3552914435976301903 tw15431021599063754918 tw723152754442587406 tw4305197415333760817
 tw16368209596767234081 tw16471688794887090816 tw6074222252179876507 tw1651512482360538104 tw9629431639468327787 tw10855216934692953785 tw9274546628623636606 tw5704048916302913456 tw4976416716776366845 tw1806780768470876602 tw14250467821244504522 tw16361746093637732515 tw14112359516107897999 tw3532207982279974574 tw1758231412794787550 tw7260425484173333173 tw7884231317892564141 tw2248288014029992604 tw15400624701422719478 tw12943903499471345363 tw9298447468502032135 tw891601549515385956 tw7270387889468913892 tw6664878115220546378 tw5849919949446185594 tw4189373039035215348 tw3632789074020474208 tw15447416750270930325 tw12117172927847430499 tw13031017775697315681 tw10808604398467377803 tw15167092721825613858 tw14151749011068990253 tw927220328674352673 tw5344750531878866186 tw7294632039025968391 tw6624143757855392737 tw3900977838666998713 tw2959525022722595533 tw16379377421260562817
 tw15735684383263087532 tw15688888597126788857 tw15585399365487234493 tw13864247124062243324 tw11539503232597443775 tw4012420404429140665 tw3636342669238367397 tw2638459694970682171 tw17595568946278707145 tw17253408268957631500 tw12729415661198857554 tw7197701397326661030 tw6607524380530022067 tw272508642912472538 tw14957627495349215817 tw1050644976877578482 tw11529010157147184921 tw1530311707439425660 tw7653514415664816576 tw9017349005936954275 tw9584228560429191798 tw16157278157983006676 tw2296106983946515446 tw15059613509239658566 tw13914951569517150277 tw10201873147664750315 tw18271681878440709050 tw2603833724144115848 tw10856479400227844261 tw6522025050416776396 tw16296553791143300647 tw5791766373496184865 tw5147592522105343659 tw17131463998030873040 tw10540426569561650143 tw5991983787922860439 tw6039738370543843847 tw1971276982071222454 tw16199774035701306561 tw6463436002095847642
 tw12684804722460331472 tw10052540613936713730 tw12196053176705559910 tw234843531053623751 tw1406757824031872294 tw12973935829513755671 tw10605312893204862553 tw17941554105865911146 tw9996383047951884276 tw8827661367594969218 tw8472963996176971382 tw6823891922524942530 tw4639576119093154782 tw2634966282254072139 tw15056167826327006555 tw301149296485123364 tw10522047692932456831 tw13313045708157629788 tw598368797055988483 tw1667528878122552756 tw7751897257111498953 tw14418340305475622188 tw5783798842490678815 tw13391261151061607859 tw8509737278837152 tw9889821370084934788 tw9777197468320764395 tw9365204182458354625 tw9187179953438261842 tw7941443026297233943 tw7191869025275633709 tw6650938247135390207 tw388989472730022427 tw3492319527074490603 tw3366425232944987330 tw17505310349166258852 tw16900154301008505690 tw16460209437019141847 tw15115409551626036043 tw15048649722492162230
 tw14505034292699937768 tw13892610387029188138 tw12702759531203766340 tw1260232077859606609 tw11376188546955612658 tw12334849256278381466 tw12496001625869975563 tw16768408375128774937 tw80790942479247539 tw5402831400529887196 tw2029278402902096435 tw7406677098511353981 tw7560959144979422076 tw4172296130739556738 tw3105841996197422025 tw16889427629999801147 tw12652997780134324817 tw12502954540136917836 tw1071641479750089280 tw11343352325451566572 tw15619562526400529359 tw7210320911589501957 tw9583476601439133356 tw3982587543828680502 tw12485339722826197948 tw9823570780092088594 tw9738523648185477560 tw9303828622538891426 tw9290260394763907185 tw9127154626145627487 tw9105128334702310151 tw7943705097578530512 tw7874830925393789187 tw7143737510259556037 tw7106809990120573796 tw6575972593700359200 tw5923579017936715508 tw5704607560225680590 tw5119852681858245692 tw4338772328704928559
 tw388565099148146470 tw355056719519827236 tw3309788876246977952 tw2880918044268349829 tw2416059838711181373 tw2374543843980805802 tw219027120360642661 tw2044459330683627348 tw18213409050129023310 tw18171754577937736855 tw16369933352742838793 tw16110372049926610968 tw16056469996995238571 tw15263240955347294713 tw15203216479739422567 tw13316909899555529910 tw13231107116956997794 tw12343809869976494033 tw10575034805657710112 tw10322820482673130797 tw10240064032240234661 tw10016262147046142480 tw17628404313717482073 tw759129688981507875 tw14765510344197294915 tw9907089345710973041 tw9474571976331780860 tw6930196659371806513 tw4786703614489898286 tw4446426916263021030 tw18106303263197393796 tw17667520195692467516 tw17425306200598006942 tw16601020678413305505 tw14582463411974420479 tw14434712216522643002 tw13395683649176958136 tw10129020680908321560 tw16918958545780285037 tw6499733304939277132
 tw10302416656025196601 tw6336988639765824760 tw10332001860047816903 tw5215351304600361227:True)
abbrev N'(x:PySem.Str):Prop:=(x==("__debug__" : PySem.Str))=false
abbrev γ:=PySem.Addr
abbrev V':=PySem.Value
abbrev Sh:=PySem.Shared
abbrev δ:=PySem.FuncData
open PySem renaming wpAny_bind→J',wpAny_pure→M7,starEach→M8,sizeLine→M9,compareOp→M',foldedSetIterable→Na,wpAny_holding→Nb,bootBuiltins→Nc,wpAny_truthy_bool→Nd,attributeBase→Nf,sizeLine_eq→Ng,mainGlobals→Nh,wpAny_loadPart_at→Ni,sysModules→Nj,keywordEach→Nk,wpAny_mono→Nl,wpAny_rule→Nm,wpAny_passesOwn→Nn,call_meets→No,assignEach→Np,binaryOp→Nq,wpAny→Nr,model→Nt,Program→Nu,Around→Nv,World→Nw,Expr→Nx,Stmt→Ny
open PyProof.Rows renaming wpS_bind→Nz,wpS_pure→N0,pendingOf→N1,failedOf→N2,wpS_modify→N3,arrOf→N4,Keyed→N5,SortSt→N6,kindOf→N7,setArr→N8,setPending→N9
open _root_.List renaming replicate→Oa,range→Ob,merge→Oc,lookup→Oe,length→Of,take_add_one→Og,all_cons→Oh,drop_eq_getElem_cons→Oi,sublist_append_left→Oj,filter_cons_of_neg→Ol,filter_cons_of_pos→Om,take_sublist→On,drop_of_length_le→Oo,drop_eq_nil_of_le→Op,drop_length→Oq,drop_zero→Os,zip_cons_cons→Ot,filterMap_map→Ou,filter_congr→Ov,foldl→Ow,pairwise_iff_getElem→Ox,map_nil→Oy,getElem_mem→Oz,nodup_range→O0,take_length→O1,of_mem_zip→O2,range_succ→O3,set_append_right→O4,drop_drop→O5,set_append_left→O6,mem_of_mem_take→O7,map_take→O8,mergeSort_perm→O9,getD→Pa,contains_cons→Pb,set_set→Pc,getElem_take→Pd,getElem_drop→Pe,all_eq_false→Pf,getElem_inj→Pg,countP_cons→Ph,merge_right→Pi,foldl_cons→Pj,countP_map→Pk,nodup_nil→Pm,nil_merge→Pn,take_take→Po,take_zero→Pq,mapM_cons→Ps,filterMap→Pt,take_add→Pu,take_nil→Pw,any_map→Px,all_map→Py
open PySem.Value renaming ref→Pz,none→P0,int→P1,builtin→P3,bool→P4,str→P5,type→P6,float→P7,isStrOf→P8,isInt→P9,bytes→Qa
open And renaming imp_right→Qb
open Option.some renaming inj→Qc
open PySem.PassesOwn renaming leaving→Qd
open PySem.W renaming Frag→Qe,kitOne→Qf
open PySem.F renaming plainAttrs_list→Qg,slot_list_append→Qh,type_list_append→Qi,slot_list_index→Qj,sub_tuple_dict→Qk,slot_list_count→Ql,type_list_index→Qm,slot_dict_get→Qn,slot_tuple_eq_refl→Qo,slot_tuple_ne_refl→Qp,excAttr_ValueError→Qq,type_list_count→Qr,args_tuple_add_2→Qs,entry_tuple_add→Qt,args_dict_get_3→Qu,slot_tuple_add→Qv,entry_dict_get→Qw,sub_dict_tuple→Qx,slot_int_rmul→Qy,entry_bexc_ga→Qz,slot_dict_eq→Q0,slot_dict_ne→Q2,args_bexc_ga→Q3
open PySem.NameKind renaming free→Q4,cell→Q5
open False renaming elim→Q6
open Or renaming inr→Q7,inl→Q8,imp→Q9
namespace L2
open PySem PySem.Spec PyProof.Rows
variable{M:Model}{N:List Str}{base:Heap}{body:List Ny}{ch fp:List γ}{i n t':Nat}{kw:List (Str×V')}{mg:Str->Option V'}{op:CmpOp}{pl:Sem Bool}{us:List V'}
abbrev Key:=Sum Int Str
noncomputable def Hk:Key->V'->Bool|.inl k,v=>P9 k v|.inr x,v=>P8 x v
noncomputable def keyH(w:Nw):Key->Int|.inl k=>hashInt k|.inr x=>hashStr w x
theorem qe0:∀{k:Key}{v:V'},Hk k v=true->(∃i t,k=Sum.inl i/\v=P1 i t)∨(∃x t,k=Sum.inr x/\v=P5 x t)|.inl i,v,h=>by obtain⟨t,e⟩:=Value.isInt_shape h;exact .inl ⟨i,t,rfl,e⟩|.inr x,v,h=>by obtain⟨t,e⟩:=Value.isStrOf_shape h;exact .inr ⟨x,t,rfl,e⟩
theorem qaq1(i:Int)(t:Tok):Hk (.inl i) (.int i t)=true:=by simp[Hk,P9]
theorem qaq0(x:Str)(t:Tok):Hk (.inr x) (.str x t)=true:=by simp[Hk,P8]
theorem qbb5(a b:Int):decide ((Sum.inl a:Key)=Sum.inl b)=(a==b):=by grind
theorem qbb2(a b:Str):decide ((Sum.inr a:Key)=Sum.inr b)=decide (a=b):=by grind
theorem qbb4(a:Int)(b:Str):decide ((Sum.inl a:Key)=Sum.inr b)=false:=zB3 (λq=>nomatch q)
theorem qbb3(a:Str)(b:Int):decide ((Sum.inr a:Key)=Sum.inl b)=false:=zB3 (λq=>nomatch q)
def qd0(prog:Nu)(w:Nw):PySem.KeyKind prog w Key where
 is:=Hk
 hash:=keyH w
 inj:=λv a b f d=>by
  rcases qe0 f with⟨i,t,rfl,rfl⟩|⟨x,t,rfl,rfl⟩
  .rcases qe0 d with⟨j,u,rfl,e⟩|⟨y,u,rfl,e⟩
   .injection e with e1 _;rw[e1]
   exact nomatch e
  rcases qe0 d with⟨j,u,rfl,e⟩|⟨y,u,rfl,e⟩
  .exact nomatch e
  injection e with e1 _;rw[e1]
 byValue:=λk v h=>by
  rcases qe0 h with⟨i,t,rfl,rfl⟩|⟨x,t,rfl,rfl⟩<;>rfl
 pyHash:=λc h=>by
  rcases qe0 c with⟨i,t,rfl,rfl⟩|⟨x,t,rfl,rfl⟩
  .exact wpAny_pyHash_int h
  exact wpAny_pyHash_str h
 eqBool:=λg c h=>by
  rcases qe0 g with⟨i,t,rfl,rfl⟩|⟨x,t,rfl,rfl⟩
  .rcases qe0 c with⟨j,u,rfl,rfl⟩|⟨y,u,rfl,rfl⟩
   .rw[qbb5] at h;exact wpAny_eqBool_int h
   rw[qbb4] at h;exact SeqAt.EqAt.int_str i t y u _ _ _ _ h
  rcases qe0 c with⟨j,u,rfl,rfl⟩|⟨y,u,rfl,rfl⟩
  .rw[qbb3] at h;exact SeqAt.EqAt.str_int x t j u _ _ _ _ h
  rw[qbb2] at h;exact wpAny_eqBool_str h
 «strs»:=λk x t v h=>by
  rcases qe0 h with⟨i,u,rfl,e⟩|⟨y,u,rfl,e⟩
  .exact nomatch e
  injection e with e1 _
  subst e1;cases v<;>rfl
theorem qaa5(prog:Nu)(w:Nw)(i:Int)(t:Tok):(qd0 prog w).is (.inl i) (.int i t)=true:=qaq1 i t
theorem qaa4(prog:Nu)(w:Nw)(x:Str)(t:Tok):(qd0 prog w).is (.inr x) (.str x t)=true:=qaq0 x t
inductive V where
 |non|bl (b:Bool)|int (i:Int)|str (x:Str)|byt (b:Array UInt8)|flt (b:UInt64)|ref (a:γ)|ty (n:String)
 deriving DecidableEq
def Rh:V->V'->Prop|.non,u=>u=P0|.bl b,u=>u=P4 b|.int i,u=>∃t,u=P1 i t|.str x,u=>∃t,u=P5 x t|.byt b,u=>∃t,u=Qa b t|.flt b,u=>∃t,u=P7 b t|.ref a,u=>u=Pz a|.ty n,u=>u=P6 n
abbrev Ri:List V->List V'->Prop:=Paired Rh
theorem Ri.length(r:Ri xs us):xs.length=us.length:=Paired.length r
theorem Ri.get:∀{xs:List V}{us:List V'}{i:Nat}{x:V},Ri xs us->xs[i]?=some x->∃u,us[i]?=some u/\Rh x u|_,_,_,_,.nil,e=>by simp at e|_,_,0,_,.cons r _,e=>by simp at e;subst e;exact⟨_,rfl,r⟩|_,_,i+1,x,.cons _ t,e=>by obtain⟨u,a,b⟩:=Ri.get t (by simpa using e);exact⟨u,by simpa using a,b⟩
theorem Ri.set{x:V}{u:V'}(r:Rh x u):∀{xs:List V}{us:List V'}(i:Nat),Ri xs us->Ri (xs.set i x) (us.set i u)|_,_,_,.nil=>.nil|_,_,0,.cons _ t=>.cons r t|_,_,i+1,.cons q t=>.cons q (Ri.set r i t)
theorem Ri.append(h:Ri xs us)(s:Ri ys a):Ri (xs++ys) (us++a):=by induction h with|nil=>exact s|cons r t i=>exact .cons r i
theorem Ri.take:∀{xs:List V}{us:List V'}(n:Nat),Ri xs us->Ri (xs.take n) (us.take n)|_,_,0,_=>.nil|_,_,_+1,.nil=>.nil|_,_,n+1,.cons r t=>.cons r (Ri.take n t)
theorem Ri.drop:∀{xs:List V}{us:List V'}(n:Nat),Ri xs us->Ri (xs.drop n) (us.drop n)|_,_,0,r=>r|_,_,_+1,.nil=>.nil|_,_,n+1,.cons _ t=>Ri.drop n t
def RelO:Option V->Option V'->Prop|some v,some u=>Rh v u|none,none=>True|_,_=>False
def KV{a:Type}:List (a×V)->List (a×V')->Prop:=Paired λ(p:a×V)(q:a×V')=>p.1=q.1/\Rh p.2 q.2
noncomputable def kV:Key->V|.inl i=>.int i|.inr x=>.str x
inductive HO where
 |l (xs:List V)
 |q (xs:List V)
 |dK (kvs:List (Key×V))|dT (kvs:List (List Key×V))
 |set (S:Int->Bool) (n:Nat)
 |ins (C dx:γ) (fs:List (Str×V))
 |own (x:γ)
 |xd (fs:List (Str×V))
 |met (f x:γ)
 |rng (lo hi:Int)
 |frz (o:Obj) (u:HO)
 |tbl (ps:Array V')
 |ext (φ:Heap->Prop)
noncomputable abbrev Hp:=γ->Option HO
noncomputable def upd(H:Hp)(a:γ)(o:HO):Hp:=λb=>if b=a then some o else H b
theorem qb1:upd H a o a=some o:=by unfold upd;rw[if_pos rfl]
theorem qb2(h:b≠a):upd H a o b=H b:=by unfold upd;rw[if_neg h]
theorem qaJ0:upd (upd H a o) a u=upd H a u:=by funext b;unfold upd;split<;>rfl
theorem ne_of{H:Hp}(h:H a=some o)(h':H b=some u)(d:o≠u):a≠b:=by intro e;subst e;rw[h] at h';exact d (Qc h')
theorem qc3{H:Hp}(h:H a=some o)(h':H b=none):a≠b:=by grind
section
variable(P:Nu)(w:Nw)
def ObjOk(H:Hp)(h:Heap)(a:γ):HO->Prop
 |.l xs=>xs.length<=M9/\∃(its:List V')(n:Nat),Ri xs its/\h.get? a=some {cls:=.type "list",data:=.seq its.toArray n}|.q xs=>xs.length<=M9/\∃its:List V',Ri xs its/\IsTup h a its.toArray|.dK kvs=>kvs.length<=M9/\(a==Nj)=false/\∃vs,KV kvs vs/\h.DictOf (qd0 P w) a vs|.dT kvs=>kvs.length<=M9/\(a==Nj)=false/\∃xs:List (List Key×γ×V'),
  Paired (λ(p:List Key×V)(q:List Key×γ×V')=>p.1=q.1/\H q.2.1=some (.q (p.1.map kV))/\Rh p.2 q.2.2) kvs xs/\∃o es b,h.get? a=some o/\o.ExactDict/\o.data=.dict es b/\es.toList=xs.map (entryOfKey (tupleKind (qd0 P w)))/\(xs.map (·.1)).Nodup
 |.set S n=>h.SetOf (intKind P w) a S n|.ins C dx fs=>H dx=some (.own a)/\fs.length<=1000/\dx≠a/\h.get? a=some (W.instObj C dx)/\∃mA,h.Ns1 dx mA/\(∀f,RelO (fs.lookup f) (mA f))/\PySem.Within mA (fs.map (·.1))|.own _=>∃o,h.get? a=some o|.xd fs=>∃mA,h.Ns1 a mA/\∀f,RelO (fs.lookup f) (mA f)|.rng lo hi=>∃t u v,h.get? a=some {cls:=.type "range",data:=.fields #[.int lo t,.int hi u,.int 1 v]}|.frz o u=>h.get? a=some o/\ObjOk H h a u|.tbl ps=>h.get? a=some {cls:=.none,data:=.fields ps}|.met f x=>h.get? a=some (W.methodObj (.ref f) (.ref x))|.ext φ=>φ h/\(∃o,h.get? a=some o)/\∀h1 h2:Heap,φ h1->(∀o,h1.get? a=some o->h2.get? a=some o)->φ h2
def HOk(H:Hp)(h:Heap):Prop:=∀a o,H a=some o->ObjOk P w H h a o
end
section
variable{P:Nu}{w:Nw}{H H':Hp}{h h':Heap}{a:γ}{o:HO}
theorem ObjOk.lt(x:ObjOk P w H h a o):a<h.objs.size:=by cases o with|l c=>obtain⟨_,_,_,_,e⟩:=x;exact zA9 e|q c=>obtain⟨_,_,_,p⟩:=x;exact p.lt|dK b=>obtain⟨_,_,_,_,o,_,_,e,_⟩:=x;exact zA9 e|dT b=>obtain⟨_,_,_,_,o,_,_,e,_⟩:=x;exact zA9 e|set S n=>obtain⟨o,_,_,_,e,_⟩:=x;exact zA9 e|ins C g d=>obtain⟨_,_,_,e,_⟩:=x;exact zA9 e|own y=>obtain⟨_,e⟩:=x;exact zA9 e|xd d=>obtain⟨_,⟨_,_,_,e,_⟩,_⟩:=x;exact zA9 e|rng i j=>obtain⟨_,_,_,e⟩:=x;exact zA9 e|frz k u=>obtain⟨e,_⟩:=x;exact zA9 e|tbl l=>exact zA9 (show h.get? a=some _ from x)|met f y=>exact zA9 (show h.get? a=some _ from x)|ext φ=>obtain⟨_,⟨_,e⟩,_⟩:=x;exact zA9 e
theorem Paired.mapP{α β:Type}{F G:α->β->Prop}{l:List α}{m:List β}(h:Paired F l m)(f:∀a b,F a b->G a b):Paired G l m:=by induction h with|nil=>exact .nil|cons r t i=>exact .cons (f _ _ r) i
theorem ObjOk.stay(x:ObjOk P w H h a o)(k:∀b u,(b=a∨H b=some (.own a))->h.get? b=some u->h'.get? b=some u)(D:∀b,H b=some (.own a)->H' b=some (.own a))(E:∀b xs,H b=some (.q xs)->H' b=some (.q xs)):ObjOk P w H' h' a o:=by induction o with|l xs=>obtain⟨z,l,n,r,e⟩:=x;exact⟨z,l,n,r,k _ _ (.inl rfl) e⟩|q xs=>obtain⟨z,l,r,g,e,c⟩:=x;exact⟨z,l,r,g,k _ _ (.inl rfl) e,c⟩|dK m=>obtain⟨z,y,F,r,g,i,j,e,c⟩:=x;exact⟨z,y,F,r,g,i,j,k _ _ (.inl rfl) e,c⟩|dT m=>obtain⟨z,y,xs,r,g,i,j,e,c⟩:=x;exact⟨z,y,xs,Paired.mapP r λp q z=>⟨z.1,E _ _ z.2.1,z.2.2⟩,g,i,j,k _ _ (.inl rfl) e,c⟩|set S n=>obtain⟨g,i,j,t,e,c⟩:=x;exact⟨g,i,j,t,k _ _ (.inl rfl) e,c⟩|ins C K G=>obtain⟨d,z,I,e,s,⟨A,i,j,e2,c⟩,r⟩:=x;exact⟨D _ d,z,I,k _ _ (.inl rfl) e,s,⟨A,i,j,k _ _ (.inr d) e2,c⟩,r⟩|own y=>obtain⟨g,e⟩:=x;exact⟨g,k _ _ (.inl rfl) e⟩|xd G=>obtain⟨s,⟨A,i,j,e,c⟩,r⟩:=x;exact⟨s,⟨A,i,j,k _ _ (.inl rfl) e,c⟩,r⟩|rng L M=>obtain⟨t,u,v,e⟩:=x;exact⟨t,u,v,k _ _ (.inl rfl) e⟩|frz g u J=>obtain⟨e,q⟩:=x;exact⟨k _ _ (.inl rfl) e,J q⟩|tbl N=>have e:=x;exact k a _ (.inl rfl) e|met f y=>have e:=x;exact k a _ (.inl rfl) e|ext φ=>obtain⟨p,⟨o,e⟩,B⟩:=x;exact⟨B _ _ p λo q=>k _ _ (.inl rfl) q,⟨o,k _ _ (.inl rfl) e⟩,B⟩
theorem HOk.lt(x:HOk P w H h)(e:H a=some o):a<h.objs.size:=(x a o e).lt
theorem HOk.fresh(x:HOk P w H h)(e:h.objs.size<=a):H a=none:=by cases q:H a with|none=>rfl|some u=>exact absurd (zAa (x.lt q) e) (zC5 _)
theorem HOk.kept(x:HOk P w H h)(k:∀b u,h.get? b=some u->h'.get? b=some u):HOk P w H h':=λa o e=>
 (x a o e).stay (λb u _ q=>k b u q) (λ_ q=>q) λ_ _ q=>q
theorem HOk.laid(x:HOk P w H h)(k:∀b u,h.get? b=some u->h'.get? b=some u)(i:h.objs.size<=a)(d:ObjOk P w (upd H a o) h' a o):HOk P w (upd H a o) h':=λb u e=>by
 have f:=x.fresh i;by_cases g:b=a
 .subst g;rw[qb1] at e;cases e;exact d
 rw[qb2 g] at e;exact(x b u e).stay (λc v _ q=>k c v q) (λc q=>by rw[qb2 (qc3 q f)];exact q) λc j q=>by rw[qb2 (qc3 q f)];exact q
end
def Rd(H:Hp)(a:γ)(u:HO):Prop:=H a=some u∨∃o,H a=some (.frz o u)
theorem Rd.ok(r:Rd H a u)(x:HOk P w H h):ObjOk P w H h a u:=by rcases r with r|⟨o,r⟩;{exact x a u r};obtain⟨_,q⟩:=x a _ r;exact q
def Mut:Option HO->Prop|some (.l _)=>True|some (.dK _)=>True|some (.dT _)=>True|some (.set _ _)=>True|some (.ins _ _ _)=>True|some (.ext _)=>True|_=>False
section
variable{P:Nu}{w:Nw}{H:Hp}{h h':Heap}{x e:γ}{o':HO}
theorem HOk.write(o:HOk P w H h)(d:Mut (H x))(m:e=x∨H e=some (.own x))(k:∀b u,b≠e->h.get? b=some u->h'.get? b=some u)(j:∃u,h'.get? e=some u)(l:ObjOk P w (upd H x o') h' x o'):HOk P w (upd H x o') h':=λb u q=>by
 have nown:∀c y,H c=some (.own y)->c≠x:=λc y r z=>by subst z;rw[r] at d;exact d
 have ntup:∀c f,H c=some (.q f)->c≠x:=λc f r z=>by subst z;rw[r] at d;exact d
 by_cases g:b=x
 .subst g;rw[qb1] at q;cases q;exact l
 rw[qb2 g] at q;by_cases a:b=e
 .have n:H b=some (.own x):=by
   rcases m with z|z
   .exact absurd (a.trans z) g
   rw[a];exact z
  rw[q] at n;cases n;obtain⟨v,p⟩:=j;exact⟨v,by rw[a];exact p⟩
 refine(o b u q).stay (λc v i r=>k c v ?_ r) (λc r=>by rw[qb2 (nown c b r)];exact r) λc f r=>by rw[qb2 (ntup c f r)];exact r
 rcases i with rfl|i
 .exact a
 rintro rfl;rcases m with z|z
 .exact nown c b i z
 rw[i] at z;cases z;exact g rfl
end
structure Un(fs ex:List γ)(H H':Hp)(h h':Heap):Prop where
 keep:∀b o,h.get? b=some o->H b=none->b∉fs->b∉ex->h'.get? b=some o
 slot:∀b o,h.get? b=some o->H b=none->b∈fs->b∉ex->∃sl,h'.get? b=some {o with slots:=sl}
 free:∀b o,h.get? b=some o->H b=none->b∉ex->H' b=none
 there:∀b o,h.get? b=some o->b∉ex->∃o',h'.get? b=some o'
 tups:∀b xs,H b=some (.q xs)->H' b=some (.q xs)
 frzs:∀b o u,H b=some (.frz o u)->H' b=some (.frz o u)
 tbls:∀b ps,H b=some (.tbl ps)->∃more,H' b=some (.tbl (ps++more))
section
variable{fs s:List γ}{H v y:Hp}{h t w h':Heap}{a x e:γ}{o:HO}
theorem Un.any(u:Un fs s H v h t)(q:h.get? b=some ob)(n:H b=none)(a:b∉s):∃d,t.get? b=some {ob with slots:=d}:=by by_cases c:b∈fs;{exact u.slot b ob q n c a};exact⟨ob.slots,u.keep b ob q n c a⟩
theorem Un.trans(a:Un fs s H v h t)(b:Un fs s v y t w):Un fs s H y h w where
 keep:=λc d q n g e=>b.keep c d (a.keep c d q n g e) (a.free c d q n e) g e
 slot:=λc d q n g e=>by
  obtain⟨p,f⟩:=a.slot c d q n g e;obtain⟨j,e2⟩:=b.slot c _ f (a.free c d q n e) g e;exact⟨j,e2⟩
 free:=λc d q n e=>by
  obtain⟨k,f⟩:=a.there c d q e;exact b.free c k f (a.free c d q n e) e
 there:=λc d q e=>by
  obtain⟨k,f⟩:=a.there c d q e;exact b.there c k f e
 tups:=λc i q=>b.tups c i (a.tups c i q)
 frzs:=λc d i q=>b.frzs c d i (a.frzs c d i q)
 tbls:=λc l q=>by
  obtain⟨m,f⟩:=a.tbls c l q;obtain⟨o,e2⟩:=b.tbls c _ f;exact⟨m++o,by rw[e2,Array.append_assoc]⟩
theorem Un.kept(k:∀b u,h.get? b=some u->h'.get? b=some u):Un fs s H H h h':=⟨λb a q _ _ _=>k b a q,λb a q _ _ _=>⟨a.slots,k b a q⟩,λ_ _ _ n _=>n,λb a q _=>⟨a,k b a q⟩,λ_ _ q=>q,λ_ _ _ q=>q,λ_ c q=>⟨#[],by rw[q];simp⟩⟩
theorem Un.refl:Un fs s H H h h:=Un.kept λ_ _ q=>q
theorem Un.laid(k:∀b u,h.get? b=some u->h'.get? b=some u)(d:h.objs.size<=a)(c:H a=none):Un fs s H (upd H a o) h h' where
 keep:=λb u q _ _ _=>k b u q
 slot:=λb u q _ _ _=>⟨u.slots,k b u q⟩
 free:=λb u q n _=>by rw[qb2 (zAj (zAa (zA9 q) d))];exact n
 there:=λb u q _=>⟨u,k b u q⟩
 tups:=λb e q=>by rw[qb2 (qc3 q c)];exact q
 frzs:=λb u e q=>by rw[qb2 (qc3 q c)];exact q
 tbls:=λb f q=>⟨#[],by rw[qb2 (qc3 q c),q];simp⟩
theorem Un.write(c:Mut (H x))(j:e=x∨H e=some (.own x))(k:∀b u,b≠e->h.get? b=some u->h'.get? b=some u)(d:∃u,h'.get? e=some u):Un fs s H (upd H x o) h h':=by
 have g:∀b,H b=none->b≠x:=λb n z=>by subst z;rw[n] at c;exact c
 have i:∀b,H b=none->b≠e:=λb n z=>by subst z;rcases j with r|r;{exact g b n r};grind
 have f:∀b u,H b=some u->¬Mut (some u)->b≠x:=λb u q l z=>by subst z;rw[q] at c;exact l c
 refine⟨λb u q n _ _=>k b u (i b n) q,λb u q n _ _=>⟨u.slots,k b u (i b n) q⟩,λb u q n _=>by rw[qb2 (g b n)];exact n,λb u q _=>?_,
  λb m q=>by rw[qb2 (f b _ q λz=>z)];exact q,λb u m q=>by rw[qb2 (f b _ q λz=>z)];exact q,λb p q=>⟨#[],by rw[qb2 (f b _ q λz=>z),q];simp⟩⟩
 by_cases a:b=e;{subst a;exact d};exact⟨u,k b u a q⟩
end
noncomputable def trk(h:Heap)(H:Hp):List γ:=(Ob h.objs.size).filter λa=>(H a).isSome
def I9(h:Heap)(H:Hp):Heap:=W.hideAll h (trk h H)
theorem qaq4(h:Heap)(H:Hp):(I9 h H).objs.size=h.objs.size:=W.hideAll_size _ _
theorem qaF4(e:h.get? b=some o)(n:H b=none):(I9 h H).get? b=some o:=W.hideAll_get _ e λa=>by
 have q:=(zB9.mp a).2;rw[n] at q;simp at q
theorem qaP5(e:(I9 h H).get? b=some o):h.get? b=some o/\H b=none:=by have a:=W.of_hideAll (trk h H) e;refine⟨a,?_⟩;cases q:H b with|none=>rfl|some x=>have z:(I9 h H).get? b=none:=W.hideAll_none (trk h H) (zB9.mpr ⟨zAm.mpr (zA9 a),by simp[q]⟩);grind
structure Mod(K:Qe)(mg:Str->Option V')(base:Heap):Prop where
 kin:K.In base
 glob:base.Ns Nh mg
 blt:∃mb,base.Ns builtinsNs mb/\∀x:Str,x ≠ "__name__" -> mb x=Nc x
 nolimit:base.NoLimit
structure Cx where
 prog:Nu
 w:Nw
 K:Qe
 mg:Str->Option V'
 base:Heap
 A:Nv
 N:List Str
 s₀:Sh
 H₀:Hp
 env:Env
 outer:List Env
 stack:List Env
 ex:List γ
 fn:Str->Bool
 calm:Bool
 pn:List (γ×Obj)
 xe:V'->Sh->Prop
noncomputable def frs(l:List Env):List γ:=l.filterMap (·.frame)
abbrev Cx.fs(X:Cx):List γ:=frs X.outer
def Vis(sc:Scope)(x:Str):Prop:=sc.names.lookup x=some .local∨sc.names.lookup x=some .cell∨sc.names.lookup x=some .free
def Loc(sc:Scope)(x:Str):Prop:=sc.names.lookup x=some .local∨sc.names.lookup x=some .cell
def Look(env:Env)(h:Heap)(m:Str->Option V')(x:Str)(u:V'):Prop:=(env.kindOf x=some .local/\m x=some u)∨((env.kindOf x=some .cell∨env.kindOf x=some .free)/\∃c,env.cells.lookup x=some c/\h.IsCell c (some u))
structure Cx.Ok(X:Cx):Prop where
 mod:Mod X.K X.mg X.base
 kind:X.env.scope.kind=.function
 glob:X.env.globals=Nh
 blt:X.env.builtins=builtinsNs
 above:X.s₀.heap.objs.size<=X.env.locals
 inj:∀x y c,X.env.cells.lookup x=some c->X.env.cells.lookup y=some c->x=y
 has:∀x,(X.env.kindOf x=some .cell∨X.env.kindOf x=some .free)->∃c,X.env.cells.lookup x=some c
 cab:∀x c,X.fn x=true->X.env.cells.lookup x=some c->X.s₀.heap.objs.size<=c
 hd:X.calm=true->X.A.handled=none
 frames:X.A.frames=some X.stack
 stk:X.stack=X.outer∨(X.stack=X.env::X.outer/\X.env.frame=some X.env.locals)
 exf:∀b∈X.ex,b≠X.env.locals/\∀x c,X.env.cells.lookup x=some c->c≠b
 bs:∀b o,X.base.get? b=some o->X.s₀.heap.get? b=some o/\X.H₀ b=none
 bsz:X.base.objs.size<=X.s₀.heap.objs.size
 noex:∀b o,X.base.get? b=some o->b∉X.ex
 exfs:∀b∈X.ex,b∉X.fs
 funs:X.s₀.heap.FunFrames X.base X.outer
 frf:∀b∈X.fs,X.H₀ b=none
structure Rk(X:Cx)(Fx:List (γ×Obj))(a:List (Option V))(H:Hp)(s:Sh):Prop where
 ok:X.Ok
 os:s.os=X.s₀.os
 bare:AllBare s.gens
 base:Un X.fs X.ex X.H₀ H X.s₀.heap s.heap
 loc:∃m,s.heap.Ns X.env.locals m/\∀(i:Nat)(x:Str)(v:V),X.N[i]?=some x->a[i]?=some (some v)->Vis X.env.scope x->∃u,Rh v u/\Look X.env s.heap m x u
 cell:∀x c,X.env.cells.lookup x=some c->∃v,s.heap.IsCell c v
 free:H X.env.locals=none
 freeC:∀x c,X.env.cells.lookup x=some c->H c=none
 pin:∀p∈X.pn++Fx,s.heap.get? p.1=some p.2/\H p.1=none/\p.1≠X.env.locals/\p.1∉X.fs/\∀v,p.2.data≠.cell v
 hok:HOk X.prog X.w H s.heap
 len:a.length=X.N.length
section
variable{X:Cx}{Fx:List (γ×Obj)}{σ:List (Option V)}{H H':Hp}{s:Sh}{h':Heap}
theorem Cx.Ok.nofr(a:X.Ok)(e:X.base.get? b=some o):b∉X.fs:=λc=>by
 have:=(a.funs.mem c).1
 rw[e] at this;cases this
theorem Rk.bs(I:Rk X Fx σ H s):∀b o,X.base.get? b=some o->s.heap.get? b=some o/\H b=none:=λb o e=>
 ⟨I.base.keep b o (I.ok.bs b o e).1 (I.ok.bs b o e).2 (I.ok.nofr e) (I.ok.noex b o e),I.base.free b o (I.ok.bs b o e).1 (I.ok.bs b o e).2 (I.ok.noex b o e)⟩
theorem Rk.bk(I:Rk X Fx σ H s):∀b o,X.base.get? b=some o->s.heap.get? b=some o:=λb o e=>(I.bs b o e).1
theorem Rk.mod(I:Rk X Fx σ H s):Mod X.K X.mg X.base:=I.ok.mod
theorem Rk.kIn(I:Rk X Fx σ H s):X.K.In s.heap:=I.ok.mod.kin.keeps I.bk
theorem Rk.lt(I:Rk X Fx σ H s):X.env.locals<s.heap.objs.size:=let ⟨_,hn,_⟩:=I.loc;hn.lt
theorem Rk.sz(I:Rk X Fx σ H s):X.s₀.heap.objs.size<=s.heap.objs.size:=zA7 I.ok.above (zBc I.lt)
theorem Rk.nofs(I:Rk X Fx σ H s)(h:s.heap.objs.size<=a):a∉X.fs:=λb=>by
 obtain⟨_,o,c,_⟩:=I.ok.funs.mem b;exact absurd (zAa (zA9 c) (zA7 I.sz h)) (zC5 _)
theorem Rk.cne(I:Rk X Fx σ H s):∀x c,X.env.cells.lookup x=some c->c≠X.env.locals:=λx c e z=>by
 obtain⟨v,o,d,f⟩:=I.cell x c e;obtain⟨m,⟨g,h,i,a,b,_⟩,_⟩:=I.loc;rw[z,a] at d;cases d;rw[b] at f;cases f
theorem Rk.funs(I:Rk X Fx σ H s):s.heap.FunFrames X.base X.outer:=by
 have all:∀(l:List Env),(∀b∈frs l,b∈X.fs)->X.s₀.heap.FunFrames X.base l->s.heap.FunFrames X.base l:=by intro l;induction l with|nil=>intro _ _;trivial|cons g r h=>intro f i;obtain⟨j,⟨L,o,a,k,m,n⟩,p⟩:=i;have c:=f L (by unfold frs;rw[zBs,a];exact zAb);obtain⟨q,e⟩:=I.base.slot L o m (I.ok.frf L c) c λz=>I.ok.exfs L z c;exact⟨j,⟨L,_,a,k,e,n⟩,h (λb d=>f b (by unfold frs;rw[zBs,a];exact zA6 _ d)) p⟩
 exact all X.outer (λ_ d=>d) I.ok.funs
theorem Rk.stack(I:Rk X Fx σ H s):s.heap.FunFrames X.base X.stack:=by rcases I.ok.stk with e|⟨e,a⟩;{rw[e];exact I.funs};rw[e];obtain⟨m,b,_⟩:=I.loc;refine .cons (by rw[I.ok.kind];decide) a b ?_ I.funs;exact Heap.get?_none_of_le (zA7 I.ok.bsz I.ok.above)
theorem Rk.stkSub(I:Rk X Fx σ H s):∀b∈frs X.stack,b∈X.env.locals::X.fs:=λb a=>by
 rcases I.ok.stk with e|⟨e,c⟩
 .rw[e] at a;exact zA6 _ a
 rw[e] at a;unfold frs at a;rw[zBs,c] at a;exact a
theorem Rk.stkFree(I:Rk X Fx σ H s):∀b∈frs X.stack,H b=none:=λb a=>by
 rcases zAl.mp (I.stkSub b a) with e|a
 .rw[e];exact I.free
 obtain⟨_,o,c,_⟩:=I.ok.funs.mem a;exact I.base.free b o c (I.ok.frf b a) λz=>I.ok.exfs b z a
theorem Rk.step(I:Rk X Fx σ H s)(f:∀b∈ch,(b∈X.ex∨X.s₀.heap.objs.size<=b)/\b≠X.env.locals/\(∀x c,X.env.cells.lookup x=some c->c≠b)/\∀p∈X.pn++Fx,p.1≠b)(keep:∀b o,b≠X.env.locals->b∉X.fs->b∉ch->s.heap.get? b=some o->H b=none->h'.get? b=some o)(slot:∀b o,b≠X.env.locals->b∈X.fs->b∉ch->s.heap.get? b=some o->H b=none->∃B,h'.get? b=some {o with slots:=B})(free:∀b o,b∉ch->s.heap.get? b=some o->H b=none->H' b=none)(there:∀b o,b∉ch->s.heap.get? b=some o->∃o',h'.get? b=some o')(tups:∀b xs,H b=some (.q xs)->H' b=some (.q xs))(frzs:∀b o u,H b=some (.frz o u)->H' b=some (.frz o u))(tbls:∀b ps,H b=some (.tbl ps)->∃more,H' b=some (.tbl (ps++more)))(ns:∀m,s.heap.Ns X.env.locals m->h'.Ns X.env.locals m)(C:HOk X.prog X.w H' h')(K:AllBare g'):Rk X Fx σ H' {s with heap:=h',gens:=g',drawn:=d',toks:=t'}:=by
 have A:∀b o,X.s₀.heap.get? b=some o->b≠X.env.locals:=λb o e=>zAj (zAa (zA9 e) I.ok.above);have h:∀b o,X.s₀.heap.get? b=some o->b∉X.ex->b∉ch:=λb o e a t=>by rcases (f b t).1 with z|z;{exact a z};exact absurd (zAa (zA9 e) z) (zC5 _)
 have cellK:∀x c,X.env.cells.lookup x=some c->∀v,s.heap.IsCell c v->h'.IsCell c v:=λx c e v ⟨o,y,D⟩=>by have g:=λz=>(f c z).2.2.1 x c e rfl;by_cases F:c∈X.fs;{obtain⟨B,q⟩:=slot c o (I.cne x c e) F g y (I.freeC x c e);exact⟨_,q,D⟩};exact⟨o,keep c o (I.cne x c e) F g y (I.freeC x c e),D⟩
 refine⟨I.ok,I.os,K,⟨λb o e n t a=>?_,λb o e n t a=>?_,λb o e n a=>?_,λb o e a=>?_,λb xs e=>tups b xs (I.base.tups b xs e),λb o xs e=>frzs b o xs (I.base.frzs b o xs e),λb ps e=>?_⟩,?_,λx c e=>?_,?_,λx c e=>?_,λp G=>?_,C,I.len⟩;{exact keep b o (A b o e) t (h b o e a) (I.base.keep b o e n t a) (I.base.free b o e n a)};{obtain⟨B,j⟩:=I.base.slot b o e n t a;obtain⟨E,e2⟩:=slot b _ (A b o e) t (h b o e a) j (I.base.free b o e n a);exact⟨E,e2⟩};{obtain⟨o',j⟩:=I.base.there b o e a;exact free b o' (h b o e a) j (I.base.free b o e n a)};{obtain⟨o',j⟩:=I.base.there b o e a;exact there b o' (h b o e a) j};{obtain⟨L,j⟩:=I.base.tbls b ps e;obtain⟨M,e2⟩:=tbls b _ j;exact⟨L++M,by rw[e2,Array.append_assoc]⟩};{obtain⟨m,N,O⟩:=I.loc;refine⟨m,ns m N,λi x v j e2 P=>?_⟩;obtain⟨u,r,l⟩:=O i x v j e2 P;refine⟨u,r,?_⟩;rcases l with l|⟨k,c,e,z⟩;{exact .inl l};exact .inr ⟨k,c,e,cellK x c e _ z⟩};{obtain⟨v,z⟩:=I.cell x c e;exact⟨v,cellK x c e v z⟩};{obtain⟨m,⟨o,_,_,y,_⟩,_⟩:=I.loc;exact free _ o (λz=>(f _ z).2.1 rfl) y I.free};{obtain⟨v,o,y,D⟩:=I.cell x c e;exact free c o (λz=>(f c z).2.2.1 x c e rfl) y (I.freeC x c e)};obtain⟨e,n,J,nf,d⟩:=I.pin p G;have g:=λz=>(f p.1 z).2.2.2 p G rfl;exact⟨keep p.1 p.2 J nf g e n,free p.1 p.2 g e n,J,nf,d⟩
theorem Rk.un(I:Rk X Fx σ H s)(u:Un X.fs [] H H' s.heap h')(c:HOk X.prog X.w H' h'):Rk X Fx σ H' {s with heap:=h',toks:=t'}:=by obtain⟨m,⟨o,l,p,h,r⟩,_⟩:=id I.loc;obtain⟨q,i⟩:=u.any h I.free (by simp);exact I.step (ch:=[]) (λ_ z=>nomatch z) (λb o _ d _ e n=>u.keep b o e n d (by simp)) (λb o _ d _ e n=>u.slot b o e n d (by simp)) (λb o _ e n=>u.free b o e n (by simp)) (λb o _ e=>u.there b o e (by simp)) u.tups u.frzs u.tbls (λt j=>by obtain⟨v,f,g,a,k⟩:=j;rw[h] at a;cases a;exact⟨_,f,g,i,k⟩) c I.bare
theorem Rk.call(I:Rk X Fx σ H s)(u:Un (frs X.stack) ch H H' s.heap h')(g:HOk X.prog X.w H' h')(l:AllBare g')(d:∀b∈ch,(b∈X.ex∨X.s₀.heap.objs.size<=b)/\b≠X.env.locals/\(∀x c,X.env.cells.lookup x=some c->c≠b)/\∀p∈X.pn++Fx,p.1≠b):Rk X Fx σ H' {s with heap:=h',gens:=g',drawn:=d',toks:=t'}:=by obtain⟨m,⟨o,y,A,k,r⟩,_⟩:=id I.loc;obtain⟨B,h⟩:=u.any k I.free λz=>(d _ z).2.1 rfl;exact I.step d (λb o h q a e n=>u.keep b o e n (λz=>(zAl.mp (I.stkSub b z)).elim h q) a) (λb o _ _ a e n=>u.any e n a) (λb o a e n=>u.free b o e n a) (λb o a e=>u.there b o e a) u.tups u.frzs u.tbls (λC t=>by obtain⟨D,i,j,f,v⟩:=t;rw[k] at f;cases f;exact⟨_,i,j,h,v⟩) g l
theorem Rk.turned(I:Rk X Fx σ H s)(k:∀b o,b≠it->s.heap.get? b=some o->h'.get? b=some o)(g:H it=none)(f:it≠X.env.locals)(h1:it∈X.ex∨X.s₀.heap.objs.size<=it)(h2:∀x c,X.env.cells.lookup x=some c->c≠it)(h:∀p∈X.pn++Fx,p.1≠it):Rk X Fx σ H {s with heap:=h',toks:=t'}:=by
 have d:∀b u,H b=some u->b≠it:=λb u e z=>by rw[z,g] at e;cases e
 refine I.step (ch:=[it]) (λb i=>?_) (λb o _ _ a e _=>k b o (λz=>a (by simp[z])) e) (λb o _ _ a e _=>⟨o.slots,k b o (λz=>a (by simp[z])) e⟩) (λ_ _ _ _ n=>n)
  (λb o a e=>⟨o,k b o (λz=>a (by simp[z])) e⟩) (λ_ _ e=>e) (λ_ _ _ e=>e) (λb y e=>⟨#[],by rw[e];simp⟩) (λm j=>?_) (λb u e=>?_) I.bare
 .have e:b=it:=by simpa using i
  subst e;exact⟨h1,f,h2,h⟩
 {obtain⟨o,l,t,w,r⟩:=j;exact⟨o,l,t,k _ o (Ne.symm f) w,r⟩};refine(I.hok b u e).stay (λc v a q=>k c v ?_ q) (λ_ q=>q) λ_ _ q=>q;rcases a with z|z;{rw[z];exact d b u e};exact d c _ z
theorem Rk.tok(I:Rk X Fx σ H s)(t:Nat):Rk X Fx σ H {s with toks:=t}:=I.un Un.refl I.hok
theorem Rk.kept(I:Rk X Fx σ H s)(k:∀b u,s.heap.get? b=some u->h'.get? b=some u):Rk X Fx σ H {s with heap:=h',toks:=t'}:=I.un (Un.kept k) (I.hok.kept k)
theorem Rk.laid(I:Rk X Fx σ H s)(k:∀b u,s.heap.get? b=some u->h'.get? b=some u)(c:s.heap.objs.size<=a)(d:ObjOk X.prog X.w (upd H a o) h' a o):Rk X Fx σ (upd H a o) {s with heap:=h',toks:=t'}:=I.un (Un.laid k c (I.hok.fresh c)) (I.hok.laid k c d)
theorem Rk.write(I:Rk X Fx σ H s)(d:Mut (H x))(f:e=x∨H e=some (.own x))(k:∀b u,b≠e->s.heap.get? b=some u->h'.get? b=some u)(a:∃u,h'.get? e=some u)(c:ObjOk X.prog X.w (upd H x o) h' x o):Rk X Fx σ (upd H x o) {s with heap:=h',toks:=t'}:=I.un (Un.write d f k a) (I.hok.write d f k a c)
theorem Rk.weak{σ':List (Option V)}(I:Rk X Fx σ H s)(a:σ'.length=σ.length)(w:∀(i:Nat) v,σ'[i]?=some (some v)->σ[i]?=some (some v)):Rk X Fx σ' H s:=⟨I.ok,I.os,I.bare,I.base,let ⟨m,hn,hl'⟩:=I.loc;⟨m,hn,λi x v b e2 c=>hl' i x v b (w i v e2) c⟩,I.cell,I.free,I.freeC,I.pin,I.hok,a.trans I.len⟩
theorem Rk.pins_of(I:Rk X Fx σ H s)(h:∀p∈pins',s.heap.get? p.1=some p.2/\H p.1=none/\p.1≠X.env.locals/\p.1∉X.fs/\∀v,p.2.data≠.cell v):Rk X pins' σ H s:=⟨I.ok,I.os,I.bare,I.base,I.loc,I.cell,I.free,I.freeC,λp a=>(zAd.mp a).elim (λz=>I.pin p (zC9 _ z)) (h p),I.hok,I.len⟩
theorem qR0(c:N.Nodup)(a:N[i]?=some x)(b:N[j]?=some x):i=j:=by obtain⟨e,d⟩:=zA5.mp a;obtain⟨f,e2⟩:=zA5.mp b;exact(Pg c).mp (d.trans e2.symm)
theorem qam6(I:Rk X Fx σ H s)(hN:X.N.Nodup)(hi:X.N[i]?=some x)(l:Loc X.env.scope x)(r:Rh v u)(h:∀s',Rk X Fx (σ.set i (some v)) H s'->(∃a,Heap.SameBut a s.heap s'.heap/\(a=X.env.locals∨X.env.cells.lookup x=some a))->Q () s')(hf:X.fn x=true∨X.env.scope.names.lookup x=some .local:=by first|exact .inl rfl|exact .inr rfl|assumption):Nr M A (storeName X.env x u) Q E s:=by
 obtain⟨m,W,hl⟩:=id I.loc;have K:(X.env.scope.kind==.class||(X.env.scope.kind==.module&&X.env.locals != X.env.globals))=false:=by rw[I.ok.kind];rfl
 have hiσ:i<σ.length:=by rw[I.len];exact(zA5.mp hi).1
 have C:=I.cne;have tracked:∀{a:γ}{J:Heap},(∃o,s.heap.get? a=some o/\H a=none)->Heap.SameBut a s.heap J->HOk X.prog X.w H J:=λ{a J} ha f b ob e=>by obtain⟨_,_,hfree⟩:=ha;refine(I.hok b ob e).stay (λc S t q=>(f.2 c ?_).trans q) (λ_ q=>q) λ_ _ q=>q;grind
 rcases l with B|B;{refine wpAny_storeName_local B W (λJ Y f=>?_) K;obtain⟨oL,_,_,Z,_⟩:=id W;refine h _ ⟨I.ok,I.os,I.bare,⟨λb o e n D l=>?_,λb o e n D l=>?_,I.base.free,λb o e l=>?_,I.base.tups,I.base.frzs,I.base.tbls⟩,⟨_,Y,λj y v' g e2 e3=>?_⟩,λy c e=>?_,I.free,I.freeC,λp hp=>?_,tracked ⟨oL,Z,I.free⟩ f,by simpa using I.len⟩ ⟨_,f,.inl rfl⟩;{exact(f.2 b (zAj (zAa (zA9 e) I.ok.above))).trans (I.base.keep b o e n D l)};{obtain⟨sl,g⟩:=I.base.slot b o e n D l;exact⟨sl,(f.2 b (zAj (zAa (zA9 e) I.ok.above))).trans g⟩};{obtain⟨o',g⟩:=I.base.there b o e l;exact⟨o',(f.2 b (zAj (zAa (zA9 e) I.ok.above))).trans g⟩};{by_cases F:j=i;{subst F;rw[hi] at g;cases g;rw[zC2 hiσ] at e2;cases e2;exact⟨u,r,.inl ⟨B,by simp⟩⟩};rw[zBi (Ne.symm F)] at e2;obtain⟨u',r',q⟩:=hl j y v' g e2 e3;refine⟨u',r',?_⟩;rcases q with⟨k,e⟩|⟨k,c,e,z⟩;{refine .inl ⟨k,?_⟩;have:y≠x:=λe=>F (qR0 hN g (e ▸ hi));simp[this,e]};exact .inr ⟨k,c,e,z.sameBut f (C y c e)⟩};{obtain⟨S,z⟩:=I.cell y c e;exact⟨S,z.sameBut f (C y c e)⟩};obtain⟨e,n,T,nf,d⟩:=I.pin p hp;exact⟨(f.2 p.1 T).trans e,n,T,nf,d⟩};have G:X.fn x=true:=by rcases hf with z|z;{exact z};rw[z] at B;cases B
 obtain⟨c,t⟩:=I.ok.has x (.inl B);obtain⟨S,z⟩:=I.cell x c t;refine wpAny_storeName_cell I.ok.kind B t z (λJ L f=>?_);obtain⟨oc,O,P⟩:=id z;refine h {s with heap:=J} ⟨I.ok,I.os,I.bare,⟨λb o e n D l=>?_,λb o e n D l=>?_,I.base.free,λb o e l=>?_,I.base.tups,I.base.frzs,I.base.tbls⟩,⟨m,W.sameBut f (Ne.symm (C x c t)),λj y v' g e2 e3=>?_⟩,λy U e=>?_,I.free,I.freeC,λp hp=>?_,tracked ⟨oc,O,I.freeC x c t⟩ f,by simpa using I.len⟩ ⟨c,f,.inr t⟩;{exact(f.2 b (zAj (zAa (zA9 e) (I.ok.cab x c G t)))).trans (I.base.keep b o e n D l)};{obtain⟨sl,g⟩:=I.base.slot b o e n D l;exact⟨sl,(f.2 b (zAj (zAa (zA9 e) (I.ok.cab x c G t)))).trans g⟩};{obtain⟨o',g⟩:=I.base.there b o e l;exact⟨o',(f.2 b (zAj (zAa (zA9 e) (I.ok.cab x c G t)))).trans g⟩};{by_cases F:j=i;{subst F;rw[hi] at g;cases g;rw[zC2 hiσ] at e2;cases e2;exact⟨u,r,.inr ⟨.inl B,c,t,L⟩⟩};rw[zBi (Ne.symm F)] at e2;obtain⟨u',r',q⟩:=hl j y v' g e2 e3;refine⟨u',r',?_⟩;rcases q with q|⟨k,U,e,z'⟩;{exact .inl q};refine .inr ⟨k,U,e,z'.sameBut f ?_⟩;rintro rfl;exact F (qR0 hN g (I.ok.inj _ _ _ e t ▸ hi))};{by_cases R:U=c;{subst R;exact⟨_,L⟩};obtain⟨w2,z2⟩:=I.cell y U e;exact⟨w2,z2.sameBut f R⟩};obtain⟨e,n,T,nf,d⟩:=I.pin p hp;refine⟨(f.2 p.1 ?_).trans e,n,T,nf,d⟩;intro q;rw[q,O] at e;have q':oc=p.2:=Qc e;exact d S (by rw[<-q'];exact P)
theorem qD6(I:Rk X Fx σ H s)(a:X.N.Nodup)(hi:X.N[i]?=some x)(b:Loc X.env.scope x)(r:Rh v u)(h:∀s',Rk X Fx (σ.set i (some v)) H s'->Q () s')(c:X.fn x=true∨X.env.scope.names.lookup x=some .local:=by first|exact .inl rfl|exact .inr rfl|assumption):Nr M A (storeName X.env x u) Q E s:=qam6 I a hi b r (λs' I' _=>h s' I') c
theorem Rk.call'(I:Rk X Fx σ H s)(e:s'.os=s.os)(u:Un (frs X.stack) ch H H' s.heap s'.heap)(a:HOk X.prog X.w H' s'.heap)(f:AllBare s'.gens)(d:∀b∈ch,(b∈X.ex∨X.s₀.heap.objs.size<=b)/\b≠X.env.locals/\(∀x c,X.env.cells.lookup x=some c->c≠b)/\∀p∈X.pn++Fx,p.1≠b):Rk X Fx σ H' s':=by obtain⟨g,h,i,j,k⟩:=s';subst (e);exact I.call u a f d
end
abbrev XK:=V'->Option γ->Hp->Prop
abbrev St:=List (Option V)
abbrev VK:=V->Hp->Prop
abbrev TE:=St->Hp->VK->Prop
abbrev TT:=St->Hp->(Bool->Hp->Prop)->Prop
abbrev TA:=St->Hp->(List V->Hp->Prop)->Prop
structure By where
 nx:St->Hp->Prop
 rt:VK
 bk:St->Hp->Prop:=λ_ _=>False
 ct:St->Hp->Prop:=λ_ _=>False
abbrev TS:=By->St->Hp->Prop
def EP(X:Cx)(Fx:List (γ×Obj))(a:St)(Q:VK)(u:V')(s':Sh):Prop:=∃v H',Rk X Fx a H' s'/\Rh v u/\Q v H'
def TP(X:Cx)(Fx:List (γ×Obj))(a:St)(Q:Bool->Hp->Prop)(b:Bool)(s':Sh):Prop:=∃H',Rk X Fx a H' s'/\Q b H'
def AP(X:Cx)(Fx:List (γ×Obj))(a:St)(Q:List V->Hp->Prop)(us:List V')(s':Sh):Prop:=∃vs H',Rk X Fx a H' s'/\Ri vs us/\Q vs H'
def SP(X:Cx)(Fx:List (γ×Obj))(D:By)(f:Flow)(s':Sh):Prop:=match f with|.next=>∃a' H',Rk X Fx a' H' s'/\D.nx a' H'|.brk=>∃a' H',Rk X Fx a' H' s'/\D.bk a' H'|.cont=>∃a' H',Rk X Fx a' H' s'/\D.ct a' H'|.ret u=>∃v a' H',Rk X Fx a' H' s'/\Rh v u/\D.rt v H'
def PE(X:Cx)(e:Nx)(t:TE):Prop:=∀(Fx:List (γ×Obj))(s:Sh)(a:St)(H:Hp)(Q:VK),Rk X Fx a H s->t a H Q->Nr (Nt X.prog X.w) X.A (eval e X.env) (EP X Fx a Q) X.xe s
def PT(X:Cx)(e:Nx)(t:TT):Prop:=∀(Fx:List (γ×Obj))(s:Sh)(a:St)(H:Hp)(Q:Bool->Hp->Prop),Rk X Fx a H s->t a H Q->Nr (Nt X.prog X.w) X.A (isTrue e X.env (eval e X.env)) (TP X Fx a Q) X.xe s
def PW(X:Cx)(e:Nx)(t:TT):Prop:=∀(whole:Sem V')(Fx:List (γ×Obj))(s:Sh)(a:St)(H:Hp)(Q:Bool->Hp->Prop),Rk X Fx a H s->t a H Q->Nr (Nt X.prog X.w) X.A (isTrue e X.env whole) (TP X Fx a Q) X.xe s
theorem PW.pt(h:PW X e t):PT X e t:=h _
def PA(X:Cx)(es:List Nx)(t:TA):Prop:=∀(pos:Pos)(Fx:List (γ×Obj))(s:Sh)(a:St)(H:Hp)(Q:List V->Hp->Prop),Rk X Fx a H s->t a H Q->Nr (Nt X.prog X.w) X.A (spliced (backTo pos (M8 es X.env))) (AP X Fx a Q) X.xe s
def PS(X:Cx)(st:Ny)(t:TS):Prop:=∀(Fx:List (γ×Obj))(s:Sh)(a:St)(H:Hp)(D:By),Rk X Fx a H s->t D a H->Nr (Nt X.prog X.w) X.A (exec st X.env) (SP X Fx D) X.xe s
def PSs(X:Cx)(st:List Ny)(t:TS):Prop:=∀(Fx:List (γ×Obj))(s:Sh)(a:St)(H:Hp)(D:By),Rk X Fx a H s->t D a H->Nr (Nt X.prog X.w) X.A (execs st X.env) (SP X Fx D) X.xe s
theorem thn{α:Type}{t:Sem α}{Q Q':α->Sh->Prop}{A:Nv}{E:V'->Sh->Prop}{s:Sh}(h:Nr M A t Q E s)(b:∀a s,Q a s->Q' a s):Nr M A t Q' E s:=Nl h b λ_ _ x=>x
section
variable{X:Cx}
def Ja(i:Nat):TE:=λn H Q=>∃v,n[i]?=some (some v)/\Q v H
def tC(v:V):TE:=λ_ H Q=>Q v H
theorem qq0(f:X.N[i]?=some x)(g:Vis X.env.scope x)(b:N' x:=by decide)(d:(x==("__classdict__" : Str))=false:=by decide):PE X (.Name x pos) (Ja i):=by intro Fx s n H Q I h;obtain⟨v,e,h⟩:=h;obtain⟨m,j,k⟩:=I.loc;obtain⟨u,r,l⟩:=k i x v f e g;have fin:EP X Fx n Q u s:=⟨v,H,I,r,h⟩;rcases l with⟨a,hm⟩|⟨a,c,hc,hcell⟩;{exact wpAny_Name (wpAny_loadName_local I.ok.kind a j hm fin) b};rcases a with a|a;{exact wpAny_Name (wpAny_loadName_cell I.ok.kind a hc hcell fin) b};exact wpAny_Name (wpAny_loadName_free I.ok.kind a hc hcell fin d) b
theorem qF4{i j pos}:PE X (.Constant (.int i) j pos) (tC (.int i)):=λ_ _ _ H _ I h=>wpAny_Constant_int ⟨.int i,H,I.tok _,⟨_,rfl⟩,h⟩
theorem pe_bl{b j pos}:PE X (.Constant (.bool b) j pos) (tC (.bl b)):=λ_ _ _ H _ I h=>Constant_bool ⟨.bl b,H,I,rfl,h⟩
theorem qaY8{j pos}:PE X (.Constant .none j pos) (tC .non):=λ_ _ _ H _ I h=>Constant_none ⟨.non,H,I,rfl,h⟩
theorem qaY5{x j pos}:PE X (.Constant (.str x) j pos) (tC (.str x)):=λ_ _ _ H _ I h=>Calls.Constant_str ⟨.str x,H,I.tok _,⟨_,rfl⟩,h⟩
def Gl(X:Cx)(x:Str):Prop:=X.env.kindOf x=some .globalImplicit
theorem qK5{n:St}(I:Rk X Fx n H s)(a:Gl X x)(hm:X.mg x=some u)(h:Q u s)(b:N' x:=by decide):Nr (Nt X.prog X.w) X.A (eval (.Name x pos) X.env) Q E s:=Calls.Name_function_global I.ok.kind a (Calls.loadGlobal_global (by rw[I.ok.glob];exact I.mod.glob.keeps I.bk) hm h) b
theorem qag5{n:St}(I:Rk X Fx n H s)(a:Gl X x)(hm:X.mg x=none)(b:Nc x=some u)(h:Q u s)(c:x ≠ "__name__" := by decide)(d:N' x:=by decide):Nr (Nt X.prog X.w) X.A (eval (.Name x pos) X.env) Q E s:=by obtain⟨g,e,f⟩:=I.mod.blt;exact Calls.Name_function_global I.ok.kind a (Calls.loadGlobal_builtin (by rw[I.ok.glob];exact I.mod.glob.keeps I.bk) hm (by rw[I.ok.blt];exact e.keeps I.bk) ((f x c).trans b) h) d
theorem qae5(a:Gl X x)(hm:X.mg x=some u)(r:Rh v u)(b:N' x:=by decide):PE X (.Name x pos) (tC v):=λ_ _ _ H _ I h=>qK5 I a hm ⟨v,H,I,r,h⟩ b
theorem qaO3(a:Gl X x)(hm:X.mg x=none)(b:Nc x=some u)(r:Rh v u)(c:x ≠ "__name__" := by decide)(d:N' x:=by decide):PE X (.Name x pos) (tC v):=λ_ _ _ H _ I h=>qag5 I a hm b ⟨v,H,I,r,h⟩ c d
variable{a b:Nx}{o p:TE}{pos:Pos}
def tB(t:TE):TT:=λn H Q=>t n H λx H1=>∃c,x=.bl c/\Q c H1
theorem qaL7(h:PE X e t)(b:∀whole,isTrue e X.env whole=(do let v<-whole;standAt e.pos;holding [v] (truthy v)):=by intro _;rfl):PT X e (tB t):=by intro Fx s n H Q I c;refine isTrue_plain (thn (h Fx s n H _ I c) λv i a=>?_) (b _);obtain⟨x,H1,I1,f,g⟩:=a;obtain⟨d,rfl,q⟩:=g;cases f;exact Nd ⟨H1,I1,q⟩
variable{y tB':TT}{rest:List Nx}
def tAnd(t u:TT):TT:=λn H Q=>t n H λc H1=>if c=true then u n H1 Q else Q false H1
def tOr(t u:TT):TT:=λn H Q=>t n H λc H1=>if c=true then Q true H1 else u n H1 Q
def tNot(t:TT):TT:=λn H Q=>t n H λc H1=>Q (!c) H1
theorem qaL6(b:PT X a y):PW X (.BoolOp .And [a] pos) y:=by intro d Fx s n H Q I h;refine isTrue_and (thn (b Fx s n H Q I h) λc f e=>?_);cases c with|true=>exact isTrue_and_nil e|false=>exact e
theorem qaX2(b:PT X a y):PW X (.BoolOp .Or [a] pos) y:=by intro d Fx s n H Q I h;refine isTrue_or (thn (b Fx s n H Q I h) λc f e=>?_);cases c with|false=>exact isTrue_or_nil e|true=>exact e
theorem qaX3(f:PT X a y)(g:PW X (.BoolOp .And (b::rest) pos) tB'):PW X (.BoolOp .And (a::b::rest) pos) (tAnd y tB'):=by intro i Fx s n H Q I h;refine isTrue_and (thn (f Fx s n H _ I h) λc j d=>?_);obtain⟨H1,I1,e⟩:=d;cases c with|true=>exact g i Fx j n H1 Q I1 e|false=>exact⟨H1,I1,e⟩
theorem pw_or(f:PT X a y)(g:PW X (.BoolOp .Or (b::rest) pos) tB'):PW X (.BoolOp .Or (a::b::rest) pos) (tOr y tB'):=by intro i Fx s n H Q I h;refine isTrue_or (thn (f Fx s n H _ I h) λc j d=>?_);obtain⟨H1,I1,e⟩:=d;cases c with|true=>exact⟨H1,I1,e⟩|false=>exact g i Fx j n H1 Q I1 e
theorem qaX4(b:PT X a y):PT X (.UnaryOp .Not a pos) (tNot y):=by intro Fx s n H Q I h;exact isTrue_not (b Fx s n H (λc H1=>Q (!c) H1) I h)
def tAndV(o p:TE):TE:=λn H Q=>o n H λx H1=>∃c,x=.bl c/\if c=true then p n H1 Q else Q (.bl false) H1
def tOrV(o p:TE):TE:=λn H Q=>o n H λx H1=>∃c,x=.bl c/\if c=true then Q (.bl true) H1 else p n H1 Q
def tNotV(o:TE):TE:=λn H Q=>o n H λx H1=>∃c,x=.bl c/\Q (.bl (!c)) H1
theorem qaN4{op}(h:PE X a t):PE X (.BoolOp op [a] pos) t:=λFx s n H Q I b=>BoolOp_one (h Fx s n H Q I b)
theorem qaO4(f:PE X a o)(g:PE X (.BoolOp .And (b::rest) pos) p):PE X (.BoolOp .And (a::b::rest) pos) (tAndV o p):=by intro Fx s n H Q I h;refine BoolOp_and (thn (f Fx s n H _ I h) λv i e=>?_);obtain⟨x,H1,I1,j,d⟩:=e;obtain⟨c,rfl,d⟩:=d;cases j;refine Nd ?_;cases c with|true=>exact g Fx i n H1 Q I1 d|false=>exact⟨.bl false,H1,I1,rfl,d⟩
theorem pe_or(f:PE X a o)(g:PE X (.BoolOp .Or (b::rest) pos) p):PE X (.BoolOp .Or (a::b::rest) pos) (tOrV o p):=by intro Fx s n H Q I h;refine BoolOp_or (thn (f Fx s n H _ I h) λv i e=>?_);obtain⟨x,H1,I1,j,d⟩:=e;obtain⟨c,rfl,d⟩:=d;cases j;refine Nd ?_;cases c with|false=>exact g Fx i n H1 Q I1 d|true=>exact⟨.bl true,H1,I1,rfl,d⟩
theorem qaY7(e:PE X a o):PE X (.UnaryOp .Not a pos) (tNotV o):=by intro Fx s n H Q I h;refine UnaryOp_ (thn (e Fx s n H _ I h) λv g b=>?_);obtain⟨x,H1,I1,f,d⟩:=b;obtain⟨c,rfl,d⟩:=d;cases f;exact not_of (Nd ⟨.bl (!c),H1,I1,rfl,d⟩)
def tIf(t:TT)(o p:TE):TE:=λn H Q=>t n H λc H1=>if c=true then o n H1 Q else p n H1 Q
theorem qaB7(i:PT X c y)(j:PE X a o)(k:PE X b p):PE X (.IfExp c a b pos) (tIf y o p):=by intro Fx s n H Q I h;refine wpAny_IfExp (thn (i Fx s n H _ I h) λd f e=>?_);obtain⟨H1,I1,g⟩:=e;cases d with|true=>exact j Fx f n H1 Q I1 g|false=>exact k Fx f n H1 Q I1 g
end
def SqL(K:Qe)(H:Hp)(a:γ)(xs:List V):Prop:=Rd H a (.l xs)∨∃(o:Obj)(its:Array V')(n:Nat),K.lookup a=some o/\o.cls=.type "list" /\ o.dict=none/\o.data=.seq its n/\its.size<=M9/\Ri xs its.toList
def SqT(K:Qe)(H:Hp)(a:γ)(xs:List V):Prop:=Rd H a (.q xs)∨∃(o:Obj)(its:Array V')(n:Nat),K.lookup a=some o/\o.cls=.type "tuple" /\ o.data=.seq its n/\its.size<=M9/\Ri xs its.toList
noncomputable def absV:V'->Option V|.none=>some .non|.bool b=>some (.bl b)|.int i _=>some (.int i)|.str x _=>some (.str x)|.bytes b _=>some (.byt b)|.float b _=>some (.flt b)|.ref a=>some (.ref a)|.type n=>some (.ty n)|_=>none
theorem Rh.abs(r:Rh x u):absV u=some x:=by cases x with|non=>cases r;rfl|bl _=>cases r;rfl|int _=>obtain⟨t,rfl⟩:=r;rfl|str _=>obtain⟨t,rfl⟩:=r;rfl|byt _=>obtain⟨t,rfl⟩:=r;rfl|flt _=>obtain⟨t,rfl⟩:=r;rfl|ref _=>cases r;rfl|ty _=>cases r;rfl
theorem Rh.inj(r:Rh x u)(q:Rh y u):x=y:=Qc (r.abs.symm.trans q.abs)
theorem Ri.inj(h:Ri xs us)(g:Ri ys us):xs=ys:=by induction h generalizing ys with|nil=>cases g;rfl|cons r t i=>cases g with|cons q u=>rw[r.inj q,i u]
section
variable{X:Cx}{q:List (γ×Obj)}{m:St}{H:Hp}{s:Sh}{a:γ}{xs ys:List V}
theorem SqL.of{K:Qe}(h:H a=some (.l xs)):SqL K H a xs:=.inl (.inl h)
theorem Rk.list(I:Rk X q m H s)(h:SqL X.K H a xs):∃its:List V',Ri xs its/\PlainL s.heap a its.toArray/\xs.length<=M9:=by rcases h with h|⟨o,its,n,b,c,d,f,g,r⟩;{obtain⟨z,its,n,r,e⟩:=h.ok I.hok;exact⟨its,r,⟨_,n,e,rfl,rfl,rfl⟩,z⟩};refine⟨its.toList,r,⟨o,n,I.kIn a o b,c,d,by simpa using f⟩,?_⟩;have e:=r.length;grind
theorem Rk.tuple(I:Rk X q m H s)(h:SqT X.K H a xs):∃its:List V',Ri xs its/\IsTup s.heap a its.toArray/\xs.length<=M9:=by rcases h with h|⟨o,its,n,b,c,d,f,r⟩;{obtain⟨z,its,r,p⟩:=h.ok I.hok;exact⟨its,r,p,z⟩};refine⟨its.toList,r,⟨o,I.kIn a o b,c,n,by simpa using d⟩,?_⟩;have e:=r.length;simp only[zB7] at e;lia
theorem Rk.list_inj(I:Rk X q m H s)(h:SqL X.K H a xs)(h':SqL X.K H a ys):xs=ys:=by
 obtain⟨b,r,⟨o,n,e,_,_,d⟩,_⟩:=I.list h;obtain⟨its',g,⟨j,k,c,_,_,f⟩,_⟩:=I.list h';rw[e] at c;cases c;rw[d] at f;injection f with i _;have:b=its':=by simpa using congrArg Array.toList i
 subst this;exact r.inj g
theorem Rk.tuple_inj(I:Rk X q m H s)(h:SqT X.K H a xs)(h':SqT X.K H a ys):xs=ys:=by
 obtain⟨b,r,⟨o,e,_,n,d⟩,_⟩:=I.tuple h;obtain⟨its',g,⟨j,c,_,k,f⟩,_⟩:=I.tuple h';rw[e] at c;cases c;rw[d] at f;injection f with i _;have:b=its':=by simpa using congrArg Array.toList i
 subst this;exact r.inj g
end
noncomputable abbrev Cx.wish(X:Cx)(E:V'->Sh->Prop):Cx:={X with xe:=E}
abbrev Cx.nox(X:Cx):Cx:=X.wish λ_ _=>False
theorem Cx.Ok.wish{X:Cx}(a:X.Ok)(E:V'->Sh->Prop):(X.wish E).Ok:=⟨a.mod,a.kind,a.glob,a.blt,a.above,a.inj,a.has,a.cab,a.hd,a.frames,a.stk,a.exf,a.bs,a.bsz,a.noex,a.exfs,a.funs,a.frf⟩
theorem Cx.Ok.unwish{X:Cx}(a:(X.wish E).Ok):X.Ok:=⟨a.mod,a.kind,a.glob,a.blt,a.above,a.inj,a.has,a.cab,a.hd,a.frames,a.stk,a.exf,a.bs,a.bsz,a.noex,a.exfs,a.funs,a.frf⟩
section
variable{X:Cx}{c:List (γ×Obj)}{b:St}{H:Hp}{s:Sh}{E:V'->Sh->Prop}
theorem Rk.wish(I:Rk X c b H s)(E:V'->Sh->Prop):Rk (X.wish E) c b H s:=⟨I.ok.wish E,I.os,I.bare,I.base,I.loc,I.cell,I.free,I.freeC,I.pin,I.hok,I.len⟩
theorem Rk.unwish(I:Rk (X.wish E) c b H s):Rk X c b H s:=⟨I.ok.unwish,I.os,I.bare,I.base,I.loc,I.cell,I.free,I.freeC,I.pin,I.hok,I.len⟩
theorem SP.unwish(h:SP (X.wish E) c D f s'):SP X c D f s':=by cases f with|next=>obtain⟨b',H',I,q⟩:=h;exact⟨b',H',I.unwish,q⟩|brk=>obtain⟨b',H',I,q⟩:=h;exact⟨b',H',I.unwish,q⟩|cont=>obtain⟨b',H',I,q⟩:=h;exact⟨b',H',I.unwish,q⟩|ret u=>obtain⟨v,b',H',I,r,q⟩:=h;exact⟨v,b',H',I.unwish,r,q⟩
theorem PSs.nox{st:List Ny}(h:PSs X.nox st t):PSs X st t:=λc s b H D I a=>
 Nl (h c s b H D (I.wish _) a) (λ_ _ q=>q.unwish) λ_ _ z=>Q6 z
end
section
variable{X:Cx}{n:Ny}{rest:List Ny}{t u:TS}{e:Nx}{te:TE}{m:Pos}
def tNext:TS:=λD l H=>D.nx l H
def tSeq(t u:TS):TS:=λD l H=>t {D with nx:=u D} l H
theorem qaL9:PSs X [] tNext:=λ_ _ l H _ I h=>wpAny_execs_nil ⟨l,H,I,h⟩
theorem qQ0(h1:PS X n t)(h2:PSs X rest u):PSs X (n::rest) (tSeq t u):=by intro Fx s l H D I h;refine wpAny_execs_cons (thn (h1 Fx s l H {D with nx:=u D} I h) λf a q=>?_);cases f with|next=>obtain⟨l',H',I',q⟩:=q;exact h2 Fx a l' H' D I' q|ret v=>exact q|brk=>exact q|cont=>exact q
theorem qJ1(h1:PS X n t):PSs X [n] t:=by intro Fx s l H D I h;refine wpAny_execs_cons (thn (h1 Fx s l H D I h) λf a q=>?_);cases f with|next=>exact wpAny_execs_nil q|ret v=>exact q|brk=>exact q|cont=>exact q
theorem Rk.quiet(I:Rk X Fx l H s):interactive X.env=false:=by simp[interactive,I.ok.kind]
def tDrop(te:TE):TS:=λD l H=>te l H λ_ H1=>D.nx l H1
theorem qaM2(a:PE X e te)(b:swapsWith e none m.line X.env=pure false:=by rfl):PS X (.Expr e m) (tDrop te):=by intro Fx s l H D I h;exact wpAny_Expr_any (thn (a Fx s l H _ I h) λv d ⟨x,H1,I1,f,c⟩=>⟨l,H1,I1,c⟩) I.quiet b
def tRet(te:TE):TS:=λD l H=>te l H D.rt
theorem qaM1(a:PE X e te):PS X (.Return (some e) m) (tRet te):=by intro Fx s l H D I h;exact wpAny_Return_some (thn (a Fx s l H _ I h) λv d ⟨x,H1,I1,b,c⟩=>⟨x,l,H1,I1,b,c⟩)
def tIfS(c:TT)(t u:TS):TS:=λD l H=>c l H λb H1=>if b=true then t D l H1 else u D l H1
theorem ps_if(i:PT X c tc)(j:PSs X a t)(k:PSs X b u):PS X (.If c a b m) (tIfS tc t u):=by intro Fx s l H D I h;refine wpAny_If (thn (i Fx s l H _ I h) λd f e=>?_);obtain⟨H1,I1,g⟩:=e;cases d with|true=>exact j Fx f l H1 D I1 g|false=>exact k Fx f l H1 D I1 g
end
abbrev TG:=V->St->Hp->(St->Hp->Prop)->Prop
abbrev TGs:=List V->St->Hp->(St->Hp->Prop)->Prop
def PG(X:Cx)(target:Nx)(t:TG):Prop:=∀(Fx:List (γ×Obj))(s:Sh)(a:St)(H:Hp)(v:V)(u:V')(Q:St->Hp->Prop),Rk X Fx a H s->Rh v u->t v a H Q->Nr (Nt X.prog X.w) X.A (assign target X.env u) (λ_ s'=>∃a' H',Rk X Fx a' H' s'/\Q a' H') X.xe s
def PGs(X:Cx)(ts:List Nx)(t:TGs):Prop:=∀(Fx:List (γ×Obj))(s:Sh)(a:St)(H:Hp)(vs:List V)(us:List V')(Q:St->Hp->Prop),Rk X Fx a H s->Ri vs us->t vs a H Q->Nr (Nt X.prog X.w) X.A (assignInOrder ((Np ts X.env).map (·.2)) us) (λ_ s'=>∃a' H',Rk X Fx a' H' s'/\Q a' H') X.xe s
abbrev Lm:=V->V->V->Hp->(Hp->Prop)->Prop
def PSet(X:Cx)(t:Lm):Prop:=∀(Fx:List (γ×Obj))(s:Sh)(a:St)(H:Hp)(o i v:V)(ov iv u:V')(Q:Hp->Prop),Rk X Fx a H s->Rh o ov->Rh i iv->Rh v u->t o i v H Q->Nr (Nt X.prog X.w) X.A (setItem ov iv u) (λ_ s'=>∃H',Rk X Fx a H' s'/\Q H') X.xe s
abbrev TIp:=V->V->Hp->VK->Prop
def PIp(X:Cx)(op:Operator)(t:TIp):Prop:=∀(Fx:List (γ×Obj))(s:Sh)(a:St)(H:Hp)(x y:V)(v u:V')(Q:VK),Rk X Fx a H s->Rh x v->Rh y u->t x y H Q->Nr (Nt X.prog X.w) X.A (inplaceOp op v u) (EP X Fx a Q) X.xe s
section
variable{X:Cx}{pos:Pos}
def Ih(i:Nat):TG:=λv R H Q=>Q (R.set i (some v)) H
theorem qav0(a:X.N.Nodup)(hi:X.N[i]?=some x)(b:Loc X.env.scope x)(c:X.fn x=true∨X.env.scope.names.lookup x=some .local:=by first|exact .inl rfl|exact .inr rfl|assumption):PG X (.Name x pos) (Ih i):=by intro Fx s R H v u Q I r h;exact wpAny_assign_Name (qD6 I a hi b r (λd I'=>⟨_,H,I',h⟩) c)
def gNil:TGs:=λvs R H Q=>vs=[]/\Q R H
def gCons(t:TG)(u:TGs):TGs:=λvs R H Q=>∃v r,vs=v::r/\t v R H λR' H'=>u r R' H' Q
theorem qaN0:PGs X [] gNil:=by intro Fx s R H a b Q I r h;obtain⟨e,h⟩:=h;subst e;cases r;exact assignInOrder_nil ⟨R,H,I,h⟩
theorem qaB4(h1:PG X e t)(h2:PGs X es u)(a:(Np (e::es) X.env).map (·.2)=assign e X.env::(Np es X.env).map (·.2):=by rfl):PGs X (e::es) (gCons t u):=by intro Fx s R H g i Q I r h;obtain⟨v,j,b,h⟩:=h;subst b;cases r with|cons r c=>rw[a];exact assignInOrder_cons (thn (h1 Fx s R H _ _ _ I r h) λ_ d ⟨σ1,H1,I1,f⟩=>(h2 Fx d σ1 H1 _ _ Q I1 c f))
def gTup(K:Qe)(n:Nat)(t:TGs):TG:=λv R H Q=>∃a xs,v=.ref a/\SqT K H a xs/\xs.length=n/\t xs R H Q
theorem qaY1(g:X.calm=true)(h:PGs X es t)(i:(Np es X.env).length=n:=by rfl)(c:(Np es X.env).findIdx? (·.1)=none:=by rfl):PG X (.Tuple es k pos) (gTup X.K n t):=by intro Fx s R H v u Q I r d;obtain⟨a,j,l,m,p,d⟩:=d;subst l;cases r;obtain⟨q,f,w,y⟩:=I.tuple m;exact assign_Tuple_tuple (I.ok.hd g) w (by simp[i,<-p,f.length]) c λz x=>(h Fx _ R H j _ Q (I.kept λb o e=>x b o (zAj (zA9 e)) e) (by simpa using f) d)
def gSub(to a:TE)(t:Lm):TG:=λv R H Q=>to R H λo H1=>a R H1 λi H2=>t o i v H2 λH3=>Q R H3
theorem qaY2{o i:Nx}{to a:TE}{t:Lm}(b:PE X o to)(hi:PE X i a)(c:PSet X t)(d:∀v,assign (.Subscript o i pos) X.env v=(do
 let ov<-holding [v] (eval o X.env)
 let iv<-holding [v,ov] (eval i X.env)
 standAt pos
 holding [v,ov,iv] (setItem ov iv v)
 release [v,ov,iv] []):=by intro _;rfl):PG X (.Subscript o i pos) (gSub to a t):=by intro Fx s R H v u Q I r h;rw[d];exact J' (Nb (thn (b Fx s R H _ I h) λov e ⟨x,H1,I1,f,g⟩=>(J' (Nb (thn (hi Fx e R H1 _ I1 g) λiv j ⟨y,H2,I2,k,q2⟩=>(J' (wpAny_standAt (J' (Nb (thn (c Fx j R H2 x y v ov iv u _ I2 f k r q2) λ_ m ⟨H3,I3,l⟩=>(wpAny_release ⟨R,H3,I3,l⟩)))))))))))
def K5(te:TE)(g:TG):TS:=λD R H=>te R H λx H1=>g x R H1 D.nx
theorem qaX7(b:PE X e te)(c:PG X tg g)(d:swapsWithSole [tg] e pos.line X.env=pure false:=by rfl)(f:swappedStores [tg] e X.env=pure none:=by rfl)(h1:(Np [tg] X.env).map (·.2)=[assign tg X.env]:=by rfl):PS X (.Assign [tg] e pos) (K5 te g):=by intro Fx s R H D I h;refine wpAny_Assign_stores (thn (b Fx s R H _ I h) λv i a=>?_) d f;obtain⟨x,H1,I1,j,k⟩:=a;rw[h1];exact thn (c Fx i R H1 x v _ I1 j k) λ_ l q=>q
theorem qaM0(a:X.N.Nodup)(hi:X.N[i]?=some x)(b:Loc X.env.scope x)(c:PE X e te)(d:swapsWith e (some (.Name x pos')) pos.line X.env=pure false:=by rfl)(f:X.fn x=true∨X.env.scope.names.lookup x=some .local:=by first|exact .inl rfl|exact .inr rfl|assumption):PS X (.Assign [.Name x pos'] e pos) (K5 te (Ih i)):=by intro Fx s R H D I h;exact wpAny_Assign_Name (thn (c Fx s R H _ I h) λv k ⟨y,H1,I1,g,j⟩=>(qD6 I1 a hi b g (λl I2=>⟨_,H1,I2,j⟩) f)) d
def tAugS(to b te:TE)(tget:V->V->Hp->VK->Prop)(a:TIp)(tset:Lm):TS:=λD R H=>to R H λo H1=>b R H1 λi H2=>tget o i H2 λx H3=>te R H3 λy H4=>a x y H4 λz H5=>tset o i z H5 λH6=>D.nx R H6
def PGet(X:Cx)(t:V->V->Hp->VK->Prop):Prop:=∀(Fx:List (γ×Obj))(s:Sh)(R:St)(H:Hp)(o i:V)(ov iv:V')(Q:VK),Rk X Fx R H s->Rh o ov->Rh i iv->t o i H Q->Nr (Nt X.prog X.w) X.A (getItem ov iv) (EP X Fx R Q) X.xe s
theorem qaM4{i:Nx}{op:Operator}(n:PE X o to)(hi:PE X i g)(p:PGet X tget)(q:PE X e te)(r:PIp X op d)(t:PSet X tset)(u:∀b c a,augStore i b c a=(do holding [a,b,c] (setItem b c a);release [a,b,c] [];pure .next):=by intros;rfl):PS X (.AugAssign (.Subscript o i tpos) op e pos) (tAugS to g te tget d tset):=by intro Fx s R H D I h;exact wpAny_AugAssign_SubscriptAny (thn (n Fx s R H _ I h) λb w ⟨j,H1,I1,k,x⟩=>(thn (hi Fx w R H1 _ I1 x) λc y ⟨l,H2,I2,m,q2⟩=>(thn (p Fx y R H2 j l b c _ I2 k m q2) λf z ⟨A,H3,I3,B,C⟩=>(thn (q Fx z R H3 _ I3 C) λv E ⟨F,H4,I4,G,J⟩=>(thn (r Fx E R H4 A F f v _ I4 B G J) λa K ⟨L,H5,I5,M,N⟩=>(thn (t Fx K R H5 j l L b c a _ I5 k m M N) λ_ P ⟨H6,I6,O⟩=>⟨R,H6,I6,O⟩)))))) u
def ipI(f:Int->Int->Int):TIp:=λx y H Q=>∃i j,x=.int i/\y=.int j/\Q (.int (f i j)) H
theorem qbb9:PIp X .Add (ipI λi j=>i+j):=by intro Fx s R H x y v u Q I a b h;obtain⟨i,j,c,e2,q⟩:=h;subst c;subst e2;obtain⟨t,rfl⟩:=a;obtain⟨d,rfl⟩:=b;exact iadd_int ⟨.int _,H,I.tok _,⟨_,rfl⟩,q⟩
end
section
variable{X:Cx}{B:Pos}
def qaW4(c:TT)(tb:TS):TS:=λD z H=>∃W:Nat->St->Hp->Prop,(∃m,W m z H)/\∀m z H,W m z H->c z H λb H1=>if b=true then ∃N:St->Hp->Prop,(∀z' H',N z' H'->∃a,a<m/\W a z' H')/\tb {D with nx:=N,ct:=N,bk:=D.nx} z H1 else D.nx z H1
theorem qaA9(k:PassesOwn (Nt X.prog X.w) X.A X.env X.xe)(m:PT X c tc)(o:PSs X body tb):PS X (.While c body [] B) (qaW4 tc tb):=by intro Fx s z H D I h;obtain⟨W,⟨p,q⟩,turn⟩:=h;refine wpAny_While (codeAny_whileLoop (λn r=>∃z' H',Rk X Fx z' H' r/\W n z' H') ?_ p ⟨z,H,I,q⟩);rintro n t ⟨σ1,H1,I1,u⟩;refine Nn k (thn (m Fx t σ1 H1 _ I1 (turn n σ1 H1 u)) λb x d=>?_);obtain⟨H2,I2,q2⟩:=d;cases b with|true=>(obtain⟨N,l,q2⟩:=q2;rw[if_pos rfl];refine Nn k (thn (o Fx x σ1 H2 _ I2 q2) λf y a=>?_);cases f with|next=>obtain⟨σ3,H3,I3,e⟩:=a;obtain⟨g,i,j⟩:=l σ3 H3 e;exact⟨g,i,σ3,H3,I3,j⟩|cont=>obtain⟨σ3,H3,I3,e⟩:=a;obtain⟨g,i,j⟩:=l σ3 H3 e;exact⟨g,i,σ3,H3,I3,j⟩|brk=>exact a|ret v=>exact a)|false=>rw[if_neg zA8];exact wpAny_execs_nil ⟨σ1,H2,I2,q2⟩
end
structure It where
 go:Nat->Hp->Prop
 yld:Nat->Hp->V->Hp->Prop
 stop:Nat->Hp->Prop
def Jb(X:Cx)(Fx:List (γ×Obj))(H:Hp)(b:γ):Prop:=H b=none/\b≠X.env.locals/\b∉X.fs/\(b∈X.ex∨X.s₀.heap.objs.size<=b)/\(∀x c,X.env.cells.lookup x=some c->c≠b)/\∀p∈X.pn++Fx,p.1≠b
theorem Rk.fpOk(I:Rk X Fx g H s)(a:s.heap.objs.size<=b)(d:H' b=none):Jb X Fx H' b:=by refine⟨d,Nat.ne_of_gt (zAa I.lt a),I.nofs a,.inr (zA7 I.sz a),λx c e z=>?_,λp f z=>?_⟩;{obtain⟨v,q⟩:=I.cell x c e;exact absurd (zAa q.lt (by rw[z];exact a)) (zC5 _)};exact absurd (zAa (zA9 (I.pin p f).1) (by rw[z];exact a)) (zC5 _)
structure K6(P:Nu)(w:Nw)(K:Qe)(tg:Nx)(J:It)(fp:List γ)(it:γ)(tn:Nat->Heap->Prop):Prop where
 mem:it∈fp
 obj:∀i h,tn i h->∀b∈fp,∃o,h.get? b=some o/\∀v,o.data≠.cell v
 keep:∀i h h',tn i h->(∀b∈fp,∀o,h.get? b=some o->h'.get? b=some o)->tn i h'
 item:∀(X:Cx),X.prog=P->X.w=w->X.K=K->X.calm=true->∀(i:Nat)(Fx:List (γ×Obj))(s:Sh)(a:St)(H:Hp)(E:V'->Sh->Prop),Rk X Fx a H s->(∀b∈fp,Jb X Fx H b)->tn i s.heap->J.go i H->Nr (Nt P w) X.A (pyNext (.ref it)) (λr s1=>∃u,r=some u/\Nr (Nt P w) X.A (letOwnedTupleGo tg (.ref it) u) (λ_ s2=>∃x H',Rk X Fx a H' s2/\Rh x u/\J.yld i H x H'/\tn (i+1) s2.heap/\∀b∈fp,H' b=none) E s1) E s
 done:∀(X:Cx),X.prog=P->X.w=w->X.K=K->X.calm=true->∀(i:Nat)(Fx:List (γ×Obj))(s:Sh)(a:St)(H:Hp)(E:V'->Sh->Prop),Rk X Fx a H s->(∀b∈fp,Jb X Fx H b)->tn i s.heap->J.stop i H->Nr (Nt P w) X.A (pyNext (.ref it)) (λr s1=>r=none/\Rk X Fx a H s1) E s
 self:∀(A:Nv)(i:Nat)(s:Sh)(Q:V'->Sh->Prop)(E:V'->Sh->Prop),tn i s.heap->Q (.ref it) s->Nr (Nt P w) A (pyIter (.ref it)) Q E s
abbrev TI:=St->Hp->(It->Hp->Prop)->Prop
def PIE(X:Cx)(Fx:List (γ×Obj))(c:St)(tg:Nx)(R:It->Hp->Prop)(a:V')(s2:Sh):Prop:=∃(it:γ)(fp:List γ)(tn:Nat->Heap->Prop)(J:It)(H':Hp),a=.ref it/\Rk X Fx c H' s2/\K6 X.prog X.w X.K tg J fp it tn/\tn 0 s2.heap/\(∀b∈fp,Jb X Fx H' b)/\R J H'
def PI(X:Cx)(tg iter:Nx)(wi:TI):Prop:=∀(Fx:List (γ×Obj))(s:Sh)(b:St)(H:Hp)(R:It->Hp->Prop),Rk X Fx b H s->wi b H R->Nr (Nt X.prog X.w) X.A (eval iter X.env) (λv a=>Nr (Nt X.prog X.w) X.A (pyIter v) (PIE X Fx b tg R) X.xe a) X.xe s
theorem Ln{n:String}(b:s.heap.get? it=some o)(c:o.cls=.type n)(d:o.data=.fields vs)(e:["enumerate", "zip", "dict_itemiterator", "dict_reverseitemiterator", "odict_iterator", "itertools.zip_longest", "itertools.pairwise"].contains n=false)(a:Q () s):Nr M A (letOwnedTupleGo tg (.ref it) u) Q E s:=by
 unfold letOwnedTupleGo;cases tg<;>first
  |exact M7 a
  |(cases u<;>first
   |exact M7 a
   |(refine J' (wpAny_load b ?_);rw[c,d];show Nr M A (if (["enumerate", "zip", "dict_itemiterator", "dict_reverseitemiterator", "odict_iterator", "itertools.zip_longest", "itertools.pairwise"].contains n&&vs[0]?==some (rawInt _))=true then _ else _) Q E s;rw[if_neg (by grind)];exact M7 a))
noncomputable def Itl(K:Qe)(a:γ):It:=⟨λi H=>∃xs x,SqL K H a xs/\xs[i]?=some x,λi H x H'=>H'=H/\∀xs,SqL K H a xs->xs[i]?=some x,λi H=>∃xs,SqL K H a xs/\xs.length<=i⟩
noncomputable def Itt(K:Qe)(a:γ):It:=⟨λi H=>∃xs x,SqT K H a xs/\xs[i]?=some x,λi H x H'=>H'=H/\∀xs,SqT K H a xs->xs[i]?=some x,λi H=>∃xs,SqT K H a xs/\xs.length<=i⟩
noncomputable def Itr(lo:Int)(n:Nat):It:=⟨λi _=>i<n,λi H x H'=>H'=H/\x=.int (lo+i),λi _=>n<=i⟩
theorem qal9{P:Nu}{w:Nw}{K:Qe}{tg:Nx}(a it:γ):K6 P w K tg (Itl K a) [it] it (λi h=>h.IsListIter it a i) where
 mem:=by simp
 obj:=λi h f b g=>by
  have e:b=it:=by simpa using g
  subst e;obtain⟨o,e,c,d⟩:=f;exact⟨o,e,λv z=>by rw[d] at z;cases z⟩
 keep:=λi h l f k=>f.at λo e=>k it (by simp) o e
 item:=by
  intro X q r t J i Fx s R H E I m f y;subst q r t;obtain⟨L,x,n,A⟩:=y;obtain⟨B,C,p,M⟩:=I.list n;obtain⟨u,N,O⟩:=C.get A;obtain⟨D,f1,f2,f3,F,G⟩:=m it (by simp);refine wpAny_pyNext_list_item f p.isList (x:=u) (by simpa using N) λl j Q=>?_
  have I1:Rk X Fx R H {s with heap:=l}:=I.turned (t':=s.toks) (λb o g e=>(Q.2 b g).trans e) D f1 f3 F G;obtain⟨o,e,c,d⟩:=id j;exact⟨u,rfl,Ln (s:={s with heap:=l}) e c d ∅ ⟨x,H,I1,O,⟨rfl,λU S=>by rw[I.list_inj S n];exact A⟩,j,λb g=>(m b g).1⟩⟩
 done:=by
  intro X q r t J i Fx s R H E I m f y;subst q r t;obtain⟨L,n,A⟩:=y;obtain⟨B,C,p,M⟩:=I.list n;obtain⟨D,f1,f2,f3,F,G⟩:=m it (by simp);have V:=C.length;exact wpAny_pyNext_list_end (I.ok.hd J) f p.isList (by simp;lia) λl T=>⟨rfl,I.turned (t':=s.toks) (λb o g e=>T b o g e) D f1 f3 F G⟩
 self:=λ_ _ _ _ _ f h=>wpAny_pyIter_listiter f h
theorem qab4{P:Nu}{w:Nw}{K:Qe}{tg:Nx}(a it:γ):K6 P w K tg (Itt K a) [it] it (λi h=>h.IsTupleIter it a i) where
 mem:=by simp
 obj:=λi h f b g=>by
  have e:b=it:=by simpa using g
  subst e;obtain⟨o,e,c,d⟩:=f;exact⟨o,e,λv z=>by rw[d] at z;cases z⟩
 keep:=λi h m f k=>f.at λo e=>k it (by simp) o e
 item:=by
  intro X r t y J i Fx s R H E I n f A;subst r t y;obtain⟨L,x,q,B⟩:=A;obtain⟨j,C,p,M⟩:=I.tuple q;obtain⟨u,N,O⟩:=C.get B;obtain⟨D,f1,f2,f3,F,G⟩:=n it (by simp);refine wpAny_pyNext_tuple_item f (show s.heap.IsTuple a j.toArray from p) (x:=u) (by simpa using N) λm l Q=>?_
  have I1:Rk X Fx R H {s with heap:=m}:=I.turned (t':=s.toks) (λb o g e=>(Q.2 b g).trans e) D f1 f3 F G;obtain⟨o,e,c,d⟩:=id l;exact⟨u,rfl,Ln (s:={s with heap:=m}) e c d ∅ ⟨x,H,I1,O,⟨rfl,λU S=>by rw[I.tuple_inj S q];exact B⟩,l,λb g=>(n b g).1⟩⟩
 done:=by
  intro X r t y J i Fx s R H E I n f A;subst r t y;obtain⟨L,q,B⟩:=A;obtain⟨j,C,p,M⟩:=I.tuple q;obtain⟨D,f1,f2,f3,F,G⟩:=n it (by simp);have V:=C.length;exact wpAny_pyNext_tuple_end (I.ok.hd J) f (show s.heap.IsTuple a j.toArray from p) (by simp;lia) λm T=>⟨rfl,I.turned (t':=s.toks) (λb o g e=>T b o g e) D f1 f3 F G⟩
 self:=λ_ _ _ _ _ f h=>wpAny_pyIter_tupleiter f h
theorem qab5{P:Nu}{w:Nw}{K:Qe}{tg:Nx}(it:γ)(lo:Int)(n:Nat):K6 P w K tg (Itr lo n) [it] it (λi h=>IsRangeIter h it (lo+(i:Nat)*1) ((n:Int)-(i:Nat)) 1) where
 mem:=by simp
 obj:=λi h a b c=>by
   have e:b=it:=by simpa using c
   subst e;exact⟨_,a,λv z=>by
     cases (z)⟩
 keep:=λi h g a k=>k it (by simp) _ a
 item:=by
   intro X r u x j i Fx s D H E I f a l;subst r u x;obtain⟨m,f1,f2,f3,p,q⟩:=f it (by simp);have W:=Walks.range (prog:=X.prog) (w:=X.w) (I.ok.hd j) it lo 1 n;refine W.item i s _ _ l a λv g y A d B=>?_
   obtain⟨t,rfl⟩:=A;have I1:Rk X Fx D H {s with heap:=g,toks:=y}:=I.turned (λb o c e=>B b o (by simpa using c) e) m f1 f3 p q;refine⟨_,rfl,Ln d rfl rfl ∅ ⟨.int (lo+i),H,I1,⟨t,?_⟩,⟨rfl,rfl⟩,d,λb c=>(f b c).1⟩⟩;rw[Int.mul_one]
 done:=by
   intro X r u x j i Fx s D H E I f a l;obtain⟨m,f1,f2,f3,p,q⟩:=f it (by simp);exact wpAny_pyNext_range_end (I.ok.hd j) a (by have:n<=i:=l;lia) λg C=>⟨rfl,I.turned (λb o c e=>C b o c e) m f1 f3 p q⟩
 self:=λ_ _ _ _ _ a h=>wpAny_pyIter_rangeiter a h
section
variable{X:Cx}{tg:Nx}
def Ki(K:Qe)(tl:TE):TI:=λσ H R=>tl σ H λx H1=>∃a,x=.ref a/\(∃xs,SqL K H1 a xs)/\R (Itl K a) H1
def iTup(K:Qe)(tl:TE):TI:=λσ H R=>tl σ H λx H1=>∃a,x=.ref a/\(∃xs,SqT K H1 a xs)/\R (Itt K a) H1
theorem qx5(f:PE X l tl):PI X tg l (Ki X.K tl):=by
 intro Fx s σ H R I h;refine thn (f Fx s σ H _ I h) λv c d=>?_;obtain⟨x,H1,I1,g,i⟩:=d;obtain⟨a,e,⟨n,j⟩,q⟩:=i;subst e;cases g;obtain⟨k,r,p,t⟩:=I1.list j;refine wpAny_pyIter_list p.isList ?_;refine⟨c.heap.objs.size,[c.heap.objs.size],_,_,H1,rfl,I1.kept λb o e=>zA2 _ e,qal9 a _,⟨_,zAv _ rfl,rfl,rfl⟩,λb m=>?_,q⟩;have e:b=c.heap.objs.size:=by simpa using m
 subst e;exact I1.fpOk (zA3 _) (I1.hok.fresh (zA3 _))
theorem qaX8{l:Nx}{tl:TE}(g:PE X l tl):PI X tg l (iTup X.K tl):=by
 intro Fx s σ H R I h;refine thn (g Fx s σ H _ I h) λv c d=>?_;obtain⟨x,H1,I1,i,j⟩:=d;obtain⟨a,e,⟨n,k⟩,q⟩:=j;subst e;cases i;obtain⟨f,r,p,t⟩:=I1.tuple k;refine wpAny_pyIter_tuple (show c.heap.IsTuple a f.toArray from p) ?_;refine⟨c.heap.objs.size,[c.heap.objs.size],_,_,H1,rfl,I1.kept λb o e=>zA2 _ e,qab4 a _,⟨_,zAv _ rfl,rfl,rfl⟩,λb m=>?_,q⟩;have e:b=c.heap.objs.size:=by simpa using m
 subst e;exact I1.fpOk (zA3 _) (I1.hok.fresh (zA3 _))
theorem qaA7{lo:Int}(I:Rk X Fx σ H s)(h1:-(2 ^ 62)<=lo)(h2:lo<2 ^ 62)(c:-(2 ^ 62)<=hi)(d:hi<2 ^ 62)(q:R (Itr lo (hi-lo).toNat) H):Nr (Nt X.prog X.w) X.A (pyIter (.ref s.heap.objs.size)) (PIE X Fx σ tg R) E {s with heap:=s.heap.push {cls:=.type "range",data:=.fields #[.int lo t,.int hi u,.int 1 v]},toks:=a}:=by
 refine wpAny_pyIter_range (IsRange.new ..) (small_one h1 h2 c d) ?_;have I1:Rk X Fx σ H {s with heap:=s.heap.push {cls:=.type "range",data:=.fields #[.int lo t,.int hi u,.int 1 v]},toks:=a}:=I.kept λb o e=>zA2 _ e;refine⟨(s.heap.push {cls:=.type "range",data:=.fields #[.int lo t,.int hi u,.int 1 v]}).objs.size,[(s.heap.push {cls:=.type "range",data:=.fields #[.int lo t,.int hi u,.int 1 v]}).objs.size],_,_,H,rfl,
  I1.kept λb o e=>zA2 _ e,qab5 _ lo (hi-lo).toNat,?_,λb f=>?_,q⟩
 .have g:lo+((0:Nat):Int)*1=lo:=by simp
  have e2:(((hi-lo).toNat:Nat):Int)-((0:Nat):Int)=Builtin.Range.rangeSize lo hi 1:=by rw[rangeSize_one];split<;>lia
  rw[g,e2];exact zAv _ rfl
 have e:b=(s.heap.push {cls:=.type "range",data:=.fields #[.int lo t,.int hi u,.int 1 v]}).objs.size:=by simpa using f
 subst e;exact I1.fpOk (zA3 _) (I1.hok.fresh (zA3 _))
def iRng1(ta:TA):TI:=λσ H R=>ta σ H λvs H1=>∃j:Int,vs=[.int j]/\-(2 ^ 62)<=j/\j<2 ^ 62/\R (Itr 0 j.toNat) H1
theorem qU3(d:Gl X "range")(hm:X.mg "range"=none)(f:PA X [a] ta)(g:M8 [a] X.env=[(false,eval a X.env)]:=by rfl):PI X tg (.Call (.Name "range" p) [a] [] pos) (iRng1 ta):=by intro Fx s σ H R I h;refine Call_ (qag5 I d hm boot_range (PyProof.Rows.callWith_type1 (thn (f pos Fx s σ H _ I h) λl m b=>?_) g rfl));obtain⟨n,H1,I1,i,c⟩:=b;obtain⟨j,e,c,q2,q⟩:=c;subst e;cases i with|cons r k=>cases k;obtain⟨t,rfl⟩:=r;exact call_range_1 (qaA7 I1 ⋯ ⋯ c q2 (by simpa using q))
def tFor(wi:TI)(g:TG)(tb:TS):TS:=λD σ H=>wi σ H λJ H1=>∃W:Nat->Nat->St->Hp->Prop,(∃m,W 0 m σ H1)/\∀i m σ H,W i m σ H->(J.stop i H/\D.nx σ H)∨(J.go i H/\∃N:St->Hp->Prop,(∀σ' H',N σ' H'->∃a,a<m/\W (i+1) a σ' H')/\∀x H',J.yld i H x H'->g x σ H' λσ2 H2=>tb {D with nx:=N,ct:=N,bk:=D.nx} σ2 H2)
noncomputable def Lp(fp:List γ)(h:Heap):List (γ×Obj):=fp.filterMap λb=>(h.get? b).map λo=>(b,o)
theorem qq3(a:b∈fp)(e:h.get? b=some o):(b,o)∈Lp fp h:=List.mem_filterMap.mpr ⟨b,a,by rw[e];rfl⟩
theorem qap3(a:p∈Lp fp h):p.1∈fp/\h.get? p.1=some p.2:=by obtain⟨b,c,e⟩:=List.mem_filterMap.mp a;cases q:h.get? b with|none=>rw[q] at e;cases e|some o=>rw[q] at e;have d:=Qc e;subst d;exact⟨c,q⟩
theorem Rk.pinned(I:Rk X Fx σ H s)(f:∀b∈fp,Jb X Fx H b)(g:∀b∈fp,∃o,s.heap.get? b=some o/\∀v,o.data≠.cell v):Rk X (Fx++Lp fp s.heap) σ H s:=I.pins_of λp h=>(zAd.mp h).elim (λz=>I.pin p (zAx _ z)) λz=>by
 obtain⟨a,e⟩:=qap3 z;obtain⟨i,f1,f2,_⟩:=f p.1 a;obtain⟨o,c,d⟩:=g p.1 a;rw[e] at c;cases c;exact⟨e,i,f1,f2,d⟩
theorem Rk.unpinned{pl:List (γ×Obj)}(I:Rk X (Fx++pl) σ H s):Rk X Fx σ H s:=I.pins_of λp a=>I.pin p (zAx _ (zC9 _ a))
theorem qao3(l:PassesOwn (Nt X.prog X.w) X.A X.env X.xe)(F:X.calm=true)(hi:PI X tg iter wi)(O:PG X tg g)(c:PSs X body tb)(P:∀x,Na iter X.env x=pure x:=by intro _;rfl):PS X (.For tg iter body [] pos) (tFor wi g tb):=by
 intro Fx s σ H D I h;refine wpAny_For (thn (hi Fx s σ H _ I h) λv s1 Q=>thn Q λR s2 S=>?_) P;obtain⟨it,p,G,J,H2,e,I2,T,z,f2,W,⟨U,V⟩,turn⟩:=S;subst e;have stat:∀{H':Hp},(∀b∈p,H' b=none)->∀b∈p,Jb X Fx H' b:=λY b c=>⟨Y b c,(f2 b c).2⟩;refine codeAny_forLoop_any (λn K=>∃i σ' H',Rk X Fx σ' H' K/\G i K.heap/\(∀b∈p,H' b=none)/\W i n σ' H') ?_ U ⟨0,σ,H2,I2,z,λb c=>(f2 b c).1,V⟩;rintro n L ⟨i,σ3,H3,I3,q,t,Z⟩;rcases turn i n σ3 H3 Z with⟨stop,qn⟩|⟨go,N,hN,step⟩;{refine Nn l (thn (T.done X rfl rfl rfl F i Fx L σ3 H3 X.xe I3 (stat t) q stop) λr s4 a=>?_);obtain⟨B,I4⟩:=a;subst B;exact wpAny_execs_nil ⟨σ3,H3,I4,qn⟩};refine Nn l (thn (T.item X rfl rfl rfl F i Fx L σ3 H3 X.xe I3 (stat t) q go) λr s4 a=>?_);obtain⟨u,B,h4⟩:=a;subst B;refine Nn l (thn h4 λ_ M a=>?_);obtain⟨x,H5,I5,r5,y5,k,C⟩:=a;refine Nn l (thn (O _ M σ3 H5 x u _ (I5.pinned (stat C) (T.obj _ _ k)) r5 (step x H5 y5)) λ_ s6 a=>?_);obtain⟨σ6,H6,I6,q6⟩:=a;refine Nn l (thn (c _ s6 σ6 H6 _ I6 q6) λf E j=>?_);have again:∀{σ7:St}{H7:Hp},Rk X (Fx++Lp p M.heap) σ7 H7 E->N σ7 H7->∃m,m<n/\∃i σ' H',Rk X Fx σ' H' E/\G i E.heap/\(∀b∈p,H' b=none)/\W i m σ' H':=λ{σ7 H7} I7 y=>by obtain⟨m',hm,w7⟩:=hN σ7 H7 y;refine⟨m',hm,i+1,σ7,H7,I7.unpinned,T.keep _ _ _ k λb c o e=>(I7.pin (b,o) (zAx _ (zAx _ (qq3 c e)))).1,λb c=>?_,w7⟩;obtain⟨o,e,d⟩:=T.obj _ _ k b c;exact(I7.pin (b,o) (zAx _ (zAx _ (qq3 c e)))).2.1
 cases f with|next=>obtain⟨σ7,H7,I7,y⟩:=j;exact again I7 y|cont=>obtain⟨σ7,H7,I7,y⟩:=j;exact again I7 y|brk=>obtain⟨σ7,H7,I7,j⟩:=j;exact⟨σ7,H7,I7.unpinned,j⟩|ret v=>obtain⟨x7,σ7,H7,I7,r7,j⟩:=j;exact⟨x7,σ7,H7,I7.unpinned,r7,j⟩
end
theorem qai5{K:Qe}{g:TG}{tb:TS}{D:By}{n:St}(Pv:Nat->St->Hp->Prop)(d:Pv 0 n H)(f:∀i n H,i<=xs.length->Pv i n H->SqL K H a xs)(h:∀i x n H,xs[i]?=some x->Pv i n H->g x n H λσ2 H2=>tb {D with nx:=Pv (i+1),ct:=Pv (i+1),bk:=D.nx} σ2 H2)(j:∀n H,Pv xs.length n H->D.nx n H):∃W:Nat->Nat->St->Hp->Prop,(∃m,W 0 m n H)/\∀i m n H,W i m n H->((Itl K a).stop i H/\D.nx n H)∨((Itl K a).go i H/\∃N:St->Hp->Prop,(∀n' H',N n' H'->∃c,c<m/\W (i+1) c n' H')/\∀x H',(Itl K a).yld i H x H'->g x n H' λσ2 H2=>tb {D with nx:=N,ct:=N,bk:=D.nx} σ2 H2):=by refine⟨λi m n H=>m=xs.length-i/\i<=xs.length/\Pv i n H,⟨xs.length,by simp,zBg _,d⟩,?_⟩;rintro i m n H ⟨rfl,k,p⟩;have q:=f i n H k p;by_cases b:i<xs.length;{refine .inr ⟨⟨xs,xs[i],q,by simp[b]⟩,Pv (i+1),λn' H' l=>⟨xs.length-(i+1),⋯,rfl,b,l⟩,λx H' y=>?_⟩;obtain⟨e,y⟩:=y;subst e;exact h i x n _ (y xs q) p};have e:i=xs.length:=⋯;subst e;exact .inl ⟨⟨xs,q,zA3 _⟩,j n H p⟩
theorem qaS8{K:Qe}{a:γ}{xs:List V}{g:TG}{tb:TS}{D:By}{n:St}{H:Hp}(Pv:Nat->St->Hp->Prop)(d:Pv 0 n H)(f:∀i n H,i<=xs.length->Pv i n H->SqT K H a xs)(h:∀i x n H,xs[i]?=some x->Pv i n H->g x n H λσ2 H2=>tb {D with nx:=Pv (i+1),ct:=Pv (i+1),bk:=D.nx} σ2 H2)(j:∀n H,Pv xs.length n H->D.nx n H):∃W:Nat->Nat->St->Hp->Prop,(∃m,W 0 m n H)/\∀i m n H,W i m n H->((Itt K a).stop i H/\D.nx n H)∨((Itt K a).go i H/\∃N:St->Hp->Prop,(∀n' H',N n' H'->∃c,c<m/\W (i+1) c n' H')/\∀x H',(Itt K a).yld i H x H'->g x n H' λσ2 H2=>tb {D with nx:=N,ct:=N,bk:=D.nx} σ2 H2):=by refine⟨λi m n H=>m=xs.length-i/\i<=xs.length/\Pv i n H,⟨xs.length,by simp,zBg _,d⟩,?_⟩;rintro i m n H ⟨rfl,k,p⟩;have q:=f i n H k p;by_cases b:i<xs.length;{refine .inr ⟨⟨xs,xs[i],q,by simp[b]⟩,Pv (i+1),λn' H' l=>⟨xs.length-(i+1),⋯,rfl,b,l⟩,λx H' y=>?_⟩;obtain⟨e,y⟩:=y;subst e;exact h i x n _ (y xs q) p};have e:i=xs.length:=⋯;subst e;exact .inl ⟨⟨xs,q,zA3 _⟩,j n H p⟩
theorem qaq6{lo:Int}{g:TG}{tb:TS}{D:By}(Pv:Nat->St->Hp->Prop)(c:Pv 0 k H)(d:∀i k H,i<n->Pv i k H->g (.int (lo+i)) k H λσ2 H2=>tb {D with nx:=Pv (i+1),ct:=Pv (i+1),bk:=D.nx} σ2 H2)(f:∀k H,Pv n k H->D.nx k H):∃W:Nat->Nat->St->Hp->Prop,(∃m,W 0 m k H)/\∀i m k H,W i m k H->((Itr lo n).stop i H/\D.nx k H)∨((Itr lo n).go i H/\∃N:St->Hp->Prop,(∀k' H',N k' H'->∃b,b<m/\W (i+1) b k' H')/\∀x H',(Itr lo n).yld i H x H'->g x k H' λσ2 H2=>tb {D with nx:=N,ct:=N,bk:=D.nx} σ2 H2):=by refine⟨λi m k H=>m=n-i/\i<=n/\Pv i k H,⟨n,by simp,zBg _,c⟩,?_⟩;rintro i m k H ⟨rfl,j,p⟩;by_cases a:i<n;{refine .inr ⟨a,Pv (i+1),λk' H' h=>⟨n-(i+1),⋯,rfl,a,h⟩,λx H' y=>?_⟩;obtain⟨e,y⟩:=y;subst e y;exact d i k _ a p};have e:i=n:=⋯;subst e;exact .inl ⟨zA3 _,f k H p⟩
abbrev R2:=V->V->Hp->VK->Prop
def OpR(X:Cx)(f:V'->V'->Sem V')(r:R2):Prop:=∀(Fx:List (γ×Obj))(s:Sh)(a:St)(H:Hp)(x y:V)(v u:V')(Q:VK),Rk X Fx a H s->Rh x v->Rh y u->r x y H Q->Nr (Nt X.prog X.w) X.A (f v u) (EP X Fx a Q) X.xe s
def UnR(X:Cx)(f:V'->Sem V')(r:V->Hp->VK->Prop):Prop:=∀(Fx:List (γ×Obj))(s:Sh)(a:St)(H:Hp)(x:V)(v:V')(Q:VK),Rk X Fx a H s->Rh x v->r x H Q->Nr (Nt X.prog X.w) X.A (f v) (EP X Fx a Q) X.xe s
def CallR(X:Cx)(f:V')(r:List V->Hp->VK->Prop):Prop:=∀(Fx:List (γ×Obj))(s:Sh)(a:St)(H:Hp)(xs:List V)(us:List V')(Q:VK),Rk X Fx a H s->Ri xs us->r xs H Q->Nr (Nt X.prog X.w) X.A (call f us) (EP X Fx a Q) X.xe s
def TruR(X:Cx)(r:V->Hp->(Bool->Hp->Prop)->Prop):Prop:=∀(Fx:List (γ×Obj))(s:Sh)(a:St)(H:Hp)(x:V)(v:V')(Q:Bool->Hp->Prop),Rk X Fx a H s->Rh x v->r x H Q->Nr (Nt X.prog X.w) X.A (truthy v) (TP X Fx a Q) X.xe s
def tOp(r:R2)(ta tb:TE):TE:=λa H Q=>ta a H λx H1=>tb a H1 λy H2=>r x y H2 Q
def tUn(r:V->Hp->VK->Prop)(ta:TE):TE:=λa H Q=>ta a H λx H1=>r x H1 Q
def rI(C:Int->Int->Prop)(g:Int->Int->V):R2:=λx y H Q=>∃i j,x=.int i/\y=.int j/\C i j/\Q (g i j) H
def rI0(g:Int->Int->V):R2:=λx y H Q=>∃i j,x=.int i/\y=.int j/\Q (g i j) H
def rU(g:Int->V):V->Hp->VK->Prop:=λx H Q=>∃i,x=.int i/\Q (g i) H
section
variable{X:Cx}{a b:Nx}{m o:TE}{n:Pos}
theorem binT(c:PE X a m)(d:PE X b o){R:V->V->Hp->Prop}(I:Rk X Fx l H s)(h:m l H λx H1=>o l H1 λy H2=>R x y H2){f:V'->V'->Sem V'}(e:∀v u s2 x y H2,Rk X Fx l H2 s2->Rh x v->Rh y u->R x y H2->Nr (Nt X.prog X.w) X.A (f v u) Q X.xe s2):Nr (Nt X.prog X.w) X.A (eval a X.env) (λv s₁=>Nr (Nt X.prog X.w) X.A (eval b X.env) (λu s₂=>Nr (Nt X.prog X.w) X.A (f v u) Q X.xe s₂) X.xe s₁) X.xe s:=by exact thn (c Fx s l H _ I h) λv g ⟨x,H1,I1,i,j⟩=>(thn (d Fx g l H1 _ I1 j) λu s2 ⟨y,H2,I2,k,q2⟩=>(e v u s2 x y H2 I2 i k q2))
theorem pe_op{op:Operator}(c:OpR X (Nq op) r)(d:PE X a m)(e:PE X b o):PE X (.BinOp a op b n) (tOp r m o):=by intro Fx s l H Q I h;exact wpAny_BinOp (binT d e I h λv u f x y H2 I2 g i q=>c Fx f l H2 x y v u Q I2 g i q)
theorem pe_un{op:UnaryOp}(b:UnR X (unaryOp op) r)(c:PE X a m):PE X (.UnaryOp op a n) (tUn r m):=by intro Fx s l H Q I h;exact UnaryOp_ (thn (c Fx s l H _ I h) λv d ⟨x,H1,I1,e,f⟩=>b Fx d l H1 x v Q I1 e f)
theorem opI{g:Int->Int->Int}(rule:∀(i j:Int)(t u:Tok)(s:Sh)(Q:V'->Sh->Prop)(E:V'->Sh->Prop),C i j->Q (.int (g i j) s.toks) {s with toks:=s.toks+1}->Nr (Nt X.prog X.w) X.A (f (.int i t) (.int j u)) Q E s):OpR X f (rI C λi j=>.int (g i j)):=by intro Fx s l H x y v u Q I a b h;obtain⟨i,j,rfl,rfl,c,q⟩:=h;obtain⟨t,rfl⟩:=a;obtain⟨d,rfl⟩:=b;exact rule i j t d s _ _ c ⟨.int (g i j),H,I.tok _,⟨_,rfl⟩,q⟩
theorem opI0{g:Int->Int->Int}(rule:∀(i j:Int)(t u:Tok)(s:Sh)(Q:V'->Sh->Prop)(E:V'->Sh->Prop),Q (.int (g i j) s.toks) {s with toks:=s.toks+1}->Nr (Nt X.prog X.w) X.A (f (.int i t) (.int j u)) Q E s):OpR X f (rI0 λi j=>.int (g i j)):=by intro Fx s l H x y v u Q I a b h;obtain⟨i,j,rfl,rfl,q⟩:=h;obtain⟨t,rfl⟩:=a;obtain⟨c,rfl⟩:=b;exact rule i j t c s _ _ ⟨.int (g i j),H,I.tok _,⟨_,rfl⟩,q⟩
theorem opB0{g:Int->Int->Bool}(rule:∀(i j:Int)(t u:Tok)(s:Sh)(Q:V'->Sh->Prop)(E:V'->Sh->Prop),Q (.bool (g i j)) s->Nr (Nt X.prog X.w) X.A (f (.int i t) (.int j u)) Q E s):OpR X f (rI0 λi j=>.bl (g i j)):=by intro Fx s l H x y v u Q I a b h;obtain⟨i,j,rfl,rfl,q⟩:=h;obtain⟨t,rfl⟩:=a;obtain⟨c,rfl⟩:=b;exact rule i j t c s _ _ ⟨.bl (g i j),H,I,rfl,q⟩
def CPow(i j:Int):Prop:=0<=j/\j<=1000000/\i.natAbs<2 ^ 64
def CMul(i j:Int):Prop:=(-(2 ^ 64)<i/\i<2 ^ 64)∨(-(2 ^ 64)<j/\j<2 ^ 64)
theorem CMul.ok{i j:Int}(h:CMul i j):IntMulOk i j:=by rcases h with⟨h1,h2⟩|⟨h1,h2⟩;{exact .of_left (intBits_le_64 h1 h2)};exact .of_right (intBits_le_64 h1 h2)
theorem qba2:OpR X (Nq .Add) (rI0 λi j=>.int (i+j)):=opI0 λ_ _ _ _ _ _ _ q=>add_int q
theorem qm3:OpR X (Nq .Sub) (rI0 λi j=>.int (i-j)):=opI0 λ_ _ _ _ _ _ _ q=>sub_int q
theorem qaZ5:OpR X (Nq .Mult) (rI CMul λi j=>.int (i*j)):=opI λ_ _ _ _ _ _ _ a q=>mul_int q a.ok
theorem ql6:OpR X (Nq .Mod) (rI (λ_ j=>0<j) λi j=>.int (i%j)):=opI λi j _ _ _ _ _ a q=>by
 have b:=a;exact mod_int' ⋯ (by rw[Int.fmod_eq_emod_of_nonneg i ⋯];exact q)
theorem qaZ4:OpR X (Nq .Pow) (rI CPow λi j=>.int (i ^ j.toNat)):=opI λ_ _ _ _ _ _ _ a q=>pow_int_small a.1 a.2.1 a.2.2 q
theorem unI{g:Int->Int}(rule:∀(i:Int)(t:Tok)(s:Sh)(Q:V'->Sh->Prop)(E:V'->Sh->Prop),Q (.int (g i) s.toks) {s with toks:=s.toks+1}->Nr (Nt X.prog X.w) X.A (f (.int i t)) Q E s):UnR X f (rU λi=>.int (g i)):=by intro Fx s l H x v Q I a h;obtain⟨i,rfl,q⟩:=h;obtain⟨t,rfl⟩:=a;exact rule i t s _ _ ⟨.int (g i),H,I.tok _,⟨_,rfl⟩,q⟩
theorem qaV9:UnR X (unaryOp .USub) (rU λi=>.int (-i)):=unI λ_ _ _ _ _ q=>neg_int q
end
section
variable{X:Cx}{a b c:Nx}{ta tb tc:TE}{pos:Pos}
theorem qaT1{Y:St}{k':Bool}(I:Rk X Fx Y H s)(q:Q (.bl k) H)(e:k=k'):EP X Fx Y Q (.bool k') s:=by subst e;exact⟨.bl k,H,I,rfl,q⟩
theorem op_lt:OpR X (M' .Lt) (rI0 λi j=>.bl (decide (i<j))):=opB0 λ_ _ _ _ _ _ _ q=>lt_int q
theorem Ii:OpR X (M' .LtE) (rI0 λi j=>.bl (decide (i<=j))):=opB0 λ_ _ _ _ _ _ _ q=>le_int q
theorem Gg:OpR X (M' .Gt) (rI0 λi j=>.bl (decide (j<i))):=opB0 λ_ _ _ _ _ _ _ q=>gt_int q
theorem Jh:OpR X (M' .GtE) (rI0 λi j=>.bl (decide (j<=i))):=opB0 λ_ _ _ _ _ _ _ q=>ge_int q
theorem qaZ6:OpR X (M' .Is) (λx y H Q=>y=.non/\Q (.bl (decide (x=.non))) H):=by
 intro Fx s Y H x y v u Q I a b h;obtain⟨rfl,q⟩:=h;cases b;refine is_none_gen (qaT1 I q ?_);cases x<;>first
  |(cases a;rfl)
  |(obtain⟨t,rfl⟩:=a;rfl)
theorem qaP1:OpR X (M' .IsNot) (λx y H Q=>y=.non/\Q (.bl (!decide (x=.non))) H):=by
 intro Fx s Y H x y v u Q I a b h;obtain⟨rfl,q⟩:=h;cases b;refine isnot_none_gen (qaT1 I q ?_);cases x<;>first
  |(cases a;rfl)
  |(obtain⟨t,rfl⟩:=a;rfl)
theorem OpR.or{a:R2}(h:OpR X f r)(h':OpR X f a):OpR X f (λx y H Q=>r x y H Q∨a x y H Q):=by intro Fx s Y H x y v u Q I b c q;rcases q with q|q;{exact h Fx s Y H x y v u Q I b c q};exact h' Fx s Y H x y v u Q I b c q
theorem qb0(b:Nx)(h:op≠.In:=by decide)(h2:op≠.NotIn:=by decide):behindInMarks op b=false:=by
 have a:(op==CmpOp.In)=false:=by grind
 have e2:(op==CmpOp.NotIn)=false:=by grind
 cases b<;>simp[behindInMarks,a,e2]
theorem qaO1(c:OpR X (M' op) r)(d:PE X a ta)(e:PE X b tb)(hm:behindInMarks op b=false):PE X (.Compare a [op] [b] pos) (tOp r ta tb):=by intro Fx s Y H Q I h;exact wpAny_Compare1 (binT d e I h λv u f x y H2 I2 g i q=>c Fx f Y H2 x y v u Q I2 g i q) hm
def Lq(t:TE):TT:=λY H Q=>t Y H λx H'=>∃k,x=.bl k/\Q k H'
theorem qaL8(d:OpR X (M' op) r)(f:PE X a ta)(g:PE X b tb)(hm:behindInMarks op b=false):PT X (.Compare a [op] [b] pos) (Lq (tOp r ta tb)):=by
 intro Fx s Y H Q I h;refine wpAny_isTrue_Compare1 (thn (f Fx s Y H _ I h) λv i ⟨x,H1,I1,j,l⟩=>thn (g Fx i Y H1 _ I1 l) λu m ⟨y,H2,I2,n,q2⟩=>
  thn (d Fx m Y H2 x y v u _ I2 j n q2) λc q ⟨z,H3,I3,o,k,e,p⟩=>?_) hm
 subst e;cases o;exact Nd ⟨H3,I3,p⟩
def qay9(r a:R2)(ta tb tc:TE):TE:=λY H Q=>ta Y H λx H1=>tb Y H1 λy H2=>r x y H2 λz H3=>∃k,z=.bl k/\(if k=true then tc Y H3 λb H4=>a y b H4 Q else Q (.bl false) H3)
theorem qaC0{i:R2}(m:OpR X (M' op) r)(g:OpR X (M' f) i)(n:PE X a ta)(o:PE X b tb)(p:PE X c tc)(hm:lastMarks [op,f] [b,c]=false:=by with_unfolding_all rfl):PE X (.Compare a [op,f] [b,c] pos) (qay9 r i ta tb tc):=by
 intro Fx s Y H Q I h;refine Compare_chain (thn (n Fx s Y H _ I h) λv q ⟨x,H1,I1,t,w⟩=>chain_link (thn (o Fx q Y H1 _ I1 w) λu A ⟨y,H2,I2,j,q2⟩=>
  thn (m Fx A Y H2 x y v u _ I2 t j q2) λd B ⟨z,H3,I3,C,k,e,l⟩=>?_)) hm
 subst e;cases C;refine Nd ?_;cases k with|false=>exact ite_ff ⟨.bl false,H3,I3,rfl,l⟩|true=>exact ite_tt (chain_last (thn (p Fx B Y H3 _ I3 l) λD E ⟨F,H4,I4,G,J⟩=>g Fx E Y H4 y F u D Q I4 j G J))
theorem qaA8{f:CmpOp}{r j:R2}(n:OpR X (M' op) r)(i:OpR X (M' f) j)(o:PE X a ta)(p:PE X b tb)(q:PE X c tc)(hm:lastMarks [op,f] [b,c]=false:=by with_unfolding_all rfl):PT X (.Compare a [op,f] [b,c] pos) (Lq (qay9 r j ta tb tc)):=by
 intro Fx s Y H Q I h;refine isTrue_chain (thn (o Fx s Y H _ I h) λv t ⟨x,H1,I1,w,A⟩=>test_link (thn (p Fx t Y H1 _ I1 A) λu B ⟨y,H2,I2,l,q2⟩=>
  thn (n Fx B Y H2 x y v u _ I2 w l q2) λd C ⟨z,H3,I3,D,k,e,m⟩=>?_)) hm
 subst e;cases D;refine Nd ?_;cases k with|false=>obtain⟨P,E,F⟩:=m;cases E;exact ite_ff ⟨H3,I3,F⟩|true=>refine ite_tt (test_last (thn (q Fx C Y H3 _ I3 m) λG J g=>?_));obtain⟨K,H4,I4,L,M⟩:=g;refine thn (i Fx J Y H4 y K u G _ I4 l L M) λR S g=>?_;obtain⟨T,H5,I5,N,U,e2,O⟩:=g;subst e2;cases N;exact Nd ⟨H5,I5,O⟩
def TruV(K:Qe)(x:V)(H:Hp)(k:Bool):Prop:=match x with|.non=>k=false|.bl b=>k=b|.int i=>k=(i != 0)|.str y=>y.length<=M9/\k=((y.length:Int) != 0)|.byt y=>y.size<=M9/\k=((y.size:Int) != 0)|.ref p=>(∃xs,SqL K H p xs/\k=!xs.isEmpty)∨(∃xs,SqT K H p xs/\k=!xs.isEmpty)∨∃kvs,H p=some (.dK kvs)/\k=!kvs.isEmpty|_=>False
theorem qah2{Z:Type}{kvs:List (Z×V)}{vs:List (Z×V')}(r:KV kvs vs):(!vs.isEmpty)=!kvs.isEmpty:=by cases r<;>rfl
theorem qK7{xs:List V}{its:List V'}(r:Ri xs its):(!its.toArray.isEmpty)=!xs.isEmpty:=by cases r<;>simp
theorem qK3:(M9:Nat)<2 ^ 63:=by rw[Ng];decide
theorem qaW2:TruR X (λx H Q=>∃k,TruV X.K x H k/\Q k H):=by intro Fx s Y H x v Q I d h;obtain⟨k,e,q⟩:=h;have u:=qK3;have z:M9=16777216:=Ng;cases x with|non=>cases d;have a:k=false:=e;subst a;exact truthy_none ⟨H,I,q⟩|bl b=>cases d;have a:k=b:=e;subst a;exact Nd ⟨H,I,q⟩|int i=>obtain⟨t,rfl⟩:=d;have a:k=(i != 0):=e;subst a;exact PySem.P.truthy_int ⟨H,I,q⟩|str y=>obtain⟨t,rfl⟩:=d;obtain⟨n,a⟩:y.length<=M9/\k=((y.length:Int) != 0):=e;subst a;exact PySem.P.truthy_str ⋯ ⟨H,I.tok _,q⟩|byt y=>obtain⟨t,rfl⟩:=d;obtain⟨n,a⟩:y.size<=M9/\k=((y.size:Int) != 0):=e;subst a;exact W.truthy_bytes ⋯ ⟨H,I.tok _,q⟩|ref p=>cases d;have a:=e;rcases a with⟨xs,hx,a⟩|⟨xs,hx,a⟩|⟨kvs,hx,a⟩;{subst a;obtain⟨g,r,j,l⟩:=I.list hx;have c:=r.length;exact wpAny_truthy_list j.isList (by simp only[zA4];lia) ⟨H,I.tok _,by rw[qK7 r];exact q⟩};{subst a;obtain⟨g,r,j,l⟩:=I.tuple hx;have c:=r.length;exact truthy_tuple j (by simp only[zA4];lia) ⟨H,I.tok _,by rw[qK7 r];exact q⟩};subst a;obtain⟨l,o,f,r,m⟩:kvs.length<=M9/\(p==Nj)=false/\∃f,KV kvs f/\s.heap.DictOf (qd0 X.prog X.w) p f:=I.hok p _ hx;have c:kvs.length=f.length:=Paired.length r;exact wpAny_truthy_dict o m ⋯ ⟨H,I.tok _,by rw[qah2 r];exact q⟩|_=>exact(show False from e).elim
theorem qaf0:OpR X (Nq .Add) (λx y H Q=>∃i j,x=.str i/\y=.str j/\i.length+j.length<=M9/\Q (.str (i++j)) H):=by intro Fx s Y H x y v u Q I a b h;obtain⟨i,j,rfl,rfl,c,q⟩:=h;obtain⟨t,rfl⟩:=a;obtain⟨d,rfl⟩:=b;exact add_str (λd e=>⟨.str (i++j),H,I.tok _,⟨_,rfl⟩,q⟩) c
theorem B7(r:Ri [x] us):∃u,us=[u]/\Rh x u:=by cases r with|cons a b=>cases b;exact⟨_,rfl,a⟩
theorem Ji(r:Ri [x,y] us):∃u a,us=[u,a]/\Rh x u/\Rh y a:=by cases r with|cons b c=>cases c with|cons d e=>cases e;exact⟨_,_,rfl,b,d⟩
theorem qaI0:CallR X (.builtin "abs") (λxs H Q=>∃i,xs=[.int i]/\Q (.int (if i<0 then -i else i)) H):=by intro Fx s Y H xs a Q I r h;obtain⟨i,rfl,q⟩:=h;obtain⟨u,rfl,t,rfl⟩:=B7 r;exact call_abs_int λu b=>⟨.int (if i<0 then -i else i),H,I.tok _,⟨_,rfl⟩,q⟩
theorem qX4(b:X.calm=true):CallR X (.builtin "max") (λxs H Q=>∃i j,xs=[.int i,.int j]/\Q (.int (if j>i then j else i)) H):=by intro Fx s Y H xs c Q I r h;obtain⟨i,j,rfl,q⟩:=h;obtain⟨u,d,rfl,⟨t,rfl⟩,⟨e,rfl⟩⟩:=Ji r;refine max_two_ints (I.ok.hd b) λf g k=>⟨_,H,I.kept k,?_,q⟩;by_cases a:j>i;{rw[if_pos a,if_pos a];exact⟨_,rfl⟩};rw[if_neg a,if_neg a];exact⟨_,rfl⟩
theorem qH7(b:X.calm=true):CallR X (.builtin "min") (λxs H Q=>∃i j,xs=[.int i,.int j]/\Q (.int (if j<i then j else i)) H):=by intro Fx s Y H xs c Q I r h;obtain⟨i,j,rfl,q⟩:=h;obtain⟨u,d,rfl,⟨t,rfl⟩,⟨e,rfl⟩⟩:=Ji r;refine min_two_ints (I.ok.hd b) λf g k=>⟨_,H,I.kept k,?_,q⟩;by_cases a:j<i;{rw[if_pos a,if_pos a];exact⟨_,rfl⟩};rw[if_neg a,if_neg a];exact⟨_,rfl⟩
theorem qX5:CallR X (.type "int") (λxs H Q=>(∃i,xs=[.int i]/\Q (.int i) H)∨∃k,xs=[.bl k]/\Q (.int (if k then 1 else 0)) H):=by intro Fx s Y H xs b Q I r h;rcases h with⟨i,rfl,q⟩|⟨k,rfl,q⟩;{obtain⟨u,rfl,t,rfl⟩:=B7 r;exact call_int_int ⟨.int i,H,I,⟨_,rfl⟩,q⟩};obtain⟨u,rfl,a⟩:=B7 r;cases a;exact call_int_bool ⟨.int (if k then 1 else 0),H,I.tok _,⟨_,rfl⟩,q⟩
end
structure ObjM(h:Heap)(x dx C:γ)(mA:Str->Option V'):Prop where
 obj:h.get? x=some (W.instObj C dx)
 ns:h.Ns1 dx mA
 ne:dx≠x
theorem qv5{h:Heap}(n:h.Ns1 dx mA):∃od,h.get? dx=some od/\∀name,W.lookIn name od=some (mA name):=by
 obtain⟨o,c,l,d,f,g,_,i⟩:=n;refine⟨o,d,λname=>?_⟩;have e:=i name;unfold nsFind findBy at e;rw[<-Array.find?_toList] at e;unfold W.lookIn;rw[f];dsimp only;split;{rename_i y q;rw[q] at e;exact congrArg some e};rename_i q;rw[q] at e;have a:c.toList.any (·.refKey)=false:=by rw[List.any_eq_false];intro y j;obtain⟨z,t,b⟩:=g y (Array.mem_toList_iff.mp j);simp[DictEntry.refKey,b]
 have k:¬c.toList.any (·.refKey)=true:=by rw[a];exact zA8
 rw[if_neg k];exact congrArg some e
theorem ObjM.look(I:ObjM h x dx C mA):∃od,W.InstAt h x (W.instObj C dx) C (some od)/\∀name,W.lookIn name od=some (mA name):=let ⟨od,ho,hl⟩:=qv5 I.ns
 ⟨od,⟨I.obj,rfl,rfl,ho⟩,hl⟩
section
variable{prog:Nu}{w:Nw}{A:Nv}{E:V'->Sh->Prop}{s:Sh}{K:Qe}{x B C f:γ}{z:Str->Option V'}{name:Str}{v:V'}
theorem qaS3(X:K.In s.heap)(I:ObjM s.heap x B C z)(b:W.plainGet K C name=true)(c:W.hasDictIn K C=true)(d:W.findIn K (.ref C) name=some none)(e:z name=some v)(a:W.handedIn v=true)(h:Q v {s with toks:=s.toks+1}):Nr (Nt prog w) A (getAttr (.ref x) name expr) Q E s:=by obtain⟨g,J,f⟩:=I.look;exact W.get_value X J (W.plainGet_of b).1 (W.findObj_own c d rfl (by rw[f,e])) a h
theorem qaF6(X:K.In s.heap)(I:ObjM s.heap x B C z)(a:W.plainGet K C name=true)(b:W.findIn K (.ref C) name=some (some (.ref f)))(c:W.isFn K (.ref f)=true)(d:z name=none)(h:Q (.ref f,[.ref x]) s):Nr (Nt prog w) A (getMethod (.ref x) name pl) Q E s:=by obtain⟨e,J,g⟩:=I.look;exact W.method_fn X J (W.plainGet_of a).1 (W.plainGet_of a).2 b (zBl.mp c) (by show (W.lookIn name e).map (·.isSome)=some false;rw[g,d];rfl) h
theorem qaK4(X:K.In s.heap)(I:ObjM s.heap x B C z)(i:W.findIn K (.ref C) "__setattr__"=some (some (.builtin "object.__setattr__")))(j:W.plainOver K C=true)(k:W.takerIn K C name=some none)(l:W.hasDictIn K C=true)(m:PySem.Within z ns)(hsz:ns.length<=M9)(h:∀h',ObjM h' x B C (λy=>if y=name then some v else z y)->Heap.SameBut B s.heap h'->Q () {s with heap:=h',toks:=s.toks+2}):Nr (Nt prog w) A (setAttr (.ref x) name v) Q E s:=by obtain⟨q,J,r⟩:=I.look;refine W.set_plain X J i (W.osa_open X J j k λb=>?_);obtain⟨t,n,d⟩:=W.any_some l;refine J' (M7 (J' (J' (wpAny_loadPart (I.obj) (J' (W.Looks.here (W.looks_clsIn X n) ?_))))));rw[d];refine M7 (J' (M7 (J' ?_)));refine wpAny_nsSet1 I.ns λh' a c=>?_;obtain⟨u,o,p,e,f,g⟩:=a.count (PySem.Within.cons name v m);refine J' (wpAny_lookBehind e (by rw[f];exact pastItsLine_dict (zA7 g (by grind))) ?_);exact M7 (h _ ⟨(c.2 _ (Ne.symm I.ne)).trans I.obj,a,I.ne⟩ c)
theorem qaE1(X:K.In s.heap)(hm:W.makesIn K C=true)(hi:W.findIn K (.ref C) "__init__"=some (some (.ref f)))(a:W.typeIn K (.ref f)=some (.type "function"))(h:codeAny (Nt prog w) (A.under (.builtin "type.__call__" ⟨.ref C::vs,kw⟩)) (.call (.ref f) ⟨.ref (s.heap.objs.size+1)::vs,kw⟩) (W.InitBack (s.heap.objs.size+1) R)
 {s with heap:=(s.heap.push W.emptyDict).push (W.instObj C s.heap.objs.size)}):codeAny (Nt prog w) A (.call (.ref C) ⟨vs,kw⟩) R s:=by obtain⟨b,g,d,t,c⟩:=s;exact W.make_core (W.makes_of X hm) (W.looks_findIn X hi) (λself=>W.bind_fn X self a) (.inl rfl) h
end
noncomputable def Bm(f:Str)(v:V):List (Str×V)->List (Str×V)|[]=>[(f,v)]|(g,x)::r=>if g=f then (g,v)::r else (g,x)::Bm f v r
theorem qs8(f g:Str)(v:V):∀fs:List (Str×V),(Bm f v fs).lookup g=if g=f then some v else fs.lookup g|[]=>by show Oe g [(f,v)]=_;by_cases h:g=f;{have b:=zBl.mpr h;simp only[Oe,b,if_pos h]};simp only[Oe,(zBr.mpr h),if_neg h]|(k,x)::r=>by rw[show Bm f v ((k,x)::r)=(if k=f then (k,v)::r else (k,x)::Bm f v r) from rfl];by_cases a:k=f;{rw[if_pos a];by_cases h:g=k;{simp only[Oe,(zBl.mpr h),if_pos (h.trans a)]};simp only[Oe,(zBr.mpr h),if_neg (λe:g=f=>h (e.trans a.symm))]};rw[if_neg a];by_cases h:g=k;{simp only[Oe,(zBl.mpr h),if_neg (λe:g=f=>a (h.symm.trans e))]};simp only[Oe,(zBr.mpr h)];exact(qs8 f g v r)
theorem qq7(f:Str)(v:V):∀fs:List (Str×V),f∈(Bm f v fs).map (·.1)/\∀g,g∈fs.map (·.1)->g∈(Bm f v fs).map (·.1)|[]=>⟨by simp[Bm],λg h=>by simp at h⟩|(k,x)::r=>by obtain⟨b,c⟩:=qq7 f v r;rw[show Bm f v ((k,x)::r)=(if k=f then (k,v)::r else (k,x)::Bm f v r) from rfl];by_cases a:k=f;{rw[if_pos a];subst a;exact⟨by simp,λg h=>by simpa using h⟩};rw[if_neg a];refine⟨?_,λg h=>?_⟩;{rw[zAw];exact zA6 _ b};rw[zAw] at h ⊢;rcases zAl.mp h with e|e;{exact zAl.mpr (.inl e)};exact zA6 _ (c g e)
theorem qs9(f:Str)(v:V):∀fs:List (Str×V),(Bm f v fs).length<=fs.length+1|[]=>by simp[Bm]|(k,x)::r=>by have b:=qs9 f v r;rw[show Bm f v ((k,x)::r)=(if k=f then (k,v)::r else (k,x)::Bm f v r) from rfl];by_cases a:k=f;{rw[if_pos a,zAp,zAp];lia};rw[if_neg a,zAp,zAp];lia
theorem RelO.some_of(r:RelO (some v) o):∃u,o=some u/\Rh v u:=by cases o with|none=>exact(show False from r).elim|some u=>exact⟨u,rfl,r⟩
theorem RelO.none_of(r:RelO none o):o=none:=by cases o with|none=>rfl|some u=>exact(show False from r).elim
theorem qV8(r:Rh v u):W.handedIn u=true:=by cases v with|non=>cases (show u=P0 from r);rfl|bl b=>cases (show u=P4 b from r);rfl|int i=>obtain⟨t,e⟩:=(show ∃t,u=P1 i t from r);cases e;rfl|str x=>obtain⟨t,e⟩:=(show ∃t,u=P5 x t from r);cases e;rfl|byt b=>obtain⟨t,e⟩:=(show ∃t,u=Qa b t from r);cases e;rfl|flt b=>obtain⟨t,e⟩:=(show ∃t,u=P7 b t from r);cases e;rfl|ref a=>cases (show u=Pz a from r);rfl|ty n=>cases (show u=P6 n from r);rfl
section
variable{P:Nu}{w:Nw}{H:Hp}{h:Heap}{a C i:γ}{fs:List (Str×V)}
theorem qV6(b:HOk P w H h)(e:H a=some (.ins C i fs)):∃mA,ObjM h a i C mA/\(∀f,RelO (fs.lookup f) (mA f))/\PySem.Within mA (fs.map (·.1))/\fs.length<=1000/\H i=some (.own a):=by obtain⟨d,z,c,g,mA,n,r,q⟩:=(show ObjOk P w H h a (.ins C i fs) from b a _ e);exact⟨mA,⟨g,n,c⟩,r,q,z,d⟩
end
structure Cls(K:Qe)(C:γ):Prop where
 pg:W.plainGet K C Str.empty=true
 hd:W.hasDictIn K C=true
 po:W.plainOver K C=true
 sa:W.findIn K (.ref C) "__setattr__"=some (some (.builtin "object.__setattr__"))
theorem Cls.get{K:Qe}(c:Cls K C)(f:Str):W.plainGet K C f=true:=c.pg
def qd1(K:Qe)(C:γ)(f:Str):Prop:=W.findIn K (.ref C) f=some none
theorem qd1.taker{K:Qe}(n:qd1 K C f):W.takerIn K C f=some none:=by unfold W.takerIn;rw[show W.findIn K (.ref C) f=some none from n];rfl
structure Lr(K:Qe)(C:γ)(m:Str)(f:γ):Prop where
 at_:W.findIn K (.ref C) m=some (some (.ref f))
 fn:W.isFn K (.ref f)=true
 kp:W.keepIn K (.ref f)=true
section
variable{X:Cx}{F:List (γ×Obj)}{D:St}{H:Hp}{s:Sh}{a C G:γ}{fs:List (Str×V)}{f:Str}{v:V}{A:Nv}{E:V'->Sh->Prop}
theorem qah9(I:Rk X F D H s)(e:H a=some (.ins C G fs))(c:Cls X.K C)(n:qd1 X.K C f)(l:fs.lookup f=some v)(h:∀u s',Rk X F D H s'->Rh v u->Q u s'):Nr (Nt X.prog X.w) A (getAttr (.ref a) f b) Q E s:=by obtain⟨i,O,r,_,_,_⟩:=qV6 I.hok e;obtain⟨u,g,d⟩:=RelO.some_of (by rw[<-l];exact r f);exact qaS3 I.kIn O (c.get f) c.hd n g (qV8 d) (h u _ (I.tok _) d)
theorem qL1(I:Rk X F D H s)(e:H a=some (.ins C G fs))(c:Cls X.K C)(k:Lr X.K C m g)(l:fs.lookup m=none)(h:Q (.ref g,[.ref a]) s):Nr (Nt X.prog X.w) A (getMethod (.ref a) m pl) Q E s:=by obtain⟨d,O,r,_,_,_⟩:=qV6 I.hok e;have b:=RelO.none_of (by rw[<-l];exact r m);exact qaF6 I.kIn O (c.get m) k.at_ k.fn b h
theorem qac8(I:Rk X F D H s)(e:H a=some (.ins C G fs))(c:Cls X.K C)(n:qd1 X.K C f)(B:fs.length<1000)(k:Rh y u)(h:∀s',Rk X F D (upd H a (.ins C G (Bm f y fs))) s'->Q () s'):Nr (Nt X.prog X.w) A (setAttr (.ref a) f u) Q E s:=by
 obtain⟨d,O,r,i,_,j⟩:=qV6 I.hok e;have l:(fs.map (·.1)).length<=M9:=by rw[zAk,Ng];lia
 refine qaK4 I.kIn O c.sa c.po n.taker c.hd i l λm O' p=>h _ ?_;have t:∃o,m.get? G=some o:=let ⟨o,_,_,e',_⟩:=O'.ns;⟨o,e'⟩
 refine I.write (by rw[e];exact True.intro) (.inr j) (λb q v z=>(p.2 b v).trans z) t ?_;refine⟨by rw[qb2 O.ne];exact j,?_,O.ne,O'.obj,_,O'.ns,λg=>?_,λg x=>?_⟩;{have:=qs9 f y fs;lia};{show RelO ((Bm f y fs).lookup g) (if g=f then some u else d g);rw[qs8];by_cases q:g=f;{rw[if_pos q,if_pos q];exact k};rw[if_neg q,if_neg q];exact r g};by_cases q:g=f;{rw[q];exact(qq7 f y fs).1};refine(qq7 f y fs).2 g (i g λz=>x ?_);show (if g=f then some u else d g)=none;rw[if_neg q];exact z
theorem Rk.made(I:Rk X F D H s):Rk X F D (upd (upd H s.heap.objs.size (.own (s.heap.objs.size+1))) (s.heap.objs.size+1) (.ins C s.heap.objs.size []))
 {s with heap:=(s.heap.push W.emptyDict).push (W.instObj C s.heap.objs.size)}:=by
 have a:(s.heap.push W.emptyDict).get? s.heap.objs.size=some W.emptyDict:=zAv s.heap rfl;have e2:((s.heap.push W.emptyDict).push (W.instObj C s.heap.objs.size)).get? (s.heap.objs.size+1)=some (W.instObj C s.heap.objs.size):=by have:=zAv (s.heap.push W.emptyDict) (o:=W.instObj C s.heap.objs.size) rfl;rwa[Heap.size_push] at this
 refine(I.laid (o:=.own (s.heap.objs.size+1)) (t':=s.toks) (λb u q=>zA2 _ q) (zA3 _) ⟨_,a⟩).laid (λb u q=>zA2 _ q) (zC7 (Heap.size_push _ _)) ?_;have c:s.heap.objs.size≠s.heap.objs.size+1:=zAj (Nat.lt_succ_self _);refine⟨by rw[qb2 c,qb1],zBg _,c,e2,λ_=>none,(Heap.Ns1.of_empty (⟨W.emptyDict,#[],_,a,rfl,(λe d=>absurd d (by simp)),λ_=>rfl⟩)).at λo q=>zA2 _ q,λ_=>True.intro,λy f=>absurd rfl f⟩
theorem qax5{f:Str}{s:Sh}(a:Nf e f env (eval e env)=eval e env)(h:Nr (Nt prog w) A (eval e env) (λo s₁=>Nr (Nt prog w) A (getAttr o f true) Q E s₁) E s):Nr (Nt prog w) A (eval (.Attribute e f pos) env) Q E s:=Attribute_any_ h (by rw[arm_eval_Attribute,a])
end
def tFld(K:Qe)(ta:TE)(f:Str):TE:=λb H Q=>ta b H λx H1=>∃a C dx fs v,x=.ref a/\H1 a=some (.ins C dx fs)/\Cls K C/\qd1 K C f/\fs.lookup f=some v/\Q v H1
def sFld(K:Qe)(ta tv:TE)(f:Str):TS:=λD b H=>tv b H λy H1=>ta b H1 λx H2=>∃a C dx fs,x=.ref a/\H2 a=some (.ins C dx fs)/\Cls K C/\qd1 K C f/\fs.length<1000/\D.nx b (upd H2 a (.ins C dx (Bm f y fs)))
section
variable{X:Cx}{o e B:Nx}{f:Str}{pos pos':Pos}{E tv:TE}
theorem qaN8(d:PE X e E)(g:Nf e f X.env (eval e X.env)=eval e X.env):PE X (.Attribute e f pos) (tFld X.K E f):=by intro Fx s A H Q I h;refine qax5 g (thn (d Fx s A H _ I h) λu o b=>?_);obtain⟨x,H1,I1,i,a,C,p,r,v,j,k,c,n,l,q⟩:=b;subst j;obtain rfl:u=Pz a:=i;exact qah9 I1 k c n l λt w I2 m=>⟨v,H1,I2,m,q⟩
theorem qaX6(d:PE X o E)(e:PE X B tv)(g:swapsWith B (some (.Attribute o f pos')) pos.line X.env=pure false):PS X (.Assign [.Attribute o f pos'] B pos) (sFld X.K E tv f):=by intro Fx s A H D I h;refine plainObj_wpAny_Assign_Attribute (thn (e Fx s A H _ I h) λu i b=>?_) g;obtain⟨y,H1,I1,j,q⟩:=b;refine thn (d Fx i A H1 _ I1 q) λk t b=>?_;obtain⟨x,H2,I2,m,a,C,v,w,p,r,c,n,l,q2⟩:=b;subst p;obtain rfl:k=Pz a:=m;exact qac8 I2 r c n l j λz I3=>⟨A,_,I3,q2⟩
end
section
variable{X:Cx}{F:List (γ×Obj)}{D:St}{H:Hp}{s:Sh}{A:Nv}{E Q:V'->Sh->Prop}{c:V'}{b:Bool}
inductive G9(K:Qe)(H:Hp):V->V'->Prop where
 |non:G9 K H .non (.type "NoneType")
 |bl (x:Bool):G9 K H (.bl x) (.type "bool")
 |int (i:Int):G9 K H (.int i) (.type "int")
 |str (x:Str):G9 K H (.str x) (.type "str")
 |flt (x:UInt64):G9 K H (.flt x) (.type "float")
 |l {a:γ} {xs:List V} (e:H a=some (.l xs)):G9 K H (.ref a) (.type "list")
 |frz {a:γ} {o:Obj} {xs:List V} (e:H a=some (.frz o (.l xs))):G9 K H (.ref a) (.type "list")
 |q {a:γ} {xs:List V} (e:H a=some (.q xs)):G9 K H (.ref a) (.type "tuple")
 |dK {a:γ} {kvs:List (Key×V)} (e:H a=some (.dK kvs)):G9 K H (.ref a) (.type "dict")
 |dT {a:γ} {kvs:List (List Key×V)} (e:H a=some (.dT kvs)):G9 K H (.ref a) (.type "dict")
 |ins {a C dx:γ} {fs:List (Str×V)} (e:H a=some (.ins C dx fs)) (cl:Cls K C) (ha:W.findIn K (.ref C) "__class__"=some (some (.builtin "object.__class__")))
  (hn:W.specialIn K (.builtin "object.__class__") "__get__"=some (some (.builtin "getset_descriptor.__get__"))) (htk:W.takesIn K (.builtin "object.__class__")=some true)
  (hm:W.mroIn K C (.type "object")=some true):G9 K H (.ref a) (.ref C)
theorem qG5(I:Rk X F D H s)(d:Rh x u)(ty:G9 X.K H x t)(e:Qf X.K t c=some b)(h:∀k,Q (.bool b) {s with toks:=k}):Nr (Nt X.prog X.w) A (call (.builtin "isinstance") [u,c]) Q E s:=by cases ty with|non=>cases (show u=P0 from d);exact W.kia_one W.kitx_none I.kIn True.intro e (λz=>nomatch z) h|bl y=>cases (show u=P4 y from d);exact W.kia_one W.kitx_bool I.kIn True.intro e (λz=>nomatch z) h|int i=>obtain⟨t,q⟩:=(show ∃t,u=P1 i t from d);cases q;exact W.kia_one W.kitx_int I.kIn True.intro e (λz=>nomatch z) h|str y=>obtain⟨t,q⟩:=(show ∃t,u=P5 y t from d);cases q;exact W.kia_one W.kitx_str I.kIn True.intro e (λz=>nomatch z) h|flt y=>obtain⟨t,q⟩:=(show ∃t,u=P7 y t from d);cases q;exact W.kia_one W.kitx_float I.kIn True.intro e (λz=>nomatch z) h|@l a g ea=>cases (show u=Pz a from d);obtain⟨_,_,n,_,f⟩:=(show ObjOk X.prog X.w H s.heap a (.l g) from I.hok a _ ea);exact W.kia_one W.kitx_list I.kIn ⟨_,f,rfl⟩ e (λz=>nomatch z) h|@frz a ob g ea=>cases (show u=Pz a from d);obtain⟨_,_,_,n,_,f⟩:=(show ObjOk X.prog X.w H s.heap a (.frz ob (.l g)) from I.hok a _ ea);exact W.kia_one W.kitx_list I.kIn ⟨_,f,rfl⟩ e (λz=>nomatch z) h|@q a g ea=>cases (show u=Pz a from d);obtain⟨_,_,_,p⟩:=(show ObjOk X.prog X.w H s.heap a (.q g) from I.hok a _ ea);obtain⟨o,f,j,_⟩:=p;exact W.kia_one W.kitx_tuple I.kIn ⟨o,f,j⟩ e (λz=>nomatch z) h|@dK a kvs ea=>cases (show u=Pz a from d);obtain⟨_,_,r,_,p⟩:=(show ObjOk X.prog X.w H s.heap a (.dK kvs) from I.hok a _ ea);obtain⟨o,l,m,f,j,_⟩:=p;exact W.kia_one W.kitx_dict I.kIn ⟨o,f,j.1⟩ e (λz=>nomatch z) h|@dT a kvs ea=>cases (show u=Pz a from d);obtain⟨_,_,g,_,o,l,m,f,j,_⟩:=(show ObjOk X.prog X.w H s.heap a (.dT kvs) from I.hok a _ ea);exact W.kia_one W.kitx_dict I.kIn ⟨o,f,j.1⟩ e (λz=>nomatch z) h|@ins a C dx fs ea cl ha hn htk hm=>cases (show u=Pz a from d);obtain⟨v,O,_⟩:=qV6 I.hok ea;obtain⟨B,J,_⟩:=O.look;exact W.kia_one (W.kitx_own (cl.get _) cl.hd ha hn htk hm) I.kIn J e (λz=>nomatch z) h
end
structure Ro(cm:Bool)(k:Nat)(A:Nv):Prop where
 hd:cm=true->A.handled=none
 dp:A.depth+3*k+5<recursionLimit
 un:A.units+16*k+200<cLine
abbrev Room:=Ro true
theorem Ro.mono(r:Ro cm k A)(h:j<=k):Ro cm j A:=⟨r.hd,by have:=r.dp;lia,by have:=r.un;lia⟩
theorem Ro.deeper(r:Ro cm (k+1) A)(env:Env):Ro cm k (A.deeper env):=⟨r.hd,by have:=r.dp;show A.depth+1+3*k+5<_;lia,by have:=r.un;show A.units+3+16*k+200<_;lia⟩
theorem qag0{A:Nv}:(A.under (.builtin "type.__call__" ⟨.ref C::us,kw⟩)).depth=A.depth+1:=by first|rfl|simp[Around.under,Code.weight,Code.isCreation,Code.isGuard,Code.isCaller,Code.frames,Code.isFrame,guardIds]
theorem qaf9{A:Nv}:(A.under (.builtin "type.__call__" ⟨.ref C::us,kw⟩)).units=A.units+1:=by first|rfl|simp[Around.under,Code.cUnits,Code.frames,Code.isFrame]
theorem Ro.make(r:Ro cm (k+1) A)(C:γ)(us:List V')(kw:List (Str×V')):Ro cm k (A.under (.builtin "type.__call__" ⟨.ref C::us,kw⟩)):=⟨r.hd,by have:=r.dp;rw[qag0];lia,by have:=r.un;rw[qaf9];lia⟩
theorem Ro.depth(r:Ro cm k A):A.depth<recursionLimit:=by have:=r.dp;lia
theorem Ro.units(r:Ro cm k A):A.units+64<cLine:=by have:=r.un;lia
theorem Ro.units0{cm:Bool}{k:Nat}{A:Nv}(r:Ro cm k A):A.units<cLine:=by have:=r.un;lia
def tNil:TA:=λ_ H Q=>Q [] H
def tCons(ta:TE)(tr:TA):TA:=λa H Q=>ta a H λx H1=>tr a H1 λxs H2=>Q (x::xs) H2
section
variable{X:Cx}{e:Nx}{o:List Nx}{te:TE}{t:TA}{n:Pos}
theorem qu3:PA X [] tNil:=λ_ _ _ _ H Q I h=>Calls.spliced_nil ⟨[],H,I,.nil,h⟩
theorem qf6(a:PE X e te)(b:PA X o t)(c:M8 (e::o) X.env=(false,eval e X.env)::M8 o X.env:=by rfl):PA X (e::o) (tCons te t):=by intro n Fx s m H Q I h;rw[c];exact Calls.spliced_cons (thn (a Fx s m H _ I h) λu d ⟨x,H1,I1,f,g⟩=>(thn (b n Fx d m H1 _ I1 g) λk l ⟨i,H2,I2,j,q2⟩=>⟨x::i,H2,I2,.cons f j,q2⟩))
def tTup(t:TA):TE:=λm H Q=>t m H λxs H1=>xs.length<=M9/\∀p,H1 p=none->Q (.ref p) (upd H1 p (.q xs))
def tLst(t:TA):TE:=λm H Q=>t m H λxs H1=>xs.length<=M9/\∀p,H1 p=none->Q (.ref p) (upd H1 p (.l xs))
theorem qaN2{x1}(h:PA X o t):PE X (.Tuple o x1 n) (tTup t):=by intro Fx s m H Q I d;refine wpAny_Tuple_spliced (thn (h n Fx s m H _ I d) λf c a=>?_);obtain⟨g,H1,I1,r,z,q⟩:=a;refine⟨by rw[<-r.length];exact z,?_⟩;refine⟨.ref c.heap.objs.size,upd H1 c.heap.objs.size (.q g),I1.laid (λb u e=>zA2 _ e) (zA3 _) ?_,rfl,q _ (I1.hok.fresh (zA3 _))⟩;exact⟨z,f,r,⟨_,zAv _ rfl,rfl,_,rfl⟩⟩
theorem qaB6(h:PA X o t):PE X (.List o n) (tLst t):=by intro Fx s m H Q I d;refine wpAny_List_spliced (thn (h n Fx s m H _ I d) λf c a=>?_);obtain⟨g,H1,I1,r,z,q⟩:=a;refine⟨by rw[<-r.length];exact z,?_⟩;refine⟨.ref c.heap.objs.size,upd H1 c.heap.objs.size (.l g),I1.laid (λb u e=>zA2 _ e) (zA3 _) ?_,rfl,q _ (I1.hok.fresh (zA3 _))⟩;exact⟨z,f,0,r,zAv _ rfl⟩
end
abbrev Sp:=List V->Hp->VK->XK->Prop
abbrev CXT:=List Env->Hp->Sh->XK->V'->Sh->Prop
structure Env0(P:Nu)(w:Nw)(K:Qe)(mg:Str->Option V')(base:Heap)(A:Nv)(outer:List Env)(s:Sh)(H:Hp):Prop where
 frames:A.frames=some outer
 mod:Mod K mg base
 bs:∀b o,base.get? b=some o->s.heap.get? b=some o/\H b=none
 bsz:base.objs.size<=s.heap.objs.size
 funs:s.heap.FunFrames base outer
 frf:∀b∈frs outer,H b=none
 hok:HOk P w H s.heap
 bare:AllBare s.gens
def CE(outer:List Env)(P:Nu)(w:Nw)(H:Hp)(s:Sh)(Q:VK)(u:V')(s':Sh):Prop:=∃v H',s'.os=s.os/\AllBare s'.gens/\Un (frs outer) [] H H' s.heap s'.heap/\HOk P w H' s'.heap/\Rh v u/\Q v H'
def CR(CX:CXT)(outer:List Env)(P:Nu)(w:Nw)(H:Hp)(s:Sh)(Q:VK)(E:XK)(r:Result)(s':Sh):Prop:=match r with|.ok (.ret u)=>CE outer P w H s Q u s'|.ok _=>False|.error e=>CX outer H s E e s'
structure Go(cm:Bool)(P:Nu)(w:Nw)(K:Qe)(mg:Str->Option V')(base:Heap)(CX:CXT)(k:Nat)(f:γ)(fd:δ)(ps:List Str)(sp:Sp):Prop where
 len:∀vs H Q E,sp vs H Q E->vs.length=ps.length
 run:∀(A:Nv)(outer:List Env)(s:Sh)(H:Hp)(args:Args)(us:List V')(vs:List V)(Q:VK)(E:XK),Ro cm k A->Env0 P w K mg base A outer s H->BindsTo s fd args (ps.zip us)->Ri vs us->sp vs H Q E->codeAny (Nt P w) A (.call (.ref f) args) (CR CX outer P w H s Q E) s
abbrev Gv:=Go true
theorem Env0.make{K:Qe}(e:Env0 P w K mg base A outer s H)(C:γ)(us:List V')(kw:List (Str×V')):Env0 P w K mg base (A.under (.builtin "type.__call__" ⟨.ref C::us,kw⟩)) outer s H:=⟨by first|exact e.frames|(simpa[Around.under,Code.envs,Code.isFrame,pushEnvs] using e.frames),e.mod,e.bs,e.bsz,e.funs,e.frf,e.hok,e.bare⟩
section
variable{X:Cx}{k:List (γ×Obj)}{j:St}{H:Hp}{s s':Sh}
theorem Rk.env0(I:Rk X k j H s):Env0 X.prog X.w X.K X.mg X.base X.A X.stack s H:=⟨I.ok.frames,I.ok.mod,I.bs,zA7 I.ok.bsz I.sz,I.stack,I.stkFree,I.hok,I.bare⟩
theorem Rk.after(I:Rk X k j H s)(h:CE X.stack X.prog X.w H s Q u s'):EP X k j Q u s':=by obtain⟨v,H',e,bare,f,a,r,q⟩:=h;obtain⟨i,g,d,t,c⟩:=s';obtain rfl:c=s.os:=e;exact⟨v,H',I.call f a bare (λb z=>absurd z (by simp)),r,q⟩
end
def Ls(sp:Sp)(dvs:List V)(E:St->XK)(t:TA):TE:=λa H Q=>t a H λvs H1=>sp (vs++dvs) H1 Q (E a)
def Lu(C:γ)(m:Str)(sp:Sp)(dvs:List V)(E:St->XK)(ta:TE)(t:TA):TE:=λb H Q=>ta b H λx H1=>∃a dx fs,x=.ref a/\H1 a=some (.ins C dx fs)/\fs.lookup m=none/\t b H1 λvs H2=>sp (x::(vs++dvs)) H2 Q (E b)
def tMake(C:γ)(sp:Sp)(dvs:List V)(E:St->XK)(t:TA):TE:=λa H Q=>t a H λvs H1=>∀x dx,H1 x=none->H1 dx=none->dx≠x->sp (.ref x::(vs++dvs)) (upd (upd H1 dx (.own x)) x (.ins C dx [])) (λv H2=>v=.non/\Q (.ref x) H2) (E a)
def Binds(K:Qe)(fd:δ)(ps:List Str)(ds:List V'):Prop:=∀(s:Sh)(us:List V'),K.In s.heap->(us++ds).length=ps.length->BindsTo s fd ⟨us,[]⟩ (ps.zip (us++ds))
theorem Binds.all{K:Qe}(h:∀us:List V',us.length=ps.length->bindArgs fd ⟨us,[]⟩=pure (ps.zip us)):Binds K fd ps []:=λs us _ a=>by
 rw[zAi] at a ⊢;exact .of_eq (h us a)
def qM7(CX:CXT)(X:Cx)(E:St->XK):Prop:=∀(Fx:List (γ×Obj))(a:St)(H:Hp)(s:Sh)(e:V')(s':Sh),Rk X Fx a H s->CX X.stack H s (E a) e s'->X.xe e s'
section
variable{X:Cx}{cm:Bool}{CX:CXT}{k:Nat}{f C:γ}{Z:δ}{ps:List Str}{sp:Sp}{T:List V}{ds:List V'}{E:St->XK}{x m:Str}{p S U:Pos}{e o:Nx}{Y:List Nx}{ta:TE}{t:TA}
theorem qaA4(F:Go cm X.prog X.w X.K X.mg X.base CX k f Z ps sp)(c:Ro cm k X.A)(d:Binds X.K Z ps ds)(g:Ri T ds)(i:qM7 CX X E)(I:Rk X Fx R H s)(r:Ri vs us)(h:sp (vs++T) H Q (E R)):Nr (Nt X.prog X.w) X.A (call (.ref f) us) (EP X Fx R Q) X.xe s:=by
 have b:=r.append g;have j:(us++ds).length=ps.length:=by rw[<-b.length];exact F.len _ _ _ _ h
 refine wpAny_call (codeAny_mono (F.run X.A X.stack s H ⟨us,[]⟩ (us++ds) (vs++T) Q (E R) c I.env0 (d s us I.kIn j) b h) λr l a=>?_);cases r with|error e=>exact i Fx R H s e l I a|ok m=>cases m with|ret u=>exact I.after a|next=>exact Q6 a|brk=>exact Q6 a|cont=>exact Q6 a
theorem qav2(F:Go cm X.prog X.w X.K X.mg X.base CX k f Z ps sp)(c:Ro cm k X.A)(d:Gl X x)(hm:X.mg x=some (.ref f))(g:W.keepIn X.K (.ref f)=true)(i:Binds X.K Z ps ds)(j:Ri T ds)(l:qM7 CX X E)(m:PA X (e::Y) t)(a:N' x:=by decide)(n:M8 (e::Y) X.env=(false,eval e X.env)::M8 Y X.env:=by rfl)(b:(backTo S (M8 Y X.env)).any (·.1)=false:=by rfl):PE X (.Call (.Name x p) (e::Y) [] S) (Ls sp T E t):=by intro Fx s R H Q I h;exact wpAny_Call_Name_kw (qK5 I d hm (W.callWith_K (h₀:=X.base) I.ok.mod.kin g (thn (m S Fx s R H _ I h) λo u ⟨v,H1,I1,r,q⟩=>⟨I1.kIn,(qaA4 F c i j l I1 r q)⟩) n b) a)
theorem qaN5(j:PE X o ta)(c:Cls X.K C)(hm:Lr X.K C m f)(F:Go cm X.prog X.w X.K X.mg X.base CX k f Z ps sp)(n:Ro cm k X.A)(p:Binds X.K Z ps ds)(v:Ri T ds)(y:qM7 CX X E)(z:PA X (e::Y) t)(b:M8 (e::Y) X.env=(false,eval e X.env)::M8 Y X.env:=by rfl)(d:(backTo S (M8 Y X.env)).any (·.1)=false:=by rfl)(B:eval (.Call (.Attribute o m U) (e::Y) [] S) X.env=(do
 let ov<-eval o X.env
 standAt U.atName
 let (f,first)<-holding [ov] (getMethod ov m pl)
 callWith S f first (backTo S (M8 (e::Y) X.env)) (backToKw S (Nk [] X.env))):=by rfl):PE X (.Call (.Attribute o m U) (e::Y) [] S) (Lu C m sp T E ta t):=by intro Fx s R H Q I h;refine W.methodCall_KW (thn (j Fx s R H _ I h) λu D g=>?_) B;obtain⟨x,H1,I1,G,a,M,N,J,L,l,q⟩:=g;subst J;obtain rfl:u=Pz a:=G;exact qL1 I1 L c hm l (W.callWith_K (h₀:=X.base) I.ok.mod.kin hm.kp (thn (z S Fx D R H1 _ I1 q) λO P ⟨i,H2,I2,r,q2⟩=>⟨I2.kIn,(qaA4 (vs:=.ref a::i) F n p v y I2 (.cons rfl r) q2)⟩) b d)
theorem qaB5(d:PE X o ta)(c:Cls X.K C)(hm:Lr X.K C m f)(F:Go cm X.prog X.w X.K X.mg X.base CX k f Z ps sp)(e:Ro cm k X.A)(g:Binds X.K Z ps ds)(i:Ri T ds)(j:qM7 CX X E)(n:eval (.Call (.Attribute o m U) [] [] S) X.env=(do
 let ov<-eval o X.env
 standAt U.atName
 let (f,first)<-holding [ov] (getMethod ov m pl)
 callWith S f first (backTo S (M8 [] X.env)) (backToKw S (Nk [] X.env))):=by rfl):PE X (.Call (.Attribute o m U) [] [] S) (Lu C m sp T E ta tNil):=by intro Fx s R H Q I h;refine W.methodCall_KW (thn (d Fx s R H _ I h) λu v b=>?_) n;obtain⟨x,H1,I1,p,a,y,z,r,t,l,q⟩:=b;subst r;obtain rfl:u=Pz a:=p;exact qL1 I1 t c hm l (W.callWith_K0 I1.kIn hm.kp (qaA4 (vs:=[.ref a]) F e g i j I1 (.cons rfl .nil) q))
structure Mk(K:Qe)(C f:γ):Prop where
 makes:W.makesIn K C=true
 init:W.findIn K (.ref C) "__init__"=some (some (.ref f))
 fn:W.isFn K (.ref f)=true
 kp:W.keepIn K (.ref C)=true
theorem qaA3(M:Mk X.K C f)(F:Go cm X.prog X.w X.K X.mg X.base CX k f Z ps sp)(d:Ro cm (k+1) X.A)(g:Binds X.K Z ps ds)(i:Ri T ds)(j:qM7 CX X E)(I:Rk X Fx R H s)(r:Ri vs us)(h:∀x dx,H x=none->H dx=none->dx≠x->sp (.ref x::(vs++T)) (upd (upd H dx (.own x)) x (.ins C dx [])) (λv H2=>v=.non/\Q (.ref x) H2) (E R)):Nr (Nt X.prog X.w) X.A (call (.ref C) us) (EP X Fx R Q) X.xe s:=by
 have b:=h (s.heap.objs.size+1) s.heap.objs.size (I.hok.fresh (Nat.le_succ _)) (I.hok.fresh (zA3 _)) (zAj (Nat.lt_succ_self _));have I2:=Rk.made (C:=C) I;have c:Ri (V.ref (s.heap.objs.size+1)::(vs++T)) (Pz (s.heap.objs.size+1)::(us++ds)):=.cons rfl (r.append i);have l:(Pz (s.heap.objs.size+1)::us++ds).length=ps.length:=by have e:=c.length;rw[F.len _ _ _ _ b] at e;exact e.symm
 refine wpAny_call (qaE1 I.kIn M.makes M.init (zBl.mp M.fn) (codeAny_mono (F.run _ X.stack _ _ ⟨Pz (s.heap.objs.size+1)::us,[]⟩ (Pz (s.heap.objs.size+1)::(us++ds)) _ _ (E R) (d.make C us [])
  (I2.env0.make C us []) (g _ (Pz (s.heap.objs.size+1)::us) I2.kIn l) c b) λr m a=>?_))
 cases r with|error e=>exact j Fx R _ _ e m I2 a|ok n=>cases n with|ret u=>obtain⟨v,H',I3,o,p,q⟩:=I2.after a;subst p;exact⟨o,⟨V.ref (s.heap.objs.size+1),H',I3,rfl,q⟩⟩|next=>exact Q6 a|brk=>exact Q6 a|cont=>exact Q6 a
theorem qav1(M:Mk X.K C f)(F:Go cm X.prog X.w X.K X.mg X.base CX k f Z ps sp)(c:Ro cm (k+1) X.A)(d:Gl X x)(hm:X.mg x=some (.ref C))(g:Binds X.K Z ps ds)(i:Ri T ds)(j:qM7 CX X E)(l:PA X (e::Y) t)(a:N' x:=by decide)(m:M8 (e::Y) X.env=(false,eval e X.env)::M8 Y X.env:=by rfl)(b:(backTo S (M8 Y X.env)).any (·.1)=false:=by rfl):PE X (.Call (.Name x p) (e::Y) [] S) (tMake C sp T E t):=by intro Fx s R H Q I h;exact wpAny_Call_Name_kw (qK5 I d hm (W.callWith_K (h₀:=X.base) I.ok.mod.kin M.kp (thn (l S Fx s R H _ I h) λn o ⟨u,H1,I1,r,q⟩=>⟨I1.kIn,(qaA3 M F c g i j I1 r q)⟩) m b) a)
end
structure qa9(N P:List Str)(sc:Scope):Prop where
 kind:sc.kind=.function
 co:sc.isCoroutine=false
 gen:sc.isGenerator=false
 nd:N.Nodup
 pre:N.take P.length=P
 par:∀x∈P,sc.names.lookup x=some .local∨sc.names.lookup x=some .cell
 nofree:∀y∈sc.names,y.2≠.free
theorem qX8{N7:Str->Option NameKind}{x:Str}:∀{binds:List (Str×V')}{m:Str->Option V'},(∀v,(x,v)∉binds)->bindL N7 binds m x=m x
 |[],_,_=>rfl|(n,v)::r,m,h=>by
  unfold bindL;rw[qX8 λw a=>h w (zA6 _ a)];split
  .have:x≠n:=by rintro rfl;exact h v zAb
   simp[this]
  rfl
theorem qY0{N7:Str->Option NameKind}{x:Str}:∀{binds:List (Str×V')}{m:Str->Option V'},(∀v,(x,v)∉binds)->bindC N7 binds m x=m x
 |[],_,_=>rfl|(n,v)::r,m,h=>by
  unfold bindC;rw[qY0 λw a=>h w (zA6 _ a)];split;{rfl};have:x≠n:=by rintro rfl;exact h v zAb
  simp[this]
theorem qX9{N7:Str->Option NameKind}{x:Str}{v:V'}:∀{P:List Str}{vs:List V'}{i:Nat}{m:Str->Option V'},P.Nodup->P[i]?=some x->vs[i]?=some v->N7 x=some .local->bindL N7 (P.zip vs) m x=some v|[],_,_,_,_,h,_,_=>by simp at h|_::_,[],_,_,_,_,h,_=>by simp at h|p::P,w::vs,0,m,nd,h1,h2,hk=>by simp at h1 h2;subst h1;subst h2;show bindL N7 ((p,w)::P.zip vs) m p=_;unfold bindL;rw[qX8 λv a=>(zCm.mp nd).1 (O2 a).1,if_pos hk];simp|p::P,w::vs,i+1,m,nd,h1,h2,hk=>by show bindL N7 ((p,w)::P.zip vs) m x=_;unfold bindL;exact qX9 (i:=i) (zCm.mp nd).2 (by simpa using h1) (by simpa using h2) hk
theorem qY1{N7:Str->Option NameKind}{x:Str}{v:V'}:∀{P:List Str}{vs:List V'}{i:Nat}{m:Str->Option V'},P.Nodup->P[i]?=some x->vs[i]?=some v->N7 x≠some .local->bindC N7 (P.zip vs) m x=some v|[],_,_,_,_,h,_,_=>by simp at h|_::_,[],_,_,_,_,h,_=>by simp at h|p::P,w::vs,0,m,nd,h1,h2,hk=>by simp at h1 h2;subst h1;subst h2;show bindC N7 ((p,w)::P.zip vs) m p=_;unfold bindC;rw[qY0 λv a=>(zCm.mp nd).1 (O2 a).1,if_neg hk];simp|p::P,w::vs,i+1,m,nd,h1,h2,hk=>by show bindC N7 ((p,w)::P.zip vs) m x=_;unfold bindC;exact qY1 (i:=i) (zCm.mp nd).2 (by simpa using h1) (by simpa using h2) hk
noncomputable def start(N:List Str)(vs:List V):St:=vs.map some++Oa (N.length-vs.length) none
noncomputable def Ha(cm:Bool)(CX:CXT)(P:Nu)(w:Nw)(K:Qe)(mg:Str->Option V')(base:Heap)(N:List Str)(qual:Str)(scope:Scope)(f:γ)(cd:V')(A:Nv)(outer:List Env)(s:Sh)(H:Hp)(E:XK):Cx where
 prog:=P
 w:=w
 K:=K
 mg:=mg
 base:=base
 A:=A.deeper (envOfC qual scope s.heap.objs.size f cd)
 N:=N
 s₀:=s
 H₀:=H
 env:=envOfC qual scope s.heap.objs.size f cd
 outer:=outer
 stack:=envOfC qual scope s.heap.objs.size f cd::outer
 ex:=[]
 calm:=cm
 fn:=λ_=>true
 pn:=[]
 xe:=λe s'=>Nr (Nt P w) (A.deeper (envOfC qual scope s.heap.objs.size f cd)) (leaving (envOfC qual scope s.heap.objs.size f cd) e) (λ_ a=>CX outer H s E e a) (λb a=>CX outer H s E b a) s'
theorem qak4{sc:Scope}(h:sc.names.lookup x=some .cell):∃c,(cellsFrom n sc.names []).lookup x=some c:=by exact zB4.mp (W.cellsFrom_some sc.names n [] (.inl h))
theorem qaq3{K:Qe}(S:qa9 N ps scope)(F:cm=true->A.handled=none)(g:Env0 P w K mg base A outer s H)(L:vs.length=ps.length)(r:Ri vs us)(x:InCallC s s.heap.objs.size (bindL (envOfC qual scope s.heap.objs.size f cd).kindOf (ps.zip us) λ_=>none) (cellsFrom (s.heap.objs.size+1) scope.names []) (bindC (envOfC qual scope s.heap.objs.size f cd).kindOf (ps.zip us) λ_=>none) B):Rk (Ha cm CX P w K mg base N qual scope f cd A outer s H E) [] (start N vs) H B:=by
 have G:ps.length<=N.length:=by have:=congrArg Of S.pre;rw[zB6] at this;lia
 obtain⟨o,M,rfl,C⟩:=x.done;have j:∀b:γ,b∉(Ha cm CX P w K mg base N qual scope f cd A outer s H E).ex:=λb z=>absurd (show b∈([]:List γ) from z) (by simp);refine⟨⟨g.mod,S.kind,rfl,rfl,zA3 _,λy z c o d=>?_,λy l=>?_,λy c _ h=>?_,F,Around.frames_deeper g.frames,.inr ⟨rfl,rfl⟩,λb z=>absurd z (j b),g.bs,g.bsz,λb _ _=>j b,λb z=>absurd z (j b),g.funs,g.frf⟩,
  rfl,g.bare,Un.kept C,⟨_,x.toInCall.ns,λi y v o d O=>?_⟩,λy c h=>⟨_,x.cell y c h⟩,g.hok.fresh (zA3 _),λy c h=>?_,λp m=>absurd (show p∈([]:List (γ×Obj)) from m) (by simp),g.hok.kept C,?_⟩
 {exact name_of_addr x.apart (PySem.mem_of_lookup o) (PySem.mem_of_lookup d)};{have l:=l;rcases l with l|l;{exact qak4 l};exact absurd rfl (S.nofree _ (PySem.mem_of_lookup l))};{exact zBc (x.above y c (PySem.mem_of_lookup h))}
 .have t:i<vs.length:=by unfold start at d;by_cases t:i<vs.length;{exact t};rw[List.getElem?_append_right (by simpa using t)] at d;rw[List.getElem?_replicate] at d;split at d<;>cases d
  have I:vs[i]?=some v:=by unfold start at d;rw[zAr (by simpa using t),zBd] at d;cases e:vs[i]? with|none=>rw[e] at d;cases d|some a=>rw[e] at d;cases d;rfl
  obtain⟨u,D,J⟩:=r.get I;have m:ps[i]?=some y:=by rw[<-S.pre,List.getElem?_take_of_lt ⋯];exact o
  have n:ps.Nodup:=by rw[<-S.pre];exact S.nd.sublist (On _ _)
  refine⟨u,J,?_⟩;rcases S.par y (zB5 m) with k|k;{exact .inl ⟨k,qX9 n m D k⟩};obtain⟨c,e⟩:=qak4 k;refine .inr ⟨.inl k,c,e,?_⟩;have q:=x.cell y c e;rw[qY1 n m D (by show scope.names.lookup y≠_;rw[k];decide)] at q;exact q
 {exact g.hok.fresh (zBc (x.above y c (PySem.mem_of_lookup h)))};unfold start;show _=N.length;grind
theorem Lv{K:Qe}{kV:V'}{i:Array (Option V')}(F:K.lookup f=some ⟨oc,od,.func (W.fnOf name qual params body scope z kV d B D a C),i⟩)(j:W.codeIn K a qual=true)(S:qa9 N ps scope)(len:∀vs H Q E,sp vs H Q E->vs.length=ps.length)(hbody:∀(A:Nv)(outer:List Env)(s:Sh)(H:Hp)(vs:List V)(Q:VK)(E:XK),Ro cm k (A.deeper (envOfC qual scope s.heap.objs.size f a))->sp vs H Q E->∃t,PSs (Ha cm CX P w K mg base N qual scope f a A outer s H E) body t/\t {nx:=λ_ H'=>Q .non H',rt:=Q} (start N vs) H):Go cm P w K mg base CX (k+1) f (W.fnOf name qual params body scope z kV d B D a C) ps sp:=by
 refine⟨len,λA outer s H args G vs Q E l g I r h=>?_⟩;have KX:=g.mod.kin.keeps λb o e=>(g.bs b o e).1;have hkind:∀y∈ps.zip G,scope.names.lookup y.1=some .local∨(scope.names.lookup y.1=some .cell/\((cellsFrom (s.heap.objs.size+1) scope.names []).lookup y.1).isSome=true):=λ⟨n,v⟩ L=>by rcases S.par n (O2 L).1 with q|q;{exact .inl q};exact .inr ⟨q,W.cellsFrom_some _ _ _ (.inl q)⟩
 refine codeAny_call_function l.depth (KX _ _ F) rfl S.co S.gen rfl (W.codeRec_of KX j) (I _ _ _ _ ?_);refine wpAny_newFunctionEnv_cells S.kind hkind λM O R x=>?_;subst O;refine⟨(g.mod.nolimit.keeps λb o e=>(g.bs b o e).1).keeps x.toInCall.keep,codeAny_func ?_⟩;obtain⟨t,T,U⟩:=hbody A outer s H vs Q E (l.deeper _) h;refine Nl (T [] R (start N vs) H _ (qaq3 S l.hd g (len _ _ _ _ h) r x) U) (λX m c=>?_) λe m c=>c;have fin:∀{Y':St}{H':Hp}{v:V}{u:V'},Rk (Ha cm CX P w K mg base N qual scope f a A outer s H E) [] Y' H' m->Rh v u->Q v H'->CE outer P w H s Q u m:=λ{Y' H' v u} J p q=>⟨v,H',J.os,J.bare,J.base,J.hok,p,q⟩;cases X with|ret u=>obtain⟨v,Y',H',J,p,q⟩:=c;exact fin J p q|next=>obtain⟨Y',H',J,q⟩:=c;exact fin (v:=V.non) J rfl q|brk=>obtain⟨_,_,_,q⟩:=c;exact Q6 q|cont=>obtain⟨_,_,_,q⟩:=c;exact Q6 q
section
variable{X:Cx}{x:Str}{p u:Pos}{e:Nx}{v:List Nx}{t:TA}{w T:String}{r:List V->Hp->VK->Prop}
def tCB(r:List V->Hp->VK->Prop)(t:TA):TE:=λq H Q=>t q H λvs H1=>r vs H1 Q
theorem qaC1(c:CallR X (.builtin w) r)(d:Gl X x)(hm:X.mg x=none)(f:Nc x=some (.builtin w))(g:PA X (e::v) t)(i:x ≠ "__name__" := by decide)(a:N' x:=by decide)(j:M8 (e::v) X.env=(false,eval e X.env)::M8 v X.env:=by rfl)(b:(backTo u (M8 v X.env)).any (·.1)=false:=by rfl):PE X (.Call (.Name x p) (e::v) [] u) (tCB r t):=by intro Fx s q H Q I h;exact wpAny_Call_Name_kw (qag5 I d hm f (PyProof.Rows.callWith_builtin1 (thn (g u Fx s q H _ I h) λk l ⟨m,H1,I1,n,o⟩=>c Fx l q H1 m k Q I1 n o) j b) i a)
theorem qao6(c:CallR X (.type T) r)(d:Gl X x)(hm:X.mg x=none)(f:Nc x=some (.type T))(g:PA X (e::v) t)(i:x ≠ "__name__" := by decide)(a:N' x:=by decide)(j:M8 (e::v) X.env=(false,eval e X.env)::M8 v X.env:=by rfl)(b:(backTo u (M8 v X.env)).any (·.1)=false:=by rfl):PE X (.Call (.Name x p) (e::v) [] u) (tCB r t):=by intro Fx s q H Q I h;exact wpAny_Call_Name_kw (qag5 I d hm f (PyProof.Rows.callWith_type1 (thn (g u Fx s q H _ I h) λk l ⟨m,H1,I1,n,o⟩=>c Fx l q H1 m k Q I1 n o) j b) i a)
end
end L2
namespace HT
open PySem PyProof.Rows
theorem qaH0(A:Nv)(s:Sh)(a:Int)(t:Tok)(c:Int)(u:Tok):∃e,SeqAt.EqAt A s (.int a t) (.int c u) e/\(e=true↔a=c):=⟨(a==c),SeqAt.EqAt.int_int a t c u,by simp⟩
section
variable{prog:Nu}{w:Nw}{A:Nv}{E:V'->Sh->Prop}{s:Sh}
theorem qaU1{t b:γ}{vs a:List V'}{Q:V'->Sh->Prop}(p:IsTup s.heap t vs.toArray)(q:IsTup s.heap b a.toArray)(k:vs≠[])(h1:a=[]->Q (.ref t) s)(h2:a≠[]->Q (.ref s.heap.objs.size) {s with heap:=s.heap.push {cls:=.type "tuple",data:=.seq (vs++a).toArray} })(hsz:vs.length+a.length<=M9):Nr (Nt prog w) A (Nq .Add (.ref t) (.ref b)) Q E s:=by
 obtain⟨⟨cls,l,data,m⟩,g,r,n,u⟩:=id p;obtain⟨⟨cls2,d,data2,f⟩,c,i,o,j⟩:=id q;subst r u i j;have e:vs.toArray++a.toArray=(vs++a).toArray:=by simp
 by_cases h:a=[]
 .exact concat_meets ⟨_,g,rfl⟩ ⟨_,c,rfl⟩ noFill_tuple_add seq_tuple_add Qv Qt (Qs _ _)
   (tuple_addW1 t b vs.toArray a.toArray n o l d m f (by simpa using k) (by simp[h])) ⟨g,c,h1 h⟩
 refine concat_meets ⟨_,g,rfl⟩ ⟨_,c,rfl⟩ noFill_tuple_add seq_tuple_add Qv Qt (Qs _ _)
  (tuple_addW2 t b vs.toArray a.toArray n o l d m f (by simpa using k) (by simpa using h) (by rw[zA4,zA4];exact hsz)) ⟨g,c,?_⟩
 rw[e];exact h2 h
noncomputable def sIx(n d:Nat):Option Int->Nat|none=>d|some v=>if v<0 then (v+(n:Int)).toNat else min v.toNat n
theorem qP8(n d:Nat):sIx n d none=d:=rfl
theorem qad7(n d k:Nat):sIx n d (some (k:Int))=min k n:=by show (if (k:Int)<0 then ((k:Int)+(n:Int)).toNat else min (k:Int).toNat n)=min k n;rw[if_neg ⋯,zCg]
end
end HT
namespace L2
open PySem PySem.Spec PyProof.Rows
variable{its us:List V'}{n t':Nat}{x:V}{α:Type}
abbrev TO:=St->Hp->(Option Int->Hp->Prop)->Prop
def PO(X:Cx)(e:Option Nx)(t:TO):Prop:=∀(Fx:List (γ×Obj))(s:Sh)(a:St)(H:Hp)(Q:Option Int->Hp->Prop),Rk X Fx a H s->t a H Q->Nr (Nt X.prog X.w) X.A (evalPart e X.env) (λu s'=>∃o H',Rk X Fx a H' s'/\IsPart u o/\Q o H') X.xe s
def qaJ4:TO:=λ_ H Q=>Q none H
def tPart(t:TE):TO:=λa H Q=>t a H λx H1=>∃i,x=.int i/\Q (some i) H1
theorem qy5:∀{us:List V'},Ri (ns.map V.int) us->IntsAre us ns:=by induction ns with|nil=>intro us r;rw[Oy] at r;cases r;exact .nil|cons n ns a=>intro us r;rw[zAw] at r;cases r with|cons b c=>obtain⟨t,e⟩:=b;subst e;exact .cons n t (a c)
section
variable{X:Cx}{e:Nx}{te:TE}{E F:Option Nx}{J G:TO}{L M:Pos}
theorem qau9:PO X none qaJ4:=by intro Fx s D H Q I h;rw[evalPart_none];exact M7 ⟨none,H,I,.none,h⟩
theorem qau8(h:PE X e te):PO X (some e) (tPart te):=by intro Fx s D H Q I b;rw[evalPart_some];refine thn (h Fx s D H _ I b) λu f a=>?_;obtain⟨x,H1,I1,c,d⟩:=a;obtain⟨i,rfl,q⟩:=d;obtain⟨t,rfl⟩:=c;exact⟨some i,H1,I1,.int i t,q⟩
def SlR(X:Cx)(r:V->Option Int->Option Int->Hp->VK->Prop):Prop:=∀(Fx:List (γ×Obj))(s:Sh)(D:St)(H:Hp)(x:V)(v vl vu:V')(E F:Option Int)(sl:γ)(Q:VK),Rk X Fx D H s->Rh x v->s.heap.IsSliceOf sl vl vu .none->IsPart vl E->IsPart vu F->r x E F H Q->∃T id,typeLookup (.type T) "__getitem__"=pure (some (.builtin id))/\s.TypeIs v T/\Nr (Nt X.prog X.w) X.A (getItem v (.ref sl)) (EP X Fx D Q) X.xe s
def tSl(r:V->Option Int->Option Int->Hp->VK->Prop)(te:TE)(J G:TO):TE:=λD H Q=>te D H λx H1=>J D H1 λl H2=>G D H2 λu H3=>r x l u H3 Q
theorem qae4(g:SlR X r)(i:PE X e te)(j:PO X E J)(k:PO X F G):PE X (.Subscript e (.Slice E F none M) L) (tSl r te J G):=by intro Fx s D H Q I h;refine Subscript_ (thn (i Fx s D H _ I h) λv m a=>?_);obtain⟨x,H1,I1,n,o⟩:=a;refine wpAny_Slice (thn (j Fx m D H1 _ I1 o) λd p a=>?_);obtain⟨l,H2,I2,t,q2⟩:=a;refine thn (k Fx p D H2 _ I2 q2) λf c a=>?_;obtain⟨u,H3,I3,w,y⟩:=a;rw[evalPart_none];refine M7 ?_;have I4:Rk X Fx D H3 {c with heap:=c.heap.push {cls:=.type "slice",data:=.fields #[d,f,.none]} }:=I3.kept λb C q=>zA2 _ q;obtain⟨T,id,z,A,B⟩:=g Fx {c with heap:=c.heap.push {cls:=.type "slice",data:=.fields #[d,f,.none]} } D H3 x v d f l u c.heap.objs.size Q I4 n (Heap.IsSliceOf.new ..) t w y;exact tail_any A z B (by with_unfolding_all rfl)
def J0(xs:List V)(E F:Option Int):List V:=(xs.drop (HT.sIx xs.length 0 E)).take (HT.sIx xs.length xs.length F-HT.sIx xs.length 0 E)
theorem qab0(xs:List V)(E F:Option Int):(J0 xs E F).length<=xs.length:=by unfold J0;rw[zB6,zBx];lia
def rCatT(K:Qe):R2:=λx y H Q=>∃a b xs ys,x=.ref a/\y=.ref b/\SqT K H a xs/\SqT K H b ys/\xs≠[]/\xs.length+ys.length<=M9/\(ys=[]->Q (.ref a) H)/\(ys≠[]->∀p,H p=none->Q (.ref p) (upd H p (.q (xs++ys))))
theorem Ri.nil_iff{xs:List V}(r:Ri xs us):us=[]↔xs=[]:=by cases r with|nil=>simp|cons _ _=>simp
theorem qaP3:OpR X (Nq .Add) (rCatT X.K):=by intro Fx s D H x y v u Q I f g h;obtain⟨a,b,o,p,rfl,rfl,i,j,k,e,l,q2⟩:=h;cases f;cases g;obtain⟨m,d,p1,_⟩:=I.tuple i;obtain⟨its2,c,n,_⟩:=I.tuple j;refine HT.qaU1 p1 n (λz=>k (d.nil_iff.mp z)) (λz=>⟨.ref a,H,I,rfl,l (c.nil_iff.mp z)⟩) (λz=>?_) (by rw[<-d.length,<-c.length];exact e);refine⟨.ref s.heap.objs.size,_,I.laid (λb r q=>zA2 _ q) (zA3 _) ?_,rfl,q2 (λw=>z (c.nil_iff.mpr w)) _ (I.hok.fresh (zA3 _))⟩;exact⟨by rw[zAf];exact e,_,d.append c,IsTup.new _ _⟩
end
noncomputable def ixN(n:Nat)(i:Int):Option Nat:=if 0<=i then (if i<n then some i.toNat else none) else if -(n:Int)<=i then some (i+n).toNat else none
def atI{α:Type}(xs:List α)(i:Int):Option α:=(ixN xs.length i).bind λj=>xs[j]?
theorem qah1(h:ixN n i=some j):seqIndex? i n=some j/\j<n/\-(n:Int)<=i/\i<n:=by unfold ixN at h;by_cases b:0<=i;{rw[if_pos b] at h;by_cases a:i<n;{rw[if_pos a] at h;have e:=Qc h;exact⟨by rw[seqIndex_of b a,e],⋯,⋯,a⟩};rw[if_neg a] at h;cases h};rw[if_neg b] at h;by_cases a:-(n:Int)<=i;{rw[if_pos a] at h;have e:=Qc h;exact⟨by rw[seqIndex_neg ⋯ a,e],⋯,a,⋯⟩};rw[if_neg a] at h;cases h
theorem qak8(h:atI xs i=some v):∃j,seqIndex? i xs.length=some j/\xs[j]?=some v/\j<xs.length/\-(xs.length:Int)<=i/\i<xs.length:=by unfold atI at h;cases e:ixN xs.length i with|none=>rw[e] at h;cases h|some j=>rw[e] at h;obtain⟨a,b,c,d⟩:=qah1 e;exact⟨j,a,h,b,c,d⟩
theorem qM4{j:Nat}(h:xs[j]?=some v):atI xs (j:Int)=some v:=by
 have a:=(zA5.mp h).1;have e:ixN xs.length (j:Int)=some j:=by unfold ixN;rw[if_pos ⋯,if_pos ⋯];simp
 unfold atI;rw[e];exact h
theorem qaI3(xs:List α)(v:α):atI (xs++[v]) (-1)=some v:=by
 have a:(xs++[v]).length=xs.length+1:=by simp
 have e:ixN (xs++[v]).length (-1)=some xs.length:=by unfold ixN;grind
 unfold atI;rw[e];simp
def qal3(b:Nx):Prop:=∀o i,subscripted b false o i=operate [o,i] (getItem o i)
def IxR(X:Cx)(r:R2):Prop:=∀(value slice:Nx)(Fx:List (γ×Obj))(s:Sh)(a:St)(H:Hp)(x y:V)(v u:V')(Q:VK),Rk X Fx a H s->Rh x v->Rh y u->r x y H Q->subscripted slice false v u=operate [v,u] (getItem v u)->Nr (Nt X.prog X.w) X.A (subscriptTail value slice v u) (EP X Fx a Q) X.xe s
def MtR(X:Cx)(id:String)(r:V->List V->Hp->VK->Prop):Prop:=∀(Fx:List (γ×Obj))(s:Sh)(a:St)(H:Hp)(x:V)(xs:List V)(v:V')(us:List V')(Q:VK),Rk X Fx a H s->Rh x v->Ri xs us->r x xs H Q->Nr (Nt X.prog X.w) X.A (call (.builtin id) (v::us)) (EP X Fx a Q) X.xe s
section
variable{X:Cx}{a b:Nx}{ta tb:TE}{Z:Pos}
theorem IxR.or{a:R2}(h:IxR X r)(h':IxR X a):IxR X (λx y H Q=>r x y H Q∨a x y H Q):=by intro value slice Fx s L H x y v u Q I b c q d;rcases q with q|q;{exact h value slice Fx s L H x y v u Q I b c q d};exact h' value slice Fx s L H x y v u Q I b c q d
theorem pe_ix(c:IxR X r)(d:PE X a ta)(e:PE X b tb)(f:qal3 b):PE X (.Subscript a b Z) (tOp r ta tb):=by intro Fx s L H Q I h;exact Subscript_ (binT d e I h λv u g x y H2 I2 i j q=>c a b Fx g L H2 x y v u Q I2 i j q (f _ _))
def rIxL(K:Qe):R2:=λx y H Q=>∃p xs i v,x=.ref p/\y=.int i/\SqL K H p xs/\atI xs i=some v/\Q v H
def rIxT(K:Qe):R2:=λx y H Q=>∃p xs i v,x=.ref p/\y=.int i/\SqT K H p xs/\atI xs i=some v/\Q v H
def rIxS:R2:=λx y H Q=>∃z i c,x=.str z/\y=.int i/\z.length<=M9/\atI z.cps.toList i=some c/\Q (.str ⟨#[c]⟩) H
theorem qaR1:IxR X (rIxL X.K):=by
 intro value slice Fx s L H x y v u Q I l m h f;obtain⟨p,E,i,z,rfl,rfl,n,o,q⟩:=h;cases l;obtain⟨t,rfl⟩:=m;obtain⟨b,r,c,F⟩:=I.list n;obtain⟨j,a,A,G,B,C⟩:=qak8 o;obtain⟨w,g,d⟩:=r.get A;have D:=r.length;have J:=qK3;have fin:EP X Fx L Q w s:=⟨z,H,I,d,q⟩;by_cases k:0<=i
 .have e:i.toNat=j:=by rw[seqIndex_of k C] at a;exact Qc a
  exact item_listR c.isList k ⋯ (by rw[e];simpa using g) fin f
 have e:(i+(b.toArray.size:Int)).toNat=j:=by rw[seqIndex_neg ⋯ B] at a;rw[zA4,<-D];exact Qc a
 exact subscriptTail_builtinR c.isList.typeIs slot_list_getitem.lookup
  (wpAny_getItem_list_neg c.isList ⋯ (by rw[zA4]<;>lia) ⋯ (by rw[e];simpa using g) ⟨rfl,fin⟩) f
theorem qbb6:IxR X (rIxT X.K):=by
 intro value slice Fx s L H x y v u Q I c d h e;obtain⟨p,o,i,z,rfl,rfl,f,g,q⟩:=h;cases c;obtain⟨t,rfl⟩:=d;obtain⟨k,r,b,A⟩:=I.tuple f;obtain⟨j,l,m,B,C,D⟩:=qak8 g;obtain⟨w,n,a⟩:=r.get m;have E:=qK3;exact subscriptTail_builtinR b.typeIs slot_tuple_getitem.lookup
  (getItem_tuple b ⋯ ⋯ (by rw[zA4,<-(r.length)];exact l) (by simpa using n) ⟨rfl,(⟨z,H,I,a,q⟩)⟩) e
theorem qbb7:IxR X rIxS:=by
 intro value slice Fx s L H x y v u Q I b d h e;obtain⟨z,i,c,rfl,rfl,n,f,q⟩:=h;obtain⟨t,rfl⟩:=b;obtain⟨o,rfl⟩:=d;obtain⟨j,a,g,p,k,l⟩:=qak8 f;have m:z.cps.toList.length=z.length:=by simp[Str.length]
 rw[m] at a k l;have r:=qK3;exact tail_any (typeIs_str s z t) slot_str_getitem.lookup (getItem_str (by rw[(zB3 ⋯),(zB3 ⋯),Bool.or_false]) (by rw[a];simpa using g) ⟨.str ⟨#[c]⟩,H,I.tok _,⟨_,rfl⟩,q⟩) e
def rIx(K:Qe):R2:=λx y H Q=>rIxL K x y H Q∨rIxT K x y H Q∨rIxS x y H Q
theorem qb4:IxR X (rIx X.K):=qaR1.or (qbb6.or qbb7)
theorem qaf8(its:List V')(n j:Nat)(u:V'):Obj.mapSeq (·.setIfInBounds j u) {cls:=.type "list",data:=.seq its.toArray n}={cls:=.type "list",data:=.seq (its.set j u).toArray n}:=by simp[Obj.mapSeq]
theorem Rk.l(I:Rk X Fx L H s)(h:H p=some (.l xs)):∃(its:List V')(n:Nat),Ri xs its/\s.heap.get? p=some {cls:=.type "list",data:=.seq its.toArray n}/\xs.length<=M9:=by obtain⟨z,its,n,r,e⟩:=I.hok p _ h;exact⟨its,n,r,e,z⟩
theorem Rk.lstUpd{n':Nat}(I:Rk X Fx L H s)(h:H p=some (.l xs))(c:s.heap.get? p=some {cls:=.type "list",data:=.seq its.toArray n})(a:f {cls:=.type "list",data:=.seq its.toArray n}={cls:=.type "list",data:=.seq its'.toArray n'})(r:Ri ys its')(hz:ys.length<=M9)(t:Nat):Rk X Fx L (upd H p (.l ys)) {s with heap:=s.heap.update p f,toks:=t}:=by
 have e:(s.heap.update p f).get? p=some {cls:=.type "list",data:=.seq its'.toArray n'}:=by rw[zBv f c (by rw[a]<;>rfl),a]
 refine I.write (by rw[h];trivial) (.inl rfl) (λb u d q=>(zBe _ _ (Ne.symm d)).trans q) ⟨_,e⟩ ?_;exact⟨hz,its',n',r,e⟩
def rSetL:V->V->V->Hp->(Hp->Prop)->Prop:=λo i v H Q=>∃p xs k j,o=.ref p/\i=.int k/\H p=some (.l xs)/\ixN xs.length k=some j/\Q (upd H p (.l (xs.set j v)))
theorem qac9:PSet X rSetL:=by
 intro Fx s L H o i v B C u Q I w x y h;obtain⟨p,D,k,j,rfl,rfl,f,z,q⟩:=h;cases w;obtain⟨t,rfl⟩:=x;obtain⟨a,n,r,c,A⟩:=I.l f;obtain⟨b,E,g,l⟩:=qah1 z;have d:=r.length;have F:=qK3;have I':=I.lstUpd f c (qaf8 a n j u) (r.set y j) (by rw[zCo];exact A) s.toks;by_cases m:0<=k
 .have e:k.toNat=j:=by rw[seqIndex_of m l] at b;exact Qc b
  exact W.ki_setAt c m ⋯ (by rw[zA4,<-d];exact l) (by rw[e];exact⟨_,I',q⟩)
 have e:(k+(a.toArray.size:Int)).toNat=j:=by rw[seqIndex_neg ⋯ g] at b;rw[zA4,<-d];exact Qc b
 exact W.ki_setBack c ⋯ (by rw[zA4,<-d];exact g) ⋯ (by rw[e];exact⟨_,I',q⟩)
theorem qO4(lo hi:Option Int)(n:Nat):(sliceBounds lo hi none n).1=((HT.sIx n 0 lo:Nat):Int)/\(sliceBounds lo hi none n).2.1=((HT.sIx n n hi:Nat):Int)/\(sliceBounds lo hi none n).2.2=1:=by refine⟨?_,?_,rfl⟩;{cases lo with|none=>simp[sliceBounds,HT.sIx]|some i=>simp only[sliceBounds,HT.sIx,Option.getD_none,show (1:Int)>0 by decide,if_true];by_cases h:i<0;{simp only[h,if_true]<;>lia};simp only[h,if_false]<;>lia};cases hi with|none=>simp[sliceBounds,HT.sIx]|some i=>simp only[sliceBounds,HT.sIx,Option.getD_none,show (1:Int)>0 by decide,if_true];by_cases h:i<0;{simp only[h,if_true]<;>lia};simp only[h,if_false]<;>lia
theorem qI5(its:List V')(lo hi:Option Int):slicePick its.toArray lo hi none=((its.drop (HT.sIx its.length 0 lo)).take (HT.sIx its.length its.length hi-HT.sIx its.length 0 lo)).toArray:=by obtain⟨a,b,c⟩:=qO4 lo hi its.toArray.size;unfold slicePick;rw[a,b,c];simp only[sliceRange_one,pick_run,zA4]<;>rfl
def rSlL(K:Qe):V->Option Int->Option Int->Hp->VK->Prop:=λx lo hi H Q=>∃a xs,x=.ref a/\SqL K H a xs/\∀p,H p=none->Q (.ref p) (upd H p (.l (J0 xs lo hi)))
theorem qat8:SlR X (rSlL X.K):=by intro Fx s L H x v p t e f u Q I i j k l h;obtain⟨a,c,rfl,m,q⟩:=h;cases i;obtain⟨n,r,g,o⟩:=I.list m;have d:=r.length;refine⟨"list",_,slot_list_getitem.lookup,g.isList.typeIs,?_⟩;refine wpAny_getItem_list_slice g.isList j k l .none (by simp) ?_ (by grind);rw[qI5,<-d];refine⟨.ref s.heap.objs.size,_,I.laid (λb w q=>zA2 _ q) (zA3 _) ?_,rfl,q _ (I.hok.fresh (zA3 _))⟩;exact⟨zA7 (qab0 c e f) o,_,0,(r.drop (HT.sIx c.length 0 e)).take (HT.sIx c.length c.length f-HT.sIx c.length 0 e),zAv _ rfl⟩
noncomputable def flatV:V->Bool|.non=>true|.bl _=>true|.int _=>true|.str _=>true|_=>false
noncomputable def eqV:V->V->Bool|.non,.non=>true|.bl a,.bl b=>a==b|.bl a,.int b=>(if a then 1 else 0)==b|.int a,.bl b=>a==(if b then 1 else 0)|.int a,.int b=>a==b|.str a,.str b=>a==b|_,_=>false
theorem qaH1(e:Rh y u)(c:Rh x v)(g:flatV y=true)(f:flatV x=true):SeqAt.EqAt A s u v (eqV y x):=by cases y with|non=>(cases e;cases x with|non=>cases c;exact SeqAt.EqAt.same _|bl b=>cases c;exact SeqAt.EqAt.none_bool b|int b=>obtain⟨t,rfl⟩:=c;exact SeqAt.EqAt.none_int b t|str b=>obtain⟨t,rfl⟩:=c;exact SeqAt.EqAt.none_str b t|_=>exact absurd (show false=true from f) zA8)|bl a=>(cases e;cases x with|non=>cases c;exact SeqAt.EqAt.bool_none a|bl b=>cases c;exact SeqAt.EqAt.bool_bool a b|int b=>obtain⟨t,rfl⟩:=c;exact SeqAt.EqAt.bool_int a b t|str b=>obtain⟨t,rfl⟩:=c;exact SeqAt.EqAt.bool_str a b t|_=>exact absurd (show false=true from f) zA8)|int a=>(obtain⟨d,rfl⟩:=e;cases x with|non=>cases c;exact SeqAt.EqAt.int_none a d|bl b=>cases c;exact SeqAt.EqAt.int_bool a d b|int b=>obtain⟨t,rfl⟩:=c;exact SeqAt.EqAt.int_int a d b t|str b=>obtain⟨t,rfl⟩:=c;exact SeqAt.EqAt.int_str a d b t|_=>exact absurd (show false=true from f) zA8)|str a=>(obtain⟨d,rfl⟩:=e;cases x with|non=>cases c;exact SeqAt.EqAt.str_none a d|bl b=>cases c;exact SeqAt.EqAt.str_bool a d b|int b=>obtain⟨t,rfl⟩:=c;exact SeqAt.EqAt.str_int a d b t|str b=>obtain⟨t,rfl⟩:=c;exact SeqAt.EqAt.str_str a d b t|_=>exact absurd (show false=true from f) zA8)|_=>exact absurd (show false=true from g) zA8
def eqU(x:V)(u:V'):Bool:=match u with|.none=>eqV .non x|.bool b=>eqV (.bl b) x|.int i _=>eqV (.int i) x|.str z _=>eqV (.str z) x|_=>false
theorem qar9(r:Rh y u)(f:flatV y=true):eqU x u=eqV y x:=by cases y with|non=>cases r;rfl|bl b=>cases r;rfl|int i=>obtain⟨t,rfl⟩:=r;rfl|str z=>obtain⟨t,rfl⟩:=r;rfl|_=>exact absurd (show false=true from f) zA8
theorem qM5{x:V}:∀{xs:List V}{us:List V'},Ri xs us->xs.all flatV=true->us.any (eqU x)=xs.any λy=>eqV y x|_,_,.nil,_=>rfl|y::xs,u::us,.cons r t,f=>by rw[Oh,zBk] at f;rw[zCp,zCp,qar9 r f.1,qM5 t f.2]
theorem qo9{A:Nv}{s:Sh}{x:V}{v:V'}(b:Rh x v)(c:flatV x=true):∀{xs:List V}{us:List V'},Ri xs us->xs.all flatV=true->∀u∈us,SeqAt.EqAt A s u v (eqU x u)|_,_,.nil,_=>λu a=>by cases a|y::xs,u::us,.cons r t,f=>λd a=>by rw[Oh,zBk] at f;rcases zAl.mp a with rfl|a;{rw[qar9 r f.1];exact qaH1 r b f.1 c};exact qo9 b c t f.2 d a
def inV(x:V)(xs:List V):Bool:=xs.any λy=>eqV y x
def rIn(K:Qe)(neg:Bool):R2:=λx y H Q=>∃p xs,y=.ref p/\(SqL K H p xs∨SqT K H p xs)/\flatV x=true/\xs.all flatV=true/\Q (.bl (if neg then !inV x xs else inV x xs)) H
theorem qm7:OpR X (M' .In) (rIn X.K false):=by intro Fx s L H x y v u Q I f i h;obtain⟨p,k,rfl,b,g,c,q⟩:=h;cases i;rcases b with b|b;{obtain⟨a,r,d,j⟩:=I.list b;refine SeqAt.in_listAt (eqU x) d.isList (λw e=>qo9 f g r c w (by simpa using e)) ⟨.bl _,H,I,rfl,?_⟩;rw[show a.toArray.any (eqU x)=a.any (eqU x) by simp,qM5 r c];exact q};obtain⟨a,r,d,j⟩:=I.tuple b;refine SeqAt.in_tupleAt (eqU x) d (λw e=>qo9 f g r c w (by simpa using e)) ⟨.bl _,H,I,rfl,?_⟩;rw[show a.toArray.any (eqU x)=a.any (eqU x) by simp,qM5 r c];exact q
theorem qQ2:OpR X (M' .NotIn) (rIn X.K true):=by intro Fx s L H x y v u Q I f i h;obtain⟨p,k,rfl,b,g,c,q⟩:=h;cases i;rcases b with b|b;{obtain⟨a,r,d,j⟩:=I.list b;refine SeqAt.notIn_listAt (eqU x) d.isList (λw e=>qo9 f g r c w (by simpa using e)) ⟨.bl _,H,I,rfl,?_⟩;rw[show a.toArray.any (eqU x)=a.any (eqU x) by simp,qM5 r c];exact q};obtain⟨a,r,d,j⟩:=I.tuple b;refine SeqAt.notIn_tupleAt (eqU x) d (λw e=>qo9 f g r c w (by simpa using e)) ⟨.bl _,H,I,rfl,?_⟩;rw[show a.toArray.any (eqU x)=a.any (eqU x) by simp,qM5 r c];exact q
theorem qS5:CallR X (.builtin "len") (λxs H Q=>∃p ys,xs=[.ref p]/\(SqL X.K H p ys∨SqT X.K H p ys)/\Q (.int ys.length) H):=by intro Fx s L H xs i Q I r h;obtain⟨p,ys,rfl,b,q⟩:=h;obtain⟨u,rfl,f⟩:=B7 r;cases f;have j:=qK3;rcases b with b|b;{obtain⟨c,d,e,g⟩:=I.list b;have a:=d.length;exact Calls.call_len_list e.isList (by simp only[zA4]<;>lia) ⟨.int ys.length,H,I.tok _,⟨s.toks+1,by rw[zA4,a]⟩,q⟩};obtain⟨c,d,e,g⟩:=I.tuple b;have a:=d.length;exact len_tuple e (by simp only[zA4]<;>lia) ⟨.int ys.length,H,I.tok _,⟨s.toks+1,by rw[zA4,a]⟩,q⟩
theorem qS4:CallR X (.builtin "len") (λxs H Q=>∃z,xs=[.str z]/\z.length<=M9/\Q (.int z.length) H):=by intro Fx s L H xs a Q I r h;obtain⟨z,rfl,b,q⟩:=h;obtain⟨u,rfl,t,rfl⟩:=B7 r;have c:=qK3;exact len_str ⋯ ⟨.int z.length,H,I.tok _,⟨_,rfl⟩,q⟩
theorem CallR.or{a:List V->Hp->VK->Prop}(h:CallR X f r)(h':CallR X f a):CallR X f (λxs H Q=>r xs H Q∨a xs H Q):=by intro Fx s L H xs b Q I c q;rcases q with q|q;{exact h Fx s L H xs b Q I c q};exact h' Fx s L H xs b Q I c q
theorem qf0:CallR X (.type "list") (λxs H Q=>∃p ys,xs=[.ref p]/\(SqL X.K H p ys∨SqT X.K H p ys)/\∀l,H l=none->Q (.ref l) (upd H l (.l ys))):=by
 intro Fx s L H xs A Q I r h;obtain⟨p,ys,rfl,g,q⟩:=h;obtain⟨u,rfl,z⟩:=B7 r;cases z;have fin:∀(a:List V'),Ri ys a->ys.length<=M9->∀(c:Heap)(d:Nat),(∀b y,s.heap.get? b=some y->c.get? b=some y)->c.get? s.heap.objs.size=some {cls:=.type "list",dict:=none,data:=.seq a.toArray d,slots:=#[]}->EP X Fx L Q (.ref s.heap.objs.size) {s with heap:=c}:=λa f i c d j e=>
  ⟨.ref s.heap.objs.size,_,I.laid j (zA3 _) (show ObjOk X.prog X.w _ c _ (.l ys) from⟨i,a,d,f,e⟩),rfl,q _ (I.hok.fresh (zA3 _))⟩
 rcases g with g|g;{obtain⟨a,f,m,i⟩:=I.list g;have k:=f.length;obtain⟨o,t,v,n,x⟩:=m.isList;exact call_list_seq p (.inl rfl) t v x (λc d j e=>fin a f i c d j e) (by simp only[zA4]<;>lia)};obtain⟨a,f,m,i⟩:=I.tuple g;have k:=f.length;obtain⟨o,t,v,n,x⟩:=m;exact call_list_seq p (.inr rfl) t v x (λc d j e=>fin a f i c d j e) (by simp only[zA4]<;>lia)
theorem qM1:CallR X (.type "tuple") (λxs H Q=>∃p ys,xs=[.ref p]/\((SqL X.K H p ys/\∀l,H l=none->Q (.ref l) (upd H l (.q ys)))∨(SqT X.K H p ys/\Q (.ref p) H))):=by intro Fx s L H xs m Q I r h;obtain⟨p,ys,rfl,h⟩:=h;obtain⟨u,rfl,i⟩:=B7 r;cases i;rcases h with⟨hq,q⟩|⟨hq,q⟩;{obtain⟨a,c,d,f⟩:=I.list hq;have g:=c.length;refine call_tuple_list d.isList (λj k=>?_) (by simp only[zA4]<;>lia);have I1:=I.kept (t':=s.toks) k;have I2:=I1.laid (t':=s.toks) (λb o e=>zA2 _ e) (zA3 _) (show ObjOk X.prog X.w _ _ _ (.q ys) from⟨f,a,c,IsTup.new _ _⟩);exact⟨.ref j.objs.size,_,I2,rfl,q _ (I1.hok.fresh (zA3 _))⟩};obtain⟨a,c,d,f⟩:=I.tuple hq;exact call_tuple_same d ⟨.ref p,H,I,rfl,q⟩
def tyV(K:Qe)(T:String)(x:V)(H:Hp):Prop:=match x with|.str _=>T="str"|.int _=>T="int"|.ref p=>(T="list" /\ ∃xs,SqL K H p xs)∨(T="tuple" /\ ∃o,K.lookup p=some o/\o.cls=.type "tuple" /\ o.dict=none)∨(T="dict" /\ ((∃kvs,H p=some (.dK kvs))∨∃kvs,H p=some (.dT kvs)))∨(T="set" /\ ∃S n,H p=some (.set S n))|_=>False
theorem qaW0(I:Rk X Fx L H s)(r:Rh x v)(ty:tyV X.K T x H):s.TypeIs v T/\∀a,v=.ref a->∃ob,s.heap.get? a=some ob/\ob.dict=none:=by
 cases x with
 |str z=>obtain⟨t,rfl⟩:=r;cases (show T="str" from ty);exact⟨typeIs_str s z t,λ_ e=>nomatch e⟩|int i=>obtain⟨t,rfl⟩:=r;cases (show T="int" from ty);exact⟨typeIs_int s i t,λ_ e=>nomatch e⟩|ref p=>
  cases r;rcases ty with⟨rfl,xs,hq⟩|⟨rfl,o,hk,hc,d⟩|⟨rfl,hk⟩|⟨rfl,S,n,hk⟩;{obtain⟨g,_,f,_⟩:=I.list hq;refine⟨f.isList.typeIs,λa e=>?_⟩;cases e;obtain⟨o,n,e,c,d,_⟩:=f;exact⟨o,e,d⟩};{refine⟨⟨o,I.kIn p o hk,hc⟩,λa e=>?_⟩;cases e;exact⟨o,I.kIn _ o hk,d⟩}
  .have z:∃o,s.heap.get? p=some o/\o.ExactDict:=by rcases hk with⟨kvs,hk⟩|⟨kvs,hk⟩;{obtain⟨_,_,_,_,o,_,_,e,b,_⟩:=I.hok p _ hk;exact⟨o,e,b⟩};obtain⟨_,_,_,_,o,_,_,e,b,_⟩:=I.hok p _ hk;exact⟨o,e,b⟩
   obtain⟨o,e,b⟩:=z;refine⟨⟨o,e,b.1⟩,λa e2=>?_⟩;cases e2;exact⟨o,e,b.2.1⟩
  obtain⟨o,_,_,_,e,b,_⟩:=I.hok p _ hk;refine⟨⟨o,e,b.1⟩,λa e2=>?_⟩;cases e2;exact⟨o,e,b.2.1⟩
 |_=>exact Q6 ty
def tBM(K:Qe)(T:String)(r:V->List V->Hp->VK->Prop)(Y:TE)(t:TA):TE:=λL H Q=>Y L H λx H1=>tyV K T x H1/\t L H1 λxs H2=>r x xs H2 Q
variable{o e:Nx}{R:List Nx}{Y:TE}{t:TA}{name:Str}{O N:Pos}{T U:String}{r:V->List V->Hp->VK->Prop}
theorem Lw(g:PlainAttrs T)(slot:Slot T name U)(b:typeOf (.builtin U)=pure (.type "method_descriptor"))(hm:MtR X U r)(i:PE X o Y)(j:PA X (e::R) t)(hbase:Nf o name X.env (eval o X.env)=eval o X.env:=by rfl)(a:((backTo N (M8 (e::R) X.env)).all (λx=>!x.1)&&(backToKw N (Nk [] X.env)).all (λx=>x.1.isSome)
 && decide ((e::R).length+([]:List Keyword).length+(if ([]:List Keyword).isEmpty then 0 else 1)<30))=true:=by rfl)(hline:(O.endLine==N.line)=true:=by rfl)(k:M8 (e::R) X.env=(false,eval e X.env)::M8 R X.env:=by rfl)(hplain:(backTo N (M8 R X.env)).any (·.1)=false:=by rfl):PE X (.Call (.Attribute o name O) (e::R) [] N) (tBM X.K T r Y t):=by intro Fx s L H Q I h;refine wpAny_Call_method_late hbase a hline rfl (thn (i Fx s L H _ I h) λv l c=>?_);obtain⟨x,H1,I1,d,ty,m⟩:=c;obtain⟨n,p⟩:=qaW0 I1 d ty;refine⟨T,U,g,slot,b,n,p,?_⟩;have f:=j N Fx l L H1 _ I1 m;rw[k] at f ⊢;refine Calls.callWith_builtin (by show (false||(backTo N (M8 R X.env)).any (·.1))=false;rw[hplain]<;>rfl) (Calls.evalArgs_plain ?_);exact thn f λq u ⟨w,H2,I2,y,q2⟩=>hm Fx u L H2 x w v q Q I2 d y q2
/- xs.append(e),list.index on a module's tuple .. are MtR facts of 06m -/
end
def MtM(X:Cx)(id:String)(r:V->List V->Hp->VK->Prop):Prop:=∀(Fx:List (γ×Obj))(s:Sh)(a:St)(H:Hp)(x:V)(xs:List V)(v:V')(us:List V')(Q:VK),Rk X Fx a H s->Rh x v->Ri xs us->r x xs H Q->Nr (Nt X.prog X.w) X.A (call (.builtin id) (v::us)) (EP X Fx a Q) X.xe s
theorem Ri.one(h:Ri [x] us):∃u,us=[u]/\Rh x u:=by cases h with|cons r t=>cases t;exact⟨_,rfl,r⟩
theorem Ri.two(h:Ri [x,y] us):∃u v,us=[u,v]/\Rh x u/\Rh y v:=by cases h with|cons r t=>cases t with|cons q t=>cases t;exact⟨_,_,rfl,r,q⟩
theorem Ri.rep{xs:List V}{us:List V'}(h:Ri xs us):∀k:Nat,Ri (Oa k xs).flatten (Oa k us).flatten|0=>.nil|k+1=>by rw[zBt,zBt,zCb,zCb];exact Ri.append h (Ri.rep h k)
theorem qW2(its:List V'):∀(k:Nat)(acc:List V'),
 Ow (λa b=>a++b) acc.toArray (Oa k its.toArray)=(acc++(Oa k its).flatten).toArray
 |0,acc=>by simp
 |k+1,acc=>by
  have e:acc.toArray++its.toArray=(acc++its).toArray:=by simp
  have e2:(acc++its)++(Oa k its).flatten=acc++(Oa (k+1) its).flatten:=by
   rw[zBt,zCb,zAs]
  rw[<-e2,<-qW2 its k (acc++its),<-e,zBt,Pj]
section
variable{X:Cx}{j:List (γ×Obj)}{i:St}{H:Hp}{s:Sh}{l:γ}{xs ys:List V}
theorem Rk.lset{its':List V'}{f:Array V'->Array V'}(I:Rk X j i H s)(a:H l=some (.l xs))(e:s.heap.get? l=some {cls:=.type "list",data:=.seq its.toArray n})(b:f its.toArray=its'.toArray)(c:Ri ys its')(hz:ys.length<=M9):Rk X j i (upd H l (.l ys)) {s with heap:=s.heap.update l (Obj.mapSeq f),toks:=t'}:=by have q:=PySem.IsL.update e f;rw[b] at q;refine I.write (by rw[a];exact trivial) (.inl rfl) (λh u d g=>(zBe s.heap (Obj.mapSeq f) (Ne.symm d)).trans g) ⟨_,q⟩ ?_;exact⟨hz,its',_,c,q⟩
theorem Rk.lnew(I:Rk X j i H s)(a:Ri ys its)(hz:ys.length<=M9):Rk X j i (upd H s.heap.objs.size (.l ys)) {s with heap:=s.heap.push {cls:=.type "list",data:=.seq its.toArray},toks:=t'}:=I.laid (λ_ _ q=>zA2 _ q) (zA3 _) ⟨hz,its,0,a,zAv _ rfl⟩
theorem Rk.fresh(I:Rk X j i H s):H s.heap.objs.size=none:=I.hok.fresh (zA3 _)
theorem Rk.lstM(I:Rk X j i H s)(a:H l=some (.l xs)):xs.length<=M9/\∃(its:List V')(n:Nat),Ri xs its/\xs.length=its.length/\s.heap.get? l=some {cls:=.type "list",data:=.seq its.toArray n}:=by obtain⟨z,its,n,r,e⟩:=I.hok l _ a;exact⟨z,its,n,r,r.length,e⟩
theorem qQ9(h:n<=M9):Builtin.List.listTooLong n=false:=by unfold Builtin.List.listTooLong;grind
end
section
variable{X:Cx}
def qau6:V->List V->Hp->VK->Prop:=λx vs H Q=>∃l xs y,x=.ref l/\vs=[y]/\H l=some (.l xs)/\xs.length<M9/\Q .non (upd H l (.l (xs++[y])))
theorem qh5:MtM X "list.append" qau6:=by intro Fx s L H x g v i Q I c d h;obtain⟨l,j,y,rfl,rfl,b,k,q⟩:=h;cases c;obtain⟨u,rfl,f⟩:=d.one;obtain⟨z,a,n,r,m,e⟩:=I.lstM b;refine No Qh ⟨_,e,rfl⟩ F.entry_list_append (F.args_list_append_2 _ _) (PySem.list_append l a.toArray n u (by grind)) ⟨e,?_⟩;refine⟨.non,_,I.lset b e (by simp) (r.append (.cons f .nil)) ?_,rfl,q⟩;grind
def rCat:R2:=λx y H Q=>∃l b xs a,x=.ref l/\y=.ref b/\H l=some (.l xs)/\H b=some (.l a)/\xs.length+a.length<=M9/\∀p,H p=none->Q (.ref p) (upd H p (.l (xs++a)))
theorem qba1:OpR X (Nq .Add) rCat:=by
 intro Fx s L H x y v u Q I c d h;obtain⟨l,b,m,o,rfl,rfl,f,g,p,q⟩:=h;cases c;cases d;obtain⟨z,a,n,r,t,e⟩:=I.lstM f;obtain⟨w,its2,A,i,j,e2⟩:=I.lstM g;refine PySem.P.add_list e e2 ?_ (by rw[zA4,zA4];lia);have k:a.toArray++its2.toArray=(a++its2).toArray:=by simp
 rw[k];exact⟨.ref _,_,I.lnew (r.append i) (by rw[zAf];lia),rfl,q _ I.fresh⟩
def rRep:R2:=λx y H Q=>∃l k xs,x=.ref l/\y=.int k/\H l=some (.l xs)/\-(2 ^ 63)<=k/\k<2 ^ 63/\xs.length*k.toNat<=M9/\∀p,H p=none->Q (.ref p) (upd H p (.l (Oa k.toNat xs).flatten))
theorem qaQ4(xs:List α)(k:Nat):(Oa k xs).flatten.length=k*xs.length:=by induction k with|zero=>simp|succ k a=>rw[zBt,zCb,zAf,a,Nat.succ_mul,Nat.add_comm]
theorem qaZ3:OpR X (Nq .Mult) rRep:=by
 intro Fx s L H x y v u Q I j o h;obtain⟨l,k,J,rfl,rfl,p,w,A,i,q⟩:=h;cases j;obtain⟨t,rfl⟩:=o;obtain⟨z,b,n,r,B,e⟩:=I.lstM p;have c:b.toArray.size*k.toNat<=M9:=by rw[zA4,<-B];exact i
 have d:¬b.toArray.size*k.toNat>(2 ^ 63-1)/8:=by have:(M9:Nat)<=(2 ^ 63-1)/8:=∅;lia
 have f:¬(!Builtin.List.listFitsIndex k)=true:=by rw[fitsIndex_both w A];grind
 have hlong:¬Builtin.List.listTooLong (b.toArray.size*k.toNat)=true:=by rw[qQ9 c];exact zA8
 have g:Ow (λC D=>C++D) #[] (Oa (if b.toArray.isEmpty=true then 0 else k.toNat) b.toArray)=(Oa k.toNat b).flatten.toArray:=by
  have E:=λm=>by have:=qW2 b m [];rw[zBh] at this;exact this
  rw[E];cases b with|nil=>simp|cons a K=>rw[if_neg (by simp)]
 refine wpAny_binaryOp_repeat_ref ∅ ⟨_,e,rfl⟩ (λG=>typeIs_int G k t) noFill_list_mul F.fills_int_mul Qy repeat_list F.slot_int_index.lookup
  (No Qy (typeIs_int s k t) F.entry_int_rmul (F.args_int_rmul_2 _ _) (int___rmul___int_list k t l b.toArray n)
   ⟨e,rfl,⟨_,e,rfl⟩,No F.slot_list_mul ⟨_,e,rfl⟩ F.entry_list_mul (F.args_list_mul_2 _ _) (AutoListH.list___mul___list_int_3 l b.toArray n k t f d hlong) ⟨e,?_⟩⟩)
 rw[g];exact⟨.ref _,_,I.lnew (r.rep k.toNat) (by rw[qaQ4,Nat.mul_comm];exact i),rfl,q _ I.fresh⟩
end
section
theorem qam7(its its2:List V')(a c:Nat):its.toArray.extract 0 a++its2.toArray++its.toArray.extract c its.toArray.size=(its.take a++its2++its.drop c).toArray:=by
 apply Array.toList_inj.mp;first
  |(simp;exact zAq (by simp))
  |simp[zAq]
  |simp
end
section
variable{f:Type}[DecidableEq f]
noncomputable def Hf(kvs:List (f×V))(k:f):Option V:=(kvs.find? λa=>decide (a.1=k)).map (·.2)
noncomputable def putK(kvs:List (f×V))(k:f)(v:V):List (f×V):=if (kvs.any λa=>decide (a.1=k))=true then kvs.map (λa=>if a.1=k then (a.1,v) else a) else kvs++[(k,v)]
theorem qN2{k:f}(e:p.1=k):Hf (p::r) k=some p.2:=by simp[Hf,zC0,e]
theorem qN3{k:f}(e:¬p.1=k):Hf (p::r) k=Hf r k:=by simp[Hf,zC0,e]
theorem qaa6(kvs:List (f×V))(k:f)(v:V):(putK kvs k v).length<=kvs.length+1:=by unfold putK;grind
theorem RelO.getD(r:RelO o u)(a:Rh d d'):Rh (o.getD d) (u.getD d'):=by cases o with|none=>(cases u with|none=>exact a|some _=>exact(show False from r).elim)|some _=>cases u with|none=>exact(show False from r).elim|some _=>exact r
theorem KV.val(r:KV kvs vs)(k:f):RelO (Hf kvs k) (valueAt vs k):=by
 unfold KV at r;induction r with
 |nil=>exact True.intro|@cons p q ps qs h t ih=>
  obtain⟨c,d⟩:=h;by_cases e:p.1=k
  .have a:=c.symm.trans e;have b:valueAt (q::qs) k=some q.2:=by simp[valueAt,zC0,a]
   rw[qN2 e,b];exact d
  have a:¬q.1=k:=λz=>e (c.trans z);have b:valueAt (q::qs) k=valueAt qs k:=by simp[valueAt,zC0,a]
  rw[qN3 e,b];exact ih
theorem KV.any(r:KV kvs vs)(k:f):(kvs.any λa=>decide (a.1=k))=vs.any λa=>decide (a.1=k):=by unfold KV at r;induction r with|nil=>rfl|cons h t b=>rw[zCp,zCp,b,h.1]
theorem KV.repl(r:KV kvs vs)(k:f)(c:Rh y u):KV (kvs.map λa=>if a.1=k then (a.1,y) else a) (vs.map λa=>if a.1=k then (a.1,u) else a):=by unfold KV at r ⊢;induction r with|nil=>exact .nil|@cons p q ps qs h t ih=>rw[zAw,zAw];refine .cons ?_ ih;obtain⟨b,d⟩:=h;by_cases e:p.1=k;{rw[if_pos e,if_pos (b.symm.trans e)];exact⟨b,c⟩};rw[if_neg e,if_neg (λz=>e (b.trans z))];exact⟨b,d⟩
theorem KV.put(r:KV kvs vs)(k:f)(a:Rh y u):KV (putK kvs k y) (stored vs k u):=by unfold putK stored;rw[r.any k];by_cases e:(vs.any λb=>decide (b.1=k))=true;{rw[if_pos e,if_pos e];exact r.repl k a};rw[if_neg e,if_neg e];exact Paired.snoc r ⟨rfl,a⟩
theorem KV.length{vs:List (f×V')}(r:KV kvs vs):kvs.length=vs.length:=Paired.length r
end
theorem Kj(r:Rh (kV k) u):(qd0 P w).is k u=true:=by cases k with|inl i=>obtain⟨t,e⟩:=(show ∃t,u=P1 i t from r);subst e;exact qaa5 P w i t|inr x=>obtain⟨t,e⟩:=(show ∃t,u=P5 x t from r);subst e;exact qaa4 P w x t
theorem qV5{P:Nu}{w:Nw}:∀{ks:List Key}{us:List V'},Ri (ks.map kV) us->ItemsAre (qd0 P w) ks us|[],_,r=>by rw[Oy] at r;cases r;exact .nil|k::ks,_,r=>by rw[zAw] at r;cases r with|cons h t=>exact .cons (Kj h) (qV5 t)
abbrev KT(H:Hp):List (List Key×V)->List (List Key×γ×V')->Prop:=Paired λp q=>p.1=q.1/\H q.2.1=some (.q (p.1.map kV))/\Rh p.2 q.2.2
theorem KT.val(r:KT H kvs xs)(k:List Key):RelO (Hf kvs k) ((atKey xs k).map (·.2)):=by
 induction r with
 |nil=>exact True.intro|@cons p q ps qs h t ih=>
  obtain⟨c,_,d⟩:=h;by_cases e:p.1=k
  .have a:=c.symm.trans e;have b:atKey (q::qs) k=some q.2:=by simp[atKey,zC0,a]
   rw[qN2 e,b];exact d
  have a:¬q.1=k:=λz=>e (c.trans z);have b:atKey (q::qs) k=atKey qs k:=by simp[atKey,zC0,a]
  rw[qN3 e,b];exact ih
section
variable{P:Nu}{w:Nw}{H:Hp}{h:Heap}{a:γ}
theorem rd_of(b:HOk P w H h)(e:Rd H a u):ObjOk P w H h a u:=e.ok b
theorem Kk(b:HOk P w H h)(e:Rd H a (.dK kvs)):kvs.length<=M9/\(a==Nj)=false/\∃vs,KV kvs vs/\h.DictOf (qd0 P w) a vs:=show ObjOk P w H h a (.dK kvs) from rd_of b e
theorem dk_of{kvs:List (Key×V)}(b:HOk P w H h)(e:H a=some (.dK kvs)):kvs.length<=M9/\(a==Nj)=false/\∃vs,KV kvs vs/\h.DictOf (qd0 P w) a vs:=Kk b (.inl e)
theorem qaR0(c:HOk P w H h)(e:H a=some (.q (ks.map kV))):(tupleKind (qd0 P w)).is h ks a:=by obtain⟨_,b,r,o,d,f,n,g⟩:=(show ObjOk P w H h a (.q (ks.map kV)) from c a _ e);exact⟨o,b.toArray,n,d,f,g,by simpa using qV5 r⟩
theorem dt_rd(c:HOk P w H h)(e:Rd H a (.dT kvs)):kvs.length<=M9/\(a==Nj)=false/\∃xs,KT H kvs xs/\h.DictOfH (tupleKind (qd0 P w)) a xs:=by
 obtain⟨z,y,xs,r,o,d,f,g,i,j,k,n⟩:=(show ObjOk P w H h a (.dT kvs) from rd_of c e);refine⟨z,y,xs,r,o,d,f,g,i,j,k,λx b=>?_,n⟩;have all:∀{l:List (List Key×V)}{m:List (List Key×γ×V')},KT H l m->∀x∈m,(tupleKind (qd0 P w)).is h x.1 x.2.1:=by intro l m q;induction q with|nil=>intro x b;exact nomatch b|@cons p q ps qs hq t ih=>intro x b;rcases zAl.mp b with e|b;{subst e;exact qaR0 c (by rw[<-hq.1];exact hq.2.1)};exact ih x b
 exact all r x b
end
def DGet(H:Hp)(a:γ)(y:V)(r:Option V):Prop:=(∃kvs k,Rd H a (.dK kvs)/\y=kV k/\r=Hf kvs k)∨∃kvs k b,Rd H a (.dT kvs)/\y=.ref b/\H b=some (.q (k.map kV))/\r=Hf kvs k
section
variable{X:Cx}{j:List (γ×Obj)}{i:St}{H:Hp}{s:Sh}{a:γ}
theorem Rk.big(I:Rk X j i H s):Nj<s.heap.objs.size:=by exact Nat.lt_trans ∅ ((I.mod.glob.keeps I.bk).lt)
theorem qaT7{h':Heap}{ob:HO}(I:Rk X j i H s)(d:Mut (H a))(e:Heap.SameBut a s.heap h')(f:∃q,h'.get? a=some q)(c:ObjOk X.prog X.w (upd H a ob) h' a ob):Rk X j i (upd H a ob) {s with heap:=h',toks:=t'}:=I.write d (.inl rfl) (λb q g z=>(e.2 b g).trans z) f c
theorem qbc9{P:Nu}{w:Nw}{H':Hp}{h':Heap}{kvs:List (Key×V)}{vs:List (Key×V')}(z:kvs.length<=M9)(b:(a==Nj)=false)(rel:KV kvs vs)(c:h'.DictOf (qd0 P w) a vs):ObjOk P w H' h' a (.dK kvs):=⟨z,b,vs,rel,c⟩
end
section
variable{X:Cx}{g:List (γ×Obj)}{f:St}{H:Hp}{s:Sh}{a:γ}{kvs:List (Key×V)}{A:Nv}{E:V'->Sh->Prop}
theorem d_len(I:Rk X g f H s)(e:Rd H a (.dK kvs))(h:∀t s',Rk X g f H s'->Q (.int kvs.length t) s'):Nr (Nt X.prog X.w) A (call (.builtin "len") [.ref a]) Q E s:=by obtain⟨z,b,d,rel,c⟩:=Kk I.hok e;refine call_len_dict b c (by rw[<-rel.length];rw[Ng] at z;lia) ?_;rw[<-rel.length];exact h _ _ (I.tok _)
end
theorem qaj8{P:Nu}{w:Nw}{H:Hp}(h:Heap)(a:Nj<h.objs.size):ObjOk P w H (h.push {cls:=.type "dict",data:=.dict #[]}) h.objs.size (.dK []):=⟨zBg _,zBr.mpr (Ne.symm (zAj a)),[],.nil,Heap.DictOf.new h⟩
def qaW5:TE:=λ_ H Q=>∀p,H p=none->Q (.ref p) (upd H p (.dK []))
section
variable{X:Cx}{b:Pos}
theorem qaB8:PE X (.Dict [] [] b) qaW5:=λFx s a H Q I h=>
 wpAny_Dict_empty ⟨.ref s.heap.objs.size,_,I.laid (λ_ _ q=>zA2 _ q) (zA3 _) (qaj8 s.heap I.big),rfl,h _ (I.hok.fresh (zA3 _))⟩
end
def qay8:List (TE×TE)->St->Hp->(List (V×V)->Hp->Prop)->Prop|[],_,H,Q=>Q [] H|(tk,tv)::r,a,H,Q=>tk a H λx H1=>tv a H1 λy H2=>qay8 r a H2 λps H3=>Q ((x,y)::ps) H3
abbrev VV:List (V×V)->List (V'×V')->Prop:=Paired λp q=>Rh p.1 q.1/\Rh p.2 q.2
def PPs(X:Cx)(pos:Pos)(keys:List (Option Nx))(values:List Nx)(a:List (TE×TE)):Prop:=∀(Fx:List (γ×Obj))(s:Sh)(b:St)(H:Hp)(Q:List (V×V)->Hp->Prop),Rk X Fx b H s->qay8 a b H Q->Nr (Nt X.prog X.w) X.A (evalPairs (pairTrees keys values X.env pos)) (λvs s'=>∃ps H',Rk X Fx b H' s'/\VV ps vs/\Q ps H') X.xe s
theorem qaM8{X:Cx}{pos:Pos}:PPs X pos [] [] []:=λFx s a H Q I h=>pairTrees_nil_walk ⟨[],H,I,.nil,h⟩
theorem qaB1{X:Cx}{pos:Pos}{k v:Nx}{ks:List (Option Nx)}{vs:List Nx}{b tv:TE}{a:List (TE×TE)}(c:PE X k b)(d:PE X v tv)(e:PPs X pos ks vs a):PPs X pos (some k::ks) (v::vs) ((b,tv)::a):=λFx s r H Q I h=>
 pairTrees_cons_walk (thn (c Fx s r H _ I h) λu f ⟨x,H1,I1,g,i⟩=>thn (d Fx f r H1 _ I1 i) λo j ⟨y,H2,I2,l,q2⟩=>
   thn (e Fx j r H2 _ I2 q2) λp q ⟨m,H3,I3,rel,n⟩=>⟨(x,y)::m,H3,I3,.cons ⟨g,l⟩ rel,n⟩)
def qs7(kvs more:List (Key×V)):List (Key×V):=more.foldl (λacc a=>putK acc a.1 a.2) kvs
theorem KV.merge:∀{more:List (Key×V)}{a:List (Key×V')}{kvs:List (Key×V)}{vs:List (Key×V')},KV more a->KV kvs vs->KV (qs7 kvs more) (merged vs a):=by
 intro more a kvs vs r;unfold KV at r;induction r generalizing kvs vs with
 |nil=>intro q;exact q|@cons p q ps qs h t ih=>
  intro b;have e:KV (putK kvs p.1 p.2) (stored vs q.1 q.2):=by have:=b.put p.1 h.2;rw[<-h.1];exact this
  exact ih e
theorem qm5:∀(more kvs:List (Key×V)),(qs7 kvs more).length<=kvs.length+more.length|[],kvs=>by show kvs.length<=kvs.length+0;lia|p::r,kvs=>by have a:=qm5 r (putK kvs p.1 p.2);have b:=qaa6 kvs p.1 p.2;show (qs7 (putK kvs p.1 p.2) r).length<=_;rw[zAp];lia
theorem qM0{P:Nu}{w:Nw}:∀{kvs:List (Key×V)}{e:List (V'×V')},VV (kvs.map λf=>(kV f.1,f.2)) e->∃d,Carries (qd0 P w) e d/\KV kvs d|[],_,r=>by rw[Oy] at r;cases r;exact⟨[],True.intro,.nil⟩|p::kvs,_,r=>by rw[zAw] at r;cases r with|@cons a b as bs h t=>obtain⟨d,c,q⟩:=qM0 t;obtain⟨i,g⟩:=b;exact⟨(p.1,g)::d,⟨Kj h.1,rfl,c⟩,.cons ⟨rfl,h.2⟩ q⟩
def tDisp(a:List (TE×TE)):TE:=λc H Q=>∀p,H p=none->qay8 a c (upd H p (.dK [])) λps H2=>H2 p=some (.dK [])/\∃kvs:List (Key×V),ps=kvs.map (λb=>(kV b.1,b.2))/\kvs.length<=15/\Q (.ref p) (upd H2 p (.dK (qs7 [] kvs)))
theorem qaO0{X:Cx}{pos:Pos}{keys:List (Option Nx)}{values:List Nx}{b:List (TE×TE)}(h:PPs X pos keys values b)(d:keys.all (·.isSome)=true)(l:keys.length=values.length)(m:keys≠[])(i:keys.length<=15):PE X (.Dict keys values pos) (tDisp b):=by
 intro Fx s K H Q I q;have n:=I.hok.fresh (zA3 s.heap.objs.size);have I1:=I.laid (a:=s.heap.objs.size) (o:=.dK []) (h':=s.heap.push {cls:=.type "dict",data:=.dict #[]}) (t':=s.toks) (λ_ _ q=>zA2 _ q) (zA3 _) (qaj8 s.heap I.big);refine wpAny_Dict_walk (knd:=qd0 X.prog X.w) d l m i (thn (h Fx _ K _ _ I1 (q _ n)) λE F j=>?_);obtain⟨G,H2,I2,rel,e,f,p,J,q2⟩:=j;subst p;obtain⟨r,c,t⟩:=qM0 (P:=X.prog) (w:=X.w) rel;obtain⟨z,u,v,x,y⟩:=dk_of I2.hok e;cases x;refine⟨r,c,y,λk g A=>⟨.ref s.heap.objs.size,_,?_,rfl,q2⟩⟩;have B:(qs7 [] f).length<=M9:=by have C:=qm5 f [];rw[zBw] at C;rw[Ng];lia
 have D:∃q,k.get? s.heap.objs.size=some q:=let ⟨q,_,_,hq,_⟩:=g;⟨q,hq⟩
 exact qaT7 I2 (by rw[e];exact True.intro) A D (qbc9 B u (t.merge .nil) g)
structure M2(X:Cx)(o:Nx)(m:Str)(apos:Pos)(e f:Nx)(cpos:Pos):Prop where
 base:Nf o m X.env (eval o X.env)=eval o X.env
 few:((backTo cpos (M8 [e,f] X.env)).all (λx=>!x.1)&&(backToKw cpos (Nk [] X.env)).all (λx=>x.1.isSome)
   && decide (([e,f]:List Nx).length+([]:List Keyword).length+(if ([]:List Keyword).isEmpty then 0 else 1)<30))=true
 line:(apos.endLine==cpos.line)=true
 trees:backTo cpos (M8 [e,f] X.env)=[(false,eval e X.env),(false,eval f X.env)]
def IsD(H:Hp)(a:γ):Prop:=(∃kvs,Rd H a (.dK kvs))∨∃kvs,Rd H a (.dT kvs)
theorem qbb8(I:Rk X Fx k H s)(d:IsD H a):s.TypeIs (.ref a) "dict" /\ (∀b,Pz a=.ref b->∃ob,s.heap.get? b=some ob/\ob.dict=none)/\(a==Nj)=false:=by rcases d with⟨kvs,e⟩|⟨kvs,e⟩;{obtain⟨_,f,i,_,c⟩:=Kk I.hok e;refine⟨c.typeIs,λb q=>?_,f⟩;cases q;obtain⟨ob,_,_,g,h,_⟩:=c;exact⟨ob,g,h.2.1⟩};obtain⟨_,f,j,_,c⟩:=dt_rd I.hok e;refine⟨c.typeIs,λb q=>?_,f⟩;cases q;obtain⟨ob,_,_,g,h,_⟩:=c;exact⟨ob,g,h.2.1⟩
section
variable{X:Cx}{v:List (γ×Obj)}{t:St}{H:Hp}{s:Sh}{a:γ}{y d:V}{u r:V'}{o:Option V}{A:Nv}{E:V'->Sh->Prop}
theorem qbd1(n:A.units+1<cLine)(I:Rk X v t H s)(g:DGet H a y o)(i:Rh y u)(j:Rh d r)(h:∀m s',Rk X v t H s'->Rh (o.getD d) m->Q m s'):Nr (Nt X.prog X.w) A (call (.builtin "dict.get") [.ref a,u,r]) Q E s:=by rcases g with⟨kvs,k,e,ey,l⟩|⟨kvs,k,b,e,ey,eb,l⟩;{subst ey;obtain⟨z,f,q,rel,c⟩:=Kk I.hok e;refine call_meetsIn Qn c.typeIs Qw (Qu _ _ _) (meets_dict_get_default (qd0 X.prog X.w) a (Kj i) f r) ⟨_,c.mapOf,h _ _ (I.tok _) ?_⟩;rw[l];exact(rel.val k).getD j};subst ey;cases (show u=Pz b from i);obtain⟨z,f,p,rel,c⟩:=dt_rd I.hok e;refine call_meetsIn Qn c.typeIs Qw (Qu _ _ _) (meetsH_dict_get_default (tupleKind (qd0 X.prog X.w)) a b f r) ⟨tupleKind_room_in1 n,k,p,qaR0 I.hok eb,c,h _ _ (I.tok _) ?_⟩;rw[l];exact(rel.val k).getD j
end
def qaW6(td ty tx:TE):TE:=λb H Q=>td b H λx H1=>∃a,x=.ref a/\IsD H1 a/\ty b H1 λy H2=>tx b H2 λz H3=>∃o,DGet H3 a y o/\Q (o.getD z) H3
section
variable{X:Cx}{o e f:Nx}{N M:Pos}{S O R:TE}
theorem qaB9(i:X.A.units+1<cLine)(j:PE X o S)(k:PE X e O)(l:PE X f R)(m:M2 X o "get" N e f M):PE X (.Call (.Attribute o "get" N) [e,f] [] M) (qaW6 S O R):=by
 intro Fx s L H Q I h;refine wpAny_Call_method m.base m.few m.line F.plainAttrs_dict Qn F.type_dict_get (thn (j Fx s L H _ I h) λu n b=>?_);obtain⟨x,H1,I1,p,a,q,d,r⟩:=b;subst q;obtain rfl:u=Pz a:=p;obtain⟨t1,t2,_⟩:=qbb8 I1 d;refine⟨t1,t2,?_⟩;rw[m.trees];refine Calls.callWith_builtin rfl (Calls.evalArgs_plain (Calls.spliced_cons (thn (k Fx n L H1 _ I1 r) λC t ⟨y,H2,I2,v,q2⟩=>
  Calls.spliced_cons (thn (l Fx t L H2 _ I2 q2) λD E ⟨z,H3,I3,w,G,g,B⟩=>Calls.spliced_nil ?_))))
 exact qbd1 i I3 g v w λJ K I4 c=>⟨_,H3,I4,c,B⟩
end
end L2
namespace Att
open PySem PySem.W PySem.Calls PyProof.Rows
theorem qB6:∀(ns:List Int)(vs:List V'),WellAll P h vs (ns.map WData.int)->IntsAre vs ns:=by intro ns;induction ns with|nil=>intro vs w;rw[Oy] at w;cases w;exact .nil|cons n ns c=>intro vs w;rw[zAw] at w;cases w with|cons a b=>cases a;exact .cons _ _ (c _ b)
theorem qan6{l:OpenLaw}(m:l.most=some n)(b:l.row.toRowW.claim.pre args=true)(i:WellAll P h vals args):∃a vs ns,vals=[Pz a]/\args=[WData.list (ns.map WData.int)]/\h.get? a=some {cls:=.type "list",data:=.seq vs.toArray}/\IntsAre vs ns/\ns.length<=n:=by
 have j:WShape.hasAll [] args [.list .int]=true:=(pre_splitW b).1;have k:l.pre.holds [] {args:=args}=true:=(pre_splitW b).2;obtain⟨d,r,rfl,o,p⟩:=hasAllW_cons j;obtain rfl:=hasAllW_nil p;obtain⟨x,rfl,s⟩:=hasW_list o;obtain⟨ns,rfl⟩:=items_int s;have c:ns.length<=n:=by
  unfold OpenLaw.pre at k;have f:(WTm.not (.lt (.lit (.int (n:Int))) (.len (.arg 0)))).holds [] {args:=[.list (ns.map .int)]}=true:=by have f:=(holds_andW k).1;rw[m] at f;exact f
  have g:=condW_of f (w_not (w_lt w_lit (w_len_list (w_arg rfl))));rw[zAk] at g;refine zC4 λq=>?_;have t:(n:Int)<((ns.length:Nat):Int):=⋯;first
   |(rw[zAn t] at g;exact absurd g ∅)
   |(simp at g;lia)
 cases i with|cons u v=>cases v;cases u with|list w e=>exact⟨_,_,ns,rfl,rfl,w,qB6 ns _ e,c⟩
theorem qao5(l:OpenLaw)(args:List WData):l.row.toRowW.claim.post args (.bool true) args=true:=postW_of (r:=l.row.toRowW) (X:=(true==true))
 (show WShape.has [] (.bool true) .bool=true by first|rfl|decide|simp[WShape.has,WShape.arms,WShape.armsAll])
 (show (WTm.eq .res (.lit (.bool true))).value [] {args:=args,res:=some (.bool true),after:=args}=some (.bool (true==true)) from w_eq_bool (w_res rfl) w_lit) rfl
theorem qab1{l:OpenLaw}(u:l.most=some n)(h:d.params.defaults=[])(call:∀(w:Nw)(s₀ s₁:Sh)(mg i:Str->Option V')(fa:γ)(o:Obj)(j cd b:V')(a:γ)(vs:List V')(ns:List Int),
 Ground q loose [] XP w s₀ mg i s₁.heap->YP w s₁.heap->s₁.heap.get? fa=some o->o.data=.func (docDef d.name d.params d.body d.scope j cd b)->s₁.heap.CodeRec cd d.name->mg d.name=some (.ref fa)->s₁.heap.get? a=some {cls:=.type "list",data:=.seq vs.toArray}->IntsAre vs ns->ns.length<=n->s₁.gens = #[]->codeAny (Nt l.prog w) callerA (.call (.ref fa) ⟨[.ref a],[]⟩) (λr s'=>r=.ok (.ret (.bool true))/\OldK s₁.heap s'.heap/\s'.os=s₁.os/\AllBare s'.gens) s₁):WalkO q loose XP YP l.row.toRowW d [] (λf vs=>PySem.call f vs):=by intro w s₀ s₁ mg i G Y fa o j cd b v kV x y k s m z args vals I c t A p B;obtain rfl:v=.none:=Dflts.none s h;obtain rfl:kV=.none:=Dflts.noKw s;obtain⟨a,vs,ns,rfl,rfl,e,hints,g⟩:=qan6 u c p;refine enter_call (codeAny_mono (call w s₀ s₁ mg i fa o j cd b a vs ns G Y x (fd_plain y) k m e hints g z) λr s' C=>?_);obtain⟨rfl,D,E,F⟩:=C;exact⟨.inl ⟨.bool true,.bool true,[],rfl,λ_=>rfl,.bool true,qao5 l _,λ_=>⟨List.Pairwise.nil,λ_ H=>(nomatch H)⟩⟩,D,E,F⟩
end Att
namespace L2
open PySem PySem.Spec PyProof.Rows
theorem qT0:∀{vs:List V'}{ns:List Int},IntsAre vs ns->Ri (ns.map V.int) vs|_,_,.nil=>.nil|_,_,.cons n t h=>.cons ⟨t,rfl⟩ (qT0 h)
def Only(H:Hp):Prop:=∀b,H b=none∨∃o xs,H b=some (.frz o (.l xs))
theorem qaE4{K:Qe}(KX:K.In s₁.heap)(g:s₁.heap.Ns Nh mg)(c:s₁.heap.Ns builtinsNs C)(D:∀x:Str,x ≠ "__name__" -> C x=Nc x)(i:s₁.heap.NoLimit)(T:s₁.gens = #[])(B:s₁.heap.get? a=some {cls:=.type "list",data:=.seq vs.toArray})(hi:IntsAre vs ns)(M:ns.length<=M9)(U:Room k callerA)(F:∀base:Heap,K.In base->base.Ns Nh mg->Gv P w K mg base CX k fa fd [x] sp)(hbind:∀(s:Sh)(u:V'),BindsTo s fd ⟨[u],[]⟩ [(x,u)])(E:∀H:Hp,Only H->SqL K H a (ns.map V.int)->sp [.ref a] H (λv _=>v=.bl true) λ_ _ _=>False)(G:∀H e s',CX [] H s₁ (λ_ _ _=>False) e s'->False):codeAny (Nt P w) callerA (.call (.ref fa) ⟨[.ref a],[]⟩) (λr s'=>r=.ok (.ret (.bool true))/\OldK s₁.heap s'.heap/\s'.os=s₁.os/\AllBare s'.gens) s₁:=by
 have N:=qT0 hi;have lenV:=hi.length;have core:∀H:Hp,Only H->SqL K H a (ns.map V.int)->HOk P w H s₁.heap->(∀b,H b≠none->b=a)->(H a≠none->K.lookup a=none)->codeAny (Nt P w) callerA (.call (.ref fa) ⟨[.ref a],[]⟩) (λr s'=>r=.ok (.ret (.bool true))/\OldK s₁.heap s'.heap/\s'.os=s₁.os/\AllBare s'.gens) s₁:=by
  intro H O X j Q Y;have base_of:∀{b:γ}{o:Obj},s₁.heap.get? b=some o->H b=none->(I9 s₁.heap H).get? b=some o:=λe n=>qaF4 e n;have I:∀{b:γ}{o:Obj}{l:Array DictEntry}{p:Nat},s₁.heap.get? b=some o->o.data=.dict l p->H b=none:=λ{b o l p} e d=>by cases q:H b with|none=>rfl|some u=>have J:b=a:=Q b (by rw[q];simp);subst J;rw[B] at e;cases e;have Z:Data.seq vs.toArray _=Data.dict l p:=d;cases Z
  have f:∀{b:γ}{m:Str->Option V'},s₁.heap.Ns b m->(I9 s₁.heap H).Ns b m:=λ{b m} ⟨o,l,p,e,d,r⟩=>⟨o,l,p,base_of e (I e d),d,r⟩;have t:K.In (I9 s₁.heap H):=λb o e=>base_of (KX b o e) (by cases q:H b with|none=>rfl|some u=>have J:b=a:=Q b (by rw[q];simp);subst J;rw[Y (by rw[q];simp)] at e;cases e);have hM:Mod K mg (I9 s₁.heap H):=⟨t,f g,⟨C,f c,D⟩,let ⟨mc,h1,h2⟩:=i;⟨mc,f h1,h2⟩⟩;have e0:Env0 P w K mg (I9 s₁.heap H) callerA [] s₁ H:=⟨rfl,hM,λb o e=>qaP5 e,zC7 (qaq4 _ _),trivial,λb c=>absurd (show b∈([]:List γ) from c) (by simp),j,.of_eq T⟩;refine codeAny_mono ((F _ t (f g)).run callerA [] s₁ H ⟨[.ref a],[]⟩ [.ref a] [.ref a] _ _ U e0 (hbind s₁ (.ref a)) (.cons rfl .nil) (E H O X)) λr s' h=>?_;cases r with|error e=>exact(G H e s' h).elim|ok fl=>cases fl with|next=>exact Q6 h|brk=>exact Q6 h|cont=>exact Q6 h|ret u=>obtain⟨v,H',os,bare,R,y,r',q⟩:=h;have q':v=.bl true:=q;subst q';obtain rfl:u=P4 true:=r';refine⟨rfl,OldK.of_keep λb o e=>?_,os,bare⟩;cases q:H b with|none=>exact R.keep b o e q (by intro z;exact absurd (show b∈([]:List γ) from z) (by simp)) (by simp)|some u=>rcases O b with z|⟨ob,xs,z⟩;{rw[q] at z;cases z};have z2:=R.frzs b ob _ z;obtain⟨S,_⟩:=j b _ z;obtain⟨e2,_⟩:=y b _ z2;rw[e] at S;cases S;exact e2
 cases L:K.lookup a with|some o=>have e:=KX a o L;rw[B] at e;cases e;refine core (λ_=>none) (λ_=>.inl rfl) (.inr ⟨_,vs.toArray,_,L,rfl,rfl,rfl,by rw[zA4,lenV];exact M,by simpa using N⟩) (λb u z=>by have A:(none:Option HO)=some u:=z;cases A) (λb z=>absurd rfl z) λz=>absurd rfl z|none=>refine core (λb=>if b=a then some (.frz {cls:=.type "list",data:=.seq vs.toArray} (.l (ns.map V.int))) else none) (λb=>?_) (.inl (.inr ⟨{cls:=.type "list",data:=.seq vs.toArray},if_pos rfl⟩)) (λb u z=>?_) (λb z=>?_) λ_=>L;{by_cases c:b=a;{exact .inr ⟨_,_,if_pos c⟩};exact .inl (if_neg c)};{by_cases c:b=a;{have A:=(if_pos c).symm.trans z;cases A;subst c;exact⟨B,by rw[zAk];exact M,vs,_,N,B⟩};have A:=(if_neg c).symm.trans z;cases A};by_cases c:b=a;{exact c};exact absurd (if_neg c) z
theorem qaI7{l:W.OpenLaw}{K:Params->Qe}{CX:Nw->CXT}{sp:Nw->Sp}(y:l.most=some n)(j:n<=M9)(m:d.params.defaults=[])(z:Room k callerA)(A:∀(w:Nw)(h:Heap),YP w h->(K w.params).In h)(F:∀(w:Nw)(mg:Str->Option V')(fa:γ)(h:Heap),(K w.params).In h->h.Ns Nh mg->mg d.name=some (.ref fa)->∃fd:δ,(∀(s:Sh)(u:V'),BindsTo s fd ⟨[u],[]⟩ [(x,u)])/\∀base:Heap,(K w.params).In base->base.Ns Nh mg->Gv l.prog w (K w.params) mg base (CX w) k fa fd [x] (sp w))(p:∀(w:Nw)(H:Hp)(a:γ)(ns:List Int),ns.length<=n->Only H->SqL (K w.params) H a (ns.map V.int)->sp w [.ref a] H (λv _=>v=.bl true) λ_ _ _=>False)(r:∀(w:Nw)(H:Hp)(s:Sh)(e:V')(s':Sh),CX w [] H s (λ_ _ _=>False) e s'->False):W.WalkO q loose XP YP l.row.toRowW d [] (λf vs=>PySem.call f vs):=by refine Att.qab1 y m λw s₀ s₁ mg M fa o N O B a vs ns G Y P Q C t i hints c D=>?_;have KX:=A w _ Y;obtain⟨fd,E,I⟩:=F w mg fa _ KX G.T.g t;exact qaE4 KX G.T.g G.T.b G.T.builtins G.T.nolimit D i hints (zA7 c j) z I E (λH J L=>p w H a ns c J L) λH e s'=>r w H s₁ e s'
end L2
/- THE LAST THEOREM (shape;LID,My.* are yours):My.Adr: a structure of the addresses that your layer names (classes,functions);My.Txt K t: a structure (Prop) of the equations over K;
 My.txt_mk:{K} {implicit addresses ..} (e1:nsIn K Nh "law"=some (some (.ref f))) (e2:K.lookup f=some ⟨oc,od,.func (fnOf "law" "law" params body scope dV kV doc pm an cdv ct),sl⟩) (e3:codeIn K cdv "law"=true) .. : ∃t,My.Txt K t
(the tactic k_is has no namespace: write k_is) -/
namespace L2
open PySem PySem.Spec PyProof.Rows
variable{f:γ}{qual x:Str}{st:Ny}
noncomputable def qh3(s:Ny)(j:Nat):Ny:=match s with|.ClassDef _ _ _ body _ _ _ _ _ _ _=>body.getD j (.Pass ⟨0,0,0,0⟩)|_=>.Pass ⟨0,0,0,0⟩
noncomputable def qf9(s:Ny):Arguments:=match s with|.FunctionDef _ a _ _ _ _ _ _ _ _=>a|_=>{posonlyargs:=[],args:=[],vararg:=none,kwonlyargs:=[],kw_defaults:=[],kwarg:=none,defaults:=[]}
noncomputable def qd6(s:Ny):List Ny:=match s with|.FunctionDef _ _ b _ _ _ _ _ _ _=>b|_=>[]
noncomputable def qa4(s:Ny):Scope:=match s with|.FunctionDef _ _ _ _ _ _ sc _ _ _=>sc|_=>{kind:=.function,names:=[],isGenerator:=false,isCoroutine:=false}
abbrev CX0:CXT:=λ_ _ _ _ _ _=>False
abbrev E0:XK:=λ_ _ _=>False
theorem pass0:qM7 CX0 X (λ_=>E0):=λ_ _ _ _ _ _ _ h=>h.elim
structure Fun(K:Qe)(x qual:Str)(st:Ny)(f:γ)(fd:δ):Prop where
 ex:∃(oc:V')(od:Option γ)(kV doc pm:V')(an:Option γ)(cdv ct:V')(osl:Array (Option V')),
  fd=W.fnOf x qual (qf9 st) (qd6 st) (qa4 st) .none kV doc pm an cdv ct/\K.lookup f=some ⟨oc,od,.func fd,osl⟩/\W.codeIn K cdv qual=true
 kp:W.keepIn K (.ref f)=true
section
variable{P:Nu}{w:Nw}{K:Qe}{r:Str->Option V'}{p:Heap}
theorem Fun.ok(F:Fun K x qual st f fd)(S:qa9 N ps (qa4 st))(len:∀vs H Q E,sp vs H Q E->vs.length=ps.length)(hbody:∀(a:V')(A:Nv)(outer:List Env)(s:Sh)(H:Hp)(vs:List V)(Q:VK)(E:XK),Room k (A.deeper (envOfC qual (qa4 st) s.heap.objs.size f a))->sp vs H Q E->∃t,PSs (Ha true CX0 P w K r p N qual (qa4 st) f a A outer s H E).nox (qd6 st) t/\t {nx:=λ_ H'=>Q .non H',rt:=Q} (start N vs) H):Gv P w K r p CX0 (k+1) f fd ps sp:=by obtain⟨j,l,kV,d,m,n,a,o,e,rfl,g,b⟩:=F.ex;refine Lv g b S len λA outer s H vs Q E i c=>?_;obtain⟨t,h,q⟩:=hbody a A outer s H vs Q E i c;exact⟨t,h.nox,q⟩
theorem Fun.binds(F:Fun K x qual st f fd)(h:∀(kV a c:V')(d:Option γ)(b e:V')(us:List V'),us.length=ps.length->bindArgs (W.fnOf x qual (qf9 st) (qd6 st) (qa4 st) .none kV a c d b e) ⟨us,[]⟩=pure (ps.zip us)):Binds K fd ps []:=by obtain⟨j,k,kV,a,c,d,b,e,g,rfl,l,i⟩:=F.ex;exact .all (h kV a c d b e)
theorem qaq5{kV:V'}(l:K.lookup f=some ⟨oc,od,.func (W.fnOf x qual (qf9 st) (qd6 st) (qa4 st) .none kV b g e a h),d⟩)(c:W.codeIn K a qual=true)(k:W.keepIn K (.ref f)=true):Fun K x qual st f (W.fnOf x qual (qf9 st) (qd6 st) (qa4 st) .none kV b g e a h):=⟨⟨oc,od,kV,b,g,e,a,h,d,rfl,l,c⟩,k⟩
end
theorem hu_of{A:Nv}(a:Room k A):A.units+1<cLine:=zC6 (Nat.add_le_add_left (by decide:1<=64) _) a.units
theorem qan5(h:n<=1000):n<M9:=zC6 h ∅
section
variable{X:Cx}
theorem pv(i:Nat)(b:X.N[i]?=some x:=by rfl)(c:Vis X.env.scope x:=by first|exact Q8 rfl|exact Q7 (Q8 rfl)|exact Q7 (Q7 rfl))(d:N' x:=by decide)(a:(x==("__classdict__" : Str))=false:=by decide):PE X (.Name x pos) (Ja i):=qq0 b c d a
theorem qat1:CallR X (.builtin "len") (λxs H Q=>∃a kvs,xs=[V.ref a]/\H a=some (.dK kvs)/\Q (.int kvs.length) H):=by intro Fx s f H xs d Q I r h;obtain⟨a,kvs,rfl,b,q⟩:=h;obtain⟨u,rfl,c⟩:=B7 r;cases c;exact d_len I (.inl b) λt e I'=>⟨.int kvs.length,H,I',⟨t,rfl⟩,q⟩
end
def Same(H H':Hp):Prop:=∀b o,H b=some o->H' b=some o
theorem Same.trans(a:Same H H1)(b:Same H1 H2):Same H H2:=λc o h=>b c o (a c o h)
end L2
set_option maxHeartbeats 4000000
namespace L2
open PySem PySem.Spec PyProof.Rows
variable{H:Hp}{a:γ}{e:Nx}{es:List Nx}{i:Int}{p:Pos}{t:TA}{x:Str}{xs:List V}{α:Type}
theorem K7{t:Sem α}(h:Nr M A t Q (λ_ _=>False) s)(b:∀a s,Q a s->Q' a s):Nr M A t Q' E s:=Nl h b λ_ _ x=>x.elim
noncomputable def Hg(env:Env):List (Str×NameKind)->List (Str×γ)->List (Str×γ)|[],acc=>acc|(n,k)::r,acc=>Hg env r (if k==Q4 then (n,(env.cells.lookup n).getD 0)::acc else acc)
theorem qz7{env:Env}:∀(l:List (Str×NameKind))(acc:List (Str×γ)),(∀x∈l,x.2=Q4->∃c,env.cells.lookup x.1=some c)->(forIn l acc λ(x:Str×NameKind)(r:List (Str×γ))=>
     (match x with
     |(name,kind)=>if (kind==Q4)=true then (do let c<-cellOf env name;pure (ForInStep.yield ((name,c)::r)):Sem (ForInStep (List (Str×γ)))) else pure (ForInStep.yield r)))=(pure (Hg env l acc):Sem _)
 |[],acc,_=>rfl
 |(n,k)::r,acc,h=>by
   rw[List.forIn_cons];by_cases a:(k==Q4)=true
   . obtain⟨c,b⟩:=h (n,k) zAb (by simpa using a)
     have b:=b;dsimp only;rw[if_pos a];have e:cellOf env n=pure c:=by unfold cellOf;rw[b]
     rw[e];show (forIn r ((n,c)::acc) _:Sem _)=_;rw[qz7 r ((n,c)::acc) λx d=>h x (zA6 _ d)];show _=(pure (Hg env r (if (k==Q4)=true then (n,(env.cells.lookup n).getD 0)::acc else acc)):Sem _)
     rw[if_pos a,b];rfl
   dsimp only;rw[if_neg a];show (forIn r acc _:Sem _)=_;rw[qz7 r acc λx d=>h x (zA6 _ d)];show _=(pure (Hg env r (if (k==Q4)=true then (n,(env.cells.lookup n).getD 0)::acc else acc)):Sem _)
   rw[if_neg a]
theorem qL9(h:∀x∈sc.names,x.2=Q4->∃c,env.cells.lookup x.1=some c):closureFor sc env=pure (Hg env sc.names []):=by unfold closureFor;show (forIn sc.names [] _ >>= _)=_;have:=qz7 sc.names [] h;rw[show (forIn sc.names ([]:List (Str×γ)) _:Sem _)=pure (Hg env sc.names []) from this];rfl
theorem qak1{env:Env}:∀(l:List (Str×NameKind))(acc:List (Str×γ))(x:Str)(c:γ),(x,c)∈Hg env l acc->(x,c)∈acc∨((x,Q4)∈l/\c=(env.cells.lookup x).getD 0)|[],acc,x,c,h=>.inl h|(n,k)::r,acc,x,c,h=>by rcases qak1 r _ x c h with h|⟨h,e⟩;{by_cases a:(k==Q4)=true;{rw[if_pos a] at h;rcases zAl.mp h with h|h;{cases h;exact .inr ⟨by rw[show k=Q4 by simpa using a];exact zAb,rfl⟩};exact .inl h};rw[if_neg a] at h;exact .inl h};exact .inr ⟨zA6 _ h,e⟩
theorem qak2{env:Env}:∀(l:List (Str×NameKind))(acc:List (Str×γ))(x:Str),(∃c,(x,c)∈acc)->∃c,(x,c)∈Hg env l acc|[],acc,x,h=>h|(n,k)::r,acc,x,⟨c,h⟩=>qak2 r _ x ⟨c,by split;exact zA6 _ h;exact h⟩
theorem qS3{env:Env}:∀(l:List (Str×NameKind))(acc:List (Str×γ))(x:Str),(x,Q4)∈l->∃c,(x,c)∈Hg env l acc|[],acc,x,h=>by simp at h|(n,k)::r,acc,x,h=>by rcases zAl.mp h with h|h;{cases h;exact qak2 r _ _ ⟨_,by rw[if_pos (by rfl)];exact zAb⟩};exact qS3 r _ x h
theorem qy1{α:Type}:∀{l:List (Str×α)}{x:Str},(∃c,(x,c)∈l)->∃c,l.lookup x=some c|[],x,⟨c,h⟩=>by simp at h|(n,a)::r,x,⟨c,h⟩=>by cases b:x==n with|true=>exact⟨a,by simp only[zAu,b]⟩|false=>rcases zAl.mp h with h|h;{cases h;simp at b};obtain⟨d,e⟩:=qy1 ⟨c,h⟩;exact⟨d,by simp only[zAu,b];exact e⟩
noncomputable def Gh(a:St)(src:List (Option Nat)):St:=src.map λo=>match o with|none=>none|some j=>(a[j]?).getD none
noncomputable def qu9(X:Cx)(NY:List Str)(src:List (Option Nat))(sc:Scope):Bool:=(sc.kind==.function)&&(src.length==NY.length) &&
 (sc.names.all λx=>x.2 != .cell&&(x.2 != .local||sc.names.lookup x.1==some .local)&&(x.2 != .free||(X.env.scope.names.lookup x.1==some .cell||X.env.scope.names.lookup x.1==some .free))) &&
 ((NY.zip src).all λp=>match p.2 with|none=>true|some j=>X.N[j]?==some p.1&&sc.names.lookup p.1==some .free)
def qj7(X:Cx)(NY:List Str)(sc:Scope)(C:γ)(a:Sh)(H0:Hp)(ex:List γ):Cx where
 prog:=X.prog
 w:=X.w
 K:=X.K
 mg:=X.mg
 base:=X.base
 A:=X.A
 N:=NY
 s₀:=a
 H₀:=H0
 env:=compEnvC sc (Hg X.env sc.names []) C X.env
 outer:=X.stack
 stack:=X.stack
 ex:=ex
 fn:=λ_=>false
 calm:=X.calm
 pn:=[]
 xe:=λ_ _=>False
def PFs(X:Cx)(ifs:List Nx)(t:TT):Prop:=∀(Fx:List (γ×Obj))(s:Sh)(b:St)(H:Hp)(Q:Bool->Hp->Prop),Rk X Fx b H s->t b H Q->Nr (Nt X.prog X.w) X.A (forIn ifs true λc r=>if r=true then do let a<-isTrue c X.env (eval c X.env);pure (ForInStep.yield a) else pure (ForInStep.yield r)) (TP X Fx b Q) X.xe s
def tYes:TT:=λ_ H Q=>Q true H
theorem qaN1:PFs X [] tYes:=λ_ _ _ H _ I h=>wpAny_tests_nil ⟨H,I,h⟩
theorem qaY4{t:TT}(h:PT X c t):PFs X [c] t:=λFx s a H Q I q=>wpAny_tests_one (h Fx s a H Q I q)
theorem qp7(I:Nat->Sh->Prop)(turn:∀n s,I n s->Nr (Nt prog w) A (pyNext it) (λr s₁=>match r with
     |none=>R (.ok .next) s₁
     |some v=>Nr (Nt prog w) A (letOwnedTupleGo target it v) (λ_ s₁'=>Nr (Nt prog w) A (assign target env v) (λ_ s₂=>
         Nr (Nt prog w) A (forIn ifs true λc r=>if r=true then do let a<-isTrue c env (eval c env);pure (ForInStep.yield a) else pure (ForInStep.yield r)) (λa s₃=>
           if a=true then Nr (Nt prog w) A (eval elt env) (λx s₄=>
             Nr (Nt prog w) A (call (.builtin "list.append") [acc,x]) (λ_ s₅=>∃m,m<n/\I m s₅) (λ_ _=>False) s₄) (λ_ _=>False) s₃
           else ∃m,m<n/\I m s₃) (λ_ _=>False) s₂) (λ_ _=>False) s₁') (λ_ _=>False) s₁) (λ_ _=>False) s)(n:Nat)(h:I n s):codeAny (Nt prog w) A (.compLoop (.ListComp elt [⟨target,iter,ifs,0⟩] scope pos) 0 it acc env) R s:=by
 refine codeAny_loop rfl I (λn s b=>?_) n h;show Nr _ A ((compTurn (.ListComp elt [⟨target,iter,ifs,0⟩] scope pos) 0 it acc env).onRaise (λx=>do noteFrame x env;theTreesLotGoes x)) _ _ s;refine wpAny_noted ?_;rw[compTurn_list];refine J' (wpAny_standAt (J' (K7 (turn n s b) λr s₁ h₁=>?_)));cases r with
 |none=>exact M7 h₁
 |some v=>
   refine J' (K7 h₁ λ_ s₁' h₁'=>?_);refine J' (K7 h₁' λ_ s₂ h₂=>J' (K7 h₂ λa s₃ h₃=>?_));cases a with
   |false=>exact M7 ⟨rfl,h₃⟩
   |true=>
     exact J' (J' (K7 h₃ λx s₄ h₄=>J' (K7 h₄ λ_ s₅ h₅=>M7 (M7 ⟨rfl,h₅⟩))))
def qw0(J:It)(g:TG)(tf:TT)(te:TE)(D:γ)(R:Hp->Prop)(σ0:St)(H0:Hp):Prop:=∃W:Nat->Nat->St->Hp->Prop,(∃m,W 0 m σ0 H0)/\∀i m c H,W i m c H->(J.stop i H/\R H)∨(J.go i H/\∃N:St->Hp->Prop,(∀c' H',N c' H'->∃a,a<m/\W (i+1) a c' H')/\∀x H',J.yld i H x H'->g x c H' λσ2 H2=>tf σ2 H2 λb H3=>
     if b=true then te σ2 H3 λv H4=>∃xs,H4 D=some (.l xs)/\xs.length<M9/\N σ2 (upd H4 D (.l (xs++[v]))) else N σ2 H3)
theorem qq5{env:Env}{x:Str}:∀{names:List (Str×NameKind)},(∀y∈names,y.2≠.cell)->((names.map λ(n,k)=>if (k==Q4&&env.scope.kind==.function&&env.kindOf n==some .cell) then (n,Q5) else (n,k)).lookup x=some .cell∨(names.map λ(n,k)=>if (k==Q4&&env.scope.kind==.function&&env.kindOf n==some .cell) then (n,Q5) else (n,k)).lookup x=some .free)->names.lookup x=some .free
 |[],_,h=>by simp at h|(n,k)::r,hc,h=>by
  have c:=@qq5 env x r λy d=>hc y (zA6 _ d);simp only[zAw] at h;cases b:x==n with
  |true=>
   simp only[zAu,b];by_cases a:(k==Q4&&env.scope.kind==.function&&env.kindOf n==some .cell)=true
   .have:k=Q4:=by simp only[zBk,zBl] at a;exact a.1.1
    rw[this]
   rw[if_neg a] at h;simp only[zAu,b] at h;rcases h with h|h;{exact absurd (Qc h) (hc (n,k) zAb)};exact h
  |false=>simp only[zAu,b];apply c;by_cases a:(k==Q4&&env.scope.kind==.function&&env.kindOf n==some .cell)=true;{rw[if_pos a] at h;simpa only[zAu,b] using h};rw[if_neg a] at h;simpa only[zAu,b] using h
theorem qi4{env:Env}{x:Str}:∀{names:List (Str×NameKind)},names.lookup x=some .free->((names.map λ(n,k)=>if (k==Q4&&env.scope.kind==.function&&env.kindOf n==some .cell) then (n,Q5) else (n,k)).lookup x=some .cell∨(names.map λ(n,k)=>if (k==Q4&&env.scope.kind==.function&&env.kindOf n==some .cell) then (n,Q5) else (n,k)).lookup x=some .free)|[],h=>by simp at h|(n,k)::r,h=>by have c:=@qi4 env x r;simp only[zAw];cases a:x==n with|true=>simp only[zAu,a] at h;have h:=Qc h;by_cases b:(k==Q4&&env.scope.kind==.function&&env.kindOf n==some .cell)=true;{rw[if_pos b];simp only[zAu,a];exact .inl trivial};rw[if_neg b];simp only[zAu,a];rw[h];exact .inr rfl|false=>simp only[zAu,a] at h;by_cases b:(k==Q4&&env.scope.kind==.function&&env.kindOf n==some .cell)=true;{rw[if_pos b];simp only[zAu,a];exact c h};rw[if_neg b];simp only[zAu,a];exact c h
section
variable{X:Cx}{Fx:List (γ×Obj)}{σ:St}{H2:Hp}{s2:Sh}{elt tg iter:Nx}{ifs:List Nx}{sc:Scope}{pos:Pos}{NY:List Str}{src:List (Option Nat)}{J:It}{fp:List γ}{it:γ}{tn:Nat->Heap->Prop}{g:TG}{tf:TT}{te:TE}
theorem qX2{R:γ->Hp->Prop}{RR:V'->γ->Result->Sh->Prop}(ck:qu9 X NY src sc=true)(hc:X.calm=true)(I2:Rk X Fx σ H2 s2)(T:K6 X.prog X.w X.K tg J fp it tn)(I:tn 0 s2.heap)(f2:∀b∈fp,Jb X Fx H2 b)(hg:∀C P H0,PG (qj7 X NY sc C P H0 fp) tg g)(hf:∀C P H0,PFs (qj7 X NY sc C P H0 fp) ifs tf)(he:∀C P H0,PE (qj7 X NY sc C P H0 fp) elt te)(rd:∀D,H2 D=none->qw0 J g tf te D (R D) (Gh σ src) (upd H2 D (.l [])))(fin:∀D C H' s',Rk X Fx σ H' s'->R D H'->H' C=none->X.s₀.heap.objs.size<=C->C≠X.env.locals->(∀x c,X.env.cells.lookup x=some c->c≠C)->(∀p∈X.pn++Fx,p.1≠C)->C∉X.fs->(∃m,s'.heap.Ns C m)->RR (.ref D) C (.ok .next) s'):Nr (Nt X.prog X.w) X.A (newList []) (λacc s₃=>Nr (Nt X.prog X.w) X.A (newFunctionEnv sc X.env.globals (Hg X.env sc.names []) [] X.env.qual none .none (some X.env)) (λcenv s₄=>
 codeAny (Nt X.prog X.w) X.A (.compStart (.ListComp elt [⟨tg,iter,ifs,0⟩] sc pos) 0 (.ref it) acc {cenv with scope:=relabel sc X.env}) (RR acc cenv.locals) s₄) E s₃) E s2:=by
 unfold qu9 at ck;simp only[zBk,zBl,zBo] at ck;obtain⟨⟨⟨hkind,G⟩,Q⟩,S⟩:=ck;have hcell:∀y∈sc.names,y.2≠.cell:=λy U e=>by have:=(Q y U).1.1;rw[e] at this;exact absurd this ∅
 have hfree:∀y∈sc.names,y.2=.free->(X.env.kindOf y.1=some .cell∨X.env.kindOf y.1=some .free):=λy U e=>by have:=(Q y U).2;rw[e] at this;show X.env.scope.names.lookup y.1=some .cell∨X.env.scope.names.lookup y.1=some .free;simpa using this
 have clsub:∀x c,(Hg X.env sc.names []).lookup x=some c->X.env.cells.lookup x=some c:=λx c e=>by rcases qak1 _ _ x c (PySem.mem_of_lookup e) with h|⟨h,q⟩;{simp at h};obtain⟨d,M⟩:=I2.ok.has x (hfree _ h rfl);rw[M] at q;rw[M,q];rfl
 refine wpAny_newObj_type (wpAny_newFunctionEnv hcell (by intro y U;simp at U) (λh₁ hns₁ hsb₁=>?_) hkind);dsimp only at hns₁ hsb₁ ⊢;have I3:=I2.lnew (ys:=[]) (its:=[]) (t':=s2.toks) .nil (zBg _);have hD:H2 s2.heap.objs.size=none:=I2.fresh;generalize t:s2.heap.objs.size=D at hns₁ hsb₁ I3 hD ⊢;generalize V:s2.heap.push {cls:=.type "list",dict:=none,data:=.seq ([]:List V').toArray}=h3 at hns₁ hsb₁ I3 ⊢;have Z:h3.objs.size=D+1:=by rw[<-V,Heap.size_push,t]
 generalize s:h3.objs.size=C at hns₁ hsb₁ Z ⊢;have I3:Rk X Fx σ (upd H2 D (.l [])) {s2 with heap:=h3,toks:=s2.toks}:=I3;have B:∀b o,h3.get? b=some o->h₁.get? b=some o:=λb o e=>hsb₁.extBut b o (by rw[<-s];exact zAj (zA9 e)) (zA2 _ e);have a0:∀b o,h3.get? b=some o->b≠C:=λb o e=>by rw[<-s];exact zAj (zA9 e)
 have a1:X.env.locals≠C:=by rw[<-s];exact zAj I3.lt
 have b0:∀x c,X.env.cells.lookup x=some c->c≠C:=λx c e=>by obtain⟨v,o,F,_⟩:=I3.cell x c e;exact a0 c o F
 have a2:∀b∈fp,b≠C:=λb f=>by obtain⟨o,F,_⟩:=T.obj _ _ I b f;have:=zA9 F;rw[t] at this;exact zAj (Nat.lt_trans this (by rw[Z];exact Nat.lt_succ_self _))
 have b1:∀b∈fp,b≠D:=λb f=>by obtain⟨o,F,_⟩:=T.obj _ _ I b f;have:=zA9 F;rw[t] at this;exact zAj this
 have a3:∀b o,s2.heap.get? b=some o->h3.get? b=some o:=λb o e=>by rw[<-V];exact zA2 _ e
 have pinC:∀p∈X.pn++Fx,p.1≠C:=λp hp=>a0 _ _ (I3.pin p hp).1;have a4:C∉X.fs:=by rw[<-s];exact I3.nofs (zA3 _)
 have b2:X.s₀.heap.objs.size<=C:=by rw[<-s];exact I3.sz
 have stkC:∀b∈frs X.stack,b≠C:=λb f e=>by rcases zAl.mp (I3.stkSub b f) with z|z;{exact a1 (z.symm.trans e)};exact a4 (e ▸ z)
 have HC:upd H2 D (.l []) C=none:=I3.hok.fresh (by show h3.objs.size<=C;exact zC7 s);have a5:∀b∈fp,b∉frs X.stack:=λb f z=>by obtain⟨_,h1,h2,_⟩:=f2 b f;rcases zAl.mp (I2.stkSub b z) with q|q;{exact h1 q};exact h2 q
 let Y:Cx:=qj7 X NY sc C {s2 with heap:=h3} (upd H2 D (.l [])) fp;have a6:(Gh σ src).length=NY.length:=by unfold Gh;rw[zAk];exact G
 have IY:Rk Y [] (Gh σ src) (upd H2 D (.l [])) {s2 with heap:=h₁,toks:=s2.toks+0}:=by
  refine⟨⟨I2.ok.mod,hkind,I2.ok.glob,I2.ok.blt,(by show h3.objs.size<=C;exact zC7 s),λx y c h1 h2=>I2.ok.inj x y c (clsub x c h1) (clsub y c h2),λx hx=>?_,λ_ _ z _=>(zA8 z).elim,I2.ok.hd,I2.ok.frames,.inl rfl,λb f=>⟨a2 b f,λx c e=>(f2 b f).2.2.2.2.1 x c (clsub x c e)⟩,
   λb o e=>?_,?_,λb o e f=>?_,λb f=>a5 b f,?_,λb f=>?_⟩,rfl,I2.bare,Un.kept B,⟨_,hns₁,λi x v e1 e2 e3=>?_⟩,λx c e=>?_,HC,λx c e=>I3.freeC x c (clsub x c e),λp hp=>absurd (show p∈([]:List (γ×Obj)) from hp) (by simp),I3.hok.kept B,a6⟩
  {have hx:=qq5 hcell hx;exact qy1 (qS3 _ _ _ (PySem.mem_of_lookup hx))};{exact I3.bs b o e};{exact zA7 I2.ok.bsz (zA7 (zA7 I2.sz (by rw[t];exact zA3 _)) (by show D<=h3.objs.size;lia))};{rcases (f2 b f).2.2.2.1 with z|z;{exact I2.ok.noex b o e z};exact absurd (zAa (zA9 (I2.ok.bs b o e).1) z) (zC5 _)};{exact I3.stack};{exact I3.stkFree b f}
  .have hi:i<src.length:=by have:=(zA5.mp e2).1;rw[a6,<-G] at this;exact this
   have e1:NY[i]?=some x:=e1;have es:src[i]?=some src[i]:=by simp[hi]
   have ep:(Gh σ src)[i]?=some (match src[i] with|none=>none|some j=>(σ[j]?).getD none):=by unfold Gh;rw[zBd,es];rfl
   rw[ep] at e2;cases hj:src[i] with
   |none=>rw[hj] at e2;cases e2|some j=>
    rw[hj] at e2;have e2:(σ[j]?).getD none=some v:=Qc e2;have ej:σ[j]?=some (some v):=by cases q:σ[j]? with|none=>rw[q] at e2;cases e2|some o=>rw[q] at e2;rw[show o=some v from e2]
    have hm:(x,some j)∈NY.zip src:=by
     have:(NY.zip src)[i]?=some (x,some j):=by rw[List.getElem?_zip_eq_some];exact⟨e1,by rw[es,hj]⟩
     exact zB5 this
    have q:=S _ hm;simp only[zBk,zBl] at q;obtain⟨qN,qf⟩:=q;have H:=hfree _ (PySem.mem_of_lookup qf) rfl;obtain⟨m,hn,hl⟩:=I3.loc;obtain⟨u,r,l⟩:=hl j x v qN ej (H.elim (λz=>.inr (.inl z)) λz=>.inr (.inr z));refine⟨u,r,.inr ⟨qi4 qf,?_⟩⟩;rcases l with⟨z,_⟩|⟨_,c,ec,o,F,M⟩;{have H:X.env.kindOf x=some .cell∨X.env.kindOf x=some .free:=H;rw[z] at H;rcases H with H|H<;>cases H};obtain⟨c',a7⟩:=qy1 (qS3 (env:=X.env) sc.names [] x (PySem.mem_of_lookup qf));have:=clsub x c' a7;rw[ec] at this;cases this;exact⟨c,a7,o,B c o F,M⟩
  obtain⟨v,o,F,M⟩:=I3.cell x c (clsub x c e);exact⟨v,o,B c o F,M⟩
 have st₁:tn 0 h₁:=T.keep _ _ _ I λb f o e=>B b o (a3 b o e);have stat:∀{H':Hp},(∀b∈fp,H' b=none)->∀b∈fp,Jb Y [] H' b:=λhn b f=>by refine⟨hn b f,a2 b f,a5 b f,.inl f,λx c e=>(f2 b f).2.2.2.2.1 x c (clsub x c e),λp hp=>absurd (show p∈([]:List (γ×Obj)) from hp) (by simp)⟩
 have loop:codeAny (Nt X.prog X.w) X.A (.compLoop (.ListComp elt [⟨tg,iter,ifs,0⟩] sc pos) 0 (.ref it) (.ref D) Y.env) (RR (.ref D) C) {s2 with heap:=h₁,toks:=s2.toks+0}:=by
  obtain⟨W,⟨m0,w0⟩,turn⟩:=rd D hD;refine qp7 (λn s'=>∃i σ' H',Rk Y [] σ' H' s'/\tn i s'.heap/\(∀b∈fp,H' b=none)/\W i n σ' H') ?_ m0 ⟨0,_,_,IY,st₁,λb f=>by rw[qb2 (b1 b f)];exact(f2 b f).1,w0⟩;rintro n s3 ⟨i,σ3,H3,J3,a8,a9,w3⟩;rcases turn i n σ3 H3 w3 with⟨stop,qn⟩|⟨go,N,hN,step⟩;{refine thn (T.done Y rfl rfl rfl hc i [] s3 σ3 H3 _ J3 (stat a9) a8 stop) λr s4 k=>?_;obtain⟨hr,J4⟩:=k;subst hr;have b3:H3 C=none:=J4.free;refine fin D C H3 s4 ?_ qn b3 b2 (Ne.symm a1) b0 pinC a4 (let ⟨m,hn,_⟩:=J4.loc;⟨m,hn⟩);refine I2.call' (ch:=fp) J4.os ?_ J4.hok J4.bare λb f=>?_;{have u1:Un (frs X.stack) fp H2 (upd H2 D (.l [])) s2.heap h3:=Un.laid a3 (zC7 t) hD;exact u1.trans J4.base};obtain⟨_,h1,_,b4,h4,h5⟩:=f2 b f;exact⟨b4,h1,h4,h5⟩};refine thn (T.item Y rfl rfl rfl hc i [] s3 σ3 H3 _ J3 (stat a9) a8 go) λr s4 k=>?_;obtain⟨u,hr,h4⟩:=k;subst hr;refine thn h4 λ_ s5 k=>?_;obtain⟨x,H5,J5,r5,y5,L,b5⟩:=k;have J5':=J5.pinned (stat b5) (T.obj _ _ L);have again:∀{σ7:St}{H7:Hp}{O:Sh},Rk Y ([]++Lp fp s5.heap) σ7 H7 O->N σ7 H7->∃m,m<n/\∃i σ' H',Rk Y [] σ' H' O/\tn i O.heap/\(∀b∈fp,H' b=none)/\W i m σ' H':=λ{σ7 H7 O} I7 n7=>by obtain⟨m',hm,w7⟩:=hN σ7 H7 n7;refine⟨m',hm,i+1,σ7,H7,I7.unpinned,T.keep _ _ _ L λb f o e=>(I7.pin (b,o) (zAx _ (zAx _ (qq3 f e)))).1,λb f=>?_,w7⟩;obtain⟨o,e,d⟩:=T.obj _ _ L b f;exact(I7.pin (b,o) (zAx _ (zAx _ (qq3 f e)))).2.1
  refine thn (hg C _ _ _ s5 σ3 H5 x u _ J5' r5 (step x H5 y5)) λ_ s6 k=>?_;obtain⟨σ6,H6,J6,q6⟩:=k;refine thn (hf C _ _ _ s6 σ6 H6 _ J6 q6) λok O k=>?_;obtain⟨H7,J7,q7⟩:=k;cases ok with|false=>exact again J7 (by simpa using q7)|true=>rw[if_pos rfl] at q7 ⊢;refine thn (he C _ _ _ O σ6 H7 _ J7 q7) λy s8 k=>?_;obtain⟨v,H8,J8,r8,xs,b6,b7,q8⟩:=k;refine thn (qh5 (X:=Y) _ s8 σ6 H8 (.ref D) [v] (.ref D) [y] (λ_ H'=>N σ6 H') J8 rfl (.cons r8 .nil) ⟨D,xs,v,rfl,rfl,b6,b7,q8⟩) λ_ s9 k=>?_;obtain⟨_,H9,J9,_,q9⟩:=k;exact again J9 q9
 exact codeAny_compStart_list loop (T.self _ 0 _ _ _ st₁ loop)
end
def Gz(wi:TI)(src:List (Option Nat))(g:TG)(tf:TT)(te:TE):TE:=λa H Q=>wi a H λJ H1=>∀D,H1 D=none->qw0 J g tf te D (λH'=>Q (.ref D) H') (Gh a src) (upd H1 D (.l []))
section
variable{X:Cx}{elt tg iter:Nx}{ifs:List Nx}{sc:Scope}{pos:Pos}{NY:List Str}{src:List (Option Nat)}{wi:TI}{g:TG}{tf:TT}{te:TE}
theorem qL8(b:qu9 X NY src sc=true):sc.kind=.function/\(∀y∈sc.names,y.2=.local->sc.names.lookup y.1=some .local)/\(∀y∈sc.names,y.2=.free->(X.env.kindOf y.1=some .cell∨X.env.kindOf y.1=some .free)):=by unfold qu9 at b;simp only[zBk,zBl,zBo] at b;obtain⟨⟨⟨hkind,d⟩,a⟩,f⟩:=b;refine⟨hkind,λy c e=>?_,λy c e=>?_⟩;{have:=(a y c).1.2;rw[e] at this;simpa using this};have:=(a y c).2;rw[e] at this;show X.env.scope.names.lookup y.1=some .cell∨X.env.scope.names.lookup y.1=some .free;simpa using this
theorem qC1(NY:List Str)(src:List (Option Nat))(hi:PI X tg iter wi)(l:∀C a H0 ex,PG (qj7 X NY sc C a H0 ex) tg g)(n:∀C a H0 ex,PFs (qj7 X NY sc C a H0 ex) ifs tf)(p:∀C a H0 ex,PE (qj7 X NY sc C a H0 ex) elt te)(r:X.calm=true:=by rfl)(k:qu9 X NY src sc=true:=by rfl)(t:∀x,Na iter X.env x=pure x:=by intro _;rfl):PE X (.ListComp elt [⟨tg,iter,ifs,0⟩] sc pos) (Gz wi src g tf te):=by intro Fx s σ H Q I h;obtain⟨hkind,hnames,hfree⟩:=qL8 k;rw[eval_ListComp];refine wpAny_comprehension_free rfl t (qL9 λx u e=>I.ok.has x.1 (hfree x u e)) hkind hnames ?_;refine thn (hi Fx s σ H _ I h) λv G c=>thn c λw K d=>?_;obtain⟨L,f,M,J,H2,rfl,I2,T,i,f2,y⟩:=d;refine qX2 k r I2 T i f2 (λC a H0=>l C a H0 f) (λC a H0=>n C a H0 f) (λC a H0=>p C a H0 f) y ?_;intro D C H' N I' q z c d A B O ⟨m,E⟩;exact⟨m,E,λP j=>⟨.ref D,H',(I'.turned (λb o F e=>j.extBut b o F e) z d (.inr c) A B),rfl,q⟩⟩
theorem qaM3(i:Nat)(NY:List Str)(src:List (Option Nat))(E:X.N.Nodup)(hi:PI X tg iter wi)(F:∀C a H0 ex,PG (qj7 X NY sc C a H0 ex) tg g)(G:∀C a H0 ex,PFs (qj7 X NY sc C a H0 ex) ifs tf)(K:∀C a H0 ex,PE (qj7 X NY sc C a H0 ex) elt te)(f:X.N[i]?=some x:=by rfl)(j:Loc X.env.scope x:=by first|exact Q8 rfl|exact Q7 rfl)(L:X.calm=true:=by rfl)(y:qu9 X NY src sc=true:=by rfl)(k:swapsWith (.ListComp elt [⟨tg,iter,ifs,0⟩] sc pos) (some (.Name x px)) spos.line X.env=pure true:=by rfl)(M:∀x,Na iter X.env x=pure x:=by intro _;rfl)(l:X.fn x=true∨X.env.scope.names.lookup x=some .local:=by first|exact .inl rfl|exact .inr rfl|assumption):PS X (.Assign [.Name x px] (.ListComp elt [⟨tg,iter,ifs,0⟩] sc pos) spos) (K5 (Gz wi src g tf te) (Ih i)):=by
 intro Fx s σ H D I h;obtain⟨hkind,hnames,hfree⟩:=qL8 y;rw[exec_Assign_Name_used _ _ _ _ k];refine J' (wpAny_standAt (J' ?_));refine J' (Nl (wpAny_comprehension_free (Q:=λ_ c=>SP X Fx D .next c) rfl M (qL9 λx j e=>I.ok.has x.1 (hfree x j e)) hkind hnames ?_) (λ_ c O=>M7 (M7 O)) λ_ _ e=>e);refine thn (hi Fx s σ H _ I h) λv s1 n=>thn n λP s2 d=>?_;obtain⟨R,r,tn,J,H2,rfl,I2,T,t,f2,S⟩:=d;refine qX2 y L I2 T t f2 (λC a H0=>F C a H0 r) (λC a H0=>G C a H0 r) (λC a H0=>K C a H0 r) S ?_;intro D' C H' c I' q A n d U V W ⟨m,Y⟩;obtain⟨o,Z,ep,ho,B,hr⟩:=Y;have Ip:Rk X (Fx++[(C,o)]) σ H' c:=I'.pins_of λp hp=>(zAd.mp hp).elim (λz=>I'.pin p (zAx _ z)) λz=>by
  have e:p=(C,o):=by simpa using z
  subst e;exact⟨ho,A,d,W,λv e=>by rw[B] at e;cases e⟩
 refine wpAny_assign_Name (qD6 (v:=.ref D') Ip E f j rfl (λu I''=>?_) l);refine⟨m,⟨o,Z,ep,((I''.pin (C,o) (by simp)).1),B,hr⟩,λh' w=>⟨_,H',?_,q⟩⟩;exact I''.unpinned.turned (t':=u.toks) (it:=C) (λb o hb e=>w.extBut b o hb e) A d (.inr n) U V
end
theorem qX1{K:Qe}(Pv:Nat->St->Hp->Prop)(c:Pv 0 n H)(d:∀i n H,i<=xs.length->Pv i n H->SqL K H a xs)(f:∀i x n H,xs[i]?=some x->Pv i n H->g x n H λσ2 H2=>tf σ2 H2 λh H3=>if h=true then te σ2 H3 λv H4=>∃ys,H4 D=some (.l ys)/\ys.length<M9/\Pv (i+1) σ2 (upd H4 D (.l (ys++[v]))) else Pv (i+1) σ2 H3)(j:∀n H,Pv xs.length n H->R H):qw0 (Itl K a) g tf te D R n H:=by refine⟨λi m n H=>m=xs.length-i/\i<=xs.length/\Pv i n H,⟨xs.length,by simp,zBg _,c⟩,?_⟩;rintro i m n H ⟨rfl,k,p⟩;have q:=d i n H k p;by_cases b:i<xs.length;{refine .inr ⟨⟨xs,xs[i],q,by simp[b]⟩,Pv (i+1),λn' H' l=>⟨xs.length-(i+1),⋯,rfl,b,l⟩,λx H' y=>?_⟩;obtain⟨e,y⟩:=y;subst e;exact f i x n _ (y xs q) p};have e:i=xs.length:=⋯;subst e;exact .inl ⟨⟨xs,q,zA3 _⟩,j n H p⟩
theorem qak0{D:γ}{lo:Int}{n:Nat}{g:TG}{tf:TT}{te:TE}{R:Hp->Prop}{k:St}(Pv:Nat->St->Hp->Prop)(b:Pv 0 k H)(c:∀i k H,i<n->Pv i k H->g (.int (lo+i)) k H λσ2 H2=>tf σ2 H2 λd H3=>if d=true then te σ2 H3 λv H4=>∃ys,H4 D=some (.l ys)/\ys.length<M9/\Pv (i+1) σ2 (upd H4 D (.l (ys++[v]))) else Pv (i+1) σ2 H3)(f:∀k H,Pv n k H->R H):qw0 (Itr lo n) g tf te D R k H:=by refine⟨λi m k H=>m=n-i/\i<=n/\Pv i k H,⟨n,by simp,zBg _,b⟩,?_⟩;rintro i m k H ⟨rfl,j,p⟩;by_cases a:i<n;{refine .inr ⟨a,Pv (i+1),λk' H' h=>⟨n-(i+1),⋯,rfl,a,h⟩,λx H' y=>?_⟩;obtain⟨e,y⟩:=y;subst e y;exact c i k _ a p};have e:i=n:=⋯;subst e;exact .inl ⟨zA3 _,f k H p⟩
section
variable{X:Cx}
theorem sset(i:Nat)(a:X.N.Nodup)(b:PE X e te)(hi:X.N[i]?=some x:=by rfl)(c:Loc X.env.scope x:=by first|exact Q8 rfl|exact Q7 rfl)(d:swapsWith e (some (.Name x pos')) pos.line X.env=pure false:=by rfl)(f:X.fn x=true∨X.env.scope.names.lookup x=some .local:=by first|exact .inl rfl|exact .inr rfl|assumption):PS X (.Assign [.Name x pos'] e pos) (K5 te (Ih i)):=qaM0 a hi c b d f
theorem gnm(i:Nat)(a:X.N.Nodup)(hi:X.N[i]?=some x:=by rfl)(b:Loc X.env.scope x:=by first|exact Q8 rfl|exact Q7 rfl)(c:X.fn x=true∨X.env.scope.names.lookup x=some .local:=by first|exact .inl rfl|exact .inr rfl|assumption):PG X (.Name x pos) (Ih i):=qav0 a hi b c
def CDivB(_ j:Int):Prop:=0<j/\j<2 ^ 200
theorem qQ3:OpR X (Nq .FloorDiv) (rI CDivB λi j=>.int (i/j)):=opI λi j _ _ _ _ _ a q=>by
 have c:=a.1;have d:=a.2;refine floordiv_int ⋯ (by rw[Int.fdiv_eq_ediv_of_nonneg i ⋯];exact q) (.inl (PyProof.noPylong_of_log2 ?_));have b:j.natAbs<2 ^ 200:=⋯
 have e:=(Nat.log2_lt ⋯).mpr b;lia
theorem qaN3(k:Int){a:Nat}(c:i ^ j.toNat=k:=by decide)(d:0<=j:=by decide)(h1:j<=1000000:=by decide)(h2:i.natAbs<2 ^ 64:=by decide):PE X (.BinOp (.Constant (.int i) a p) .Pow (.Constant (.int j) b q) pos) (tC (.int k)):=by intro Fx s m H Q I h;refine(pe_op qaZ4 qF4 qF4) Fx s m H Q I ⟨_,_,rfl,rfl,⟨d,h1,h2⟩,?_⟩;show Q (.int (i ^ j.toNat)) H;rw[c];exact h
theorem qaZ7:OpR X (M' .Is) (λx y H Q=>∃b c,x=.bl b/\y=.bl c/\Q (.bl (b==c)) H):=by intro Fx s m H x y v u Q I a d h;obtain⟨b,c,rfl,rfl,q⟩:=h;cases a;cases d;exact is_bool ⟨.bl _,H,I,rfl,q⟩
def Gi(H:Hp):V->Option String
 |.non=>some "NoneType" | .bl _=>some "bool" | .int _=>some "int" | .str _=>some "str"|.ref a=>match H a with|some (.l _)=>some "list" | some (.q _)=>some "tuple" | some (.dK _)=>some "dict" | some (.frz _ (.l _))=>some "list"|_=>none
 |_=>none
noncomputable def Hh(t n:String):Bool:=t==n||(t=="bool" && n=="int")
theorem qaQ9(K:Qe){t:String}(a:t∈["NoneType", "bool", "int", "str", "list", "tuple", "dict"])(b:n∈["bool", "int", "str", "list", "tuple", "dict"]):Qf K (.type t) (.type n)=some (Hh t n):=by simp only[zAl,zB0,or_false] at a b;rcases a with rfl|rfl|rfl|rfl|rfl|rfl|rfl<;>rcases b with rfl|rfl|rfl|rfl|rfl|rfl<;>rfl
theorem qag8{K:Qe}{x:V}{t:String}(h:Gi H x=some t):G9 K H x (.type t)/\t∈["NoneType", "bool", "int", "str", "list", "tuple", "dict"]:=by cases x with|non=>cases h;exact⟨.non,∅⟩|bl b=>cases h;exact⟨.bl b,∅⟩|int b=>cases h;exact⟨.int b,∅⟩|str b=>cases h;exact⟨.str b,∅⟩|byt b=>cases h|flt b=>cases h|ty b=>cases h|ref a=>unfold Gi at h;dsimp only at h;split at h;{cases h;exact⟨.l (by assumption),∅⟩};{cases h;exact⟨.q (by assumption),∅⟩};{cases h;exact⟨.dK (by assumption),∅⟩};{cases h;exact⟨.frz (by assumption),∅⟩};cases h
def rIsi:List V->Hp->VK->Prop:=λxs H Q=>∃x n t,xs=[x,.ty n]/\Gi H x=some t/\n∈["bool", "int", "str", "list", "tuple", "dict"]/\Q (.bl (Hh t n)) H
theorem qj0:CallR X (.builtin "isinstance") rIsi:=by intro Fx s m H g i Q I r h;obtain⟨x,n,t,rfl,b,c,q⟩:=h;obtain⟨u,j,rfl,d,a⟩:=Ji r;cases a;obtain⟨ty,e⟩:=qag8 b;exact qG5 I d ty (qaQ9 X.K e c) λf=>⟨.bl _,H,I.tok f,rfl,q⟩
theorem qaO2(n:String)(hm:X.mg x=none)(a:Gl X x:=by rfl)(b:Nc x=some (.type n):=by rfl)(c:x ≠ "__name__" := by decide)(d:N' x:=by decide):PE X (.Name x pos) (tC (.ty n)):=qaO3 a hm b rfl c d
theorem qaN7{t:Tok}(hm:X.mg x=some (.int n t))(a:Gl X x:=by rfl)(b:N' x:=by decide):PE X (.Name x pos) (tC (.int n)):=qae5 a hm ⟨t,rfl⟩ b
theorem cbi{id:String}(c:CallR X (.builtin id) r)(hm:X.mg x=none)(d:PA X (e::es) t)(f:Gl X x:=by rfl)(g:Nc x=some (.builtin id):=by rfl)(h:x ≠ "__name__" := by decide)(a:N' x:=by decide)(i:M8 (e::es) X.env=(false,eval e X.env)::M8 es X.env:=by rfl)(b:(backTo pos (M8 es X.env)).any (·.1)=false:=by rfl):PE X (.Call (.Name x p) (e::es) [] pos) (tCB r t):=qaC1 c f hm g d h a i b
theorem cty{id:String}(c:CallR X (.type id) r)(hm:X.mg x=none)(d:PA X (e::es) t)(f:Gl X x:=by rfl)(g:Nc x=some (.type id):=by rfl)(h:x ≠ "__name__" := by decide)(a:N' x:=by decide)(i:M8 (e::es) X.env=(false,eval e X.env)::M8 es X.env:=by rfl)(b:(backTo pos (M8 es X.env)).any (·.1)=false:=by rfl):PE X (.Call (.Name x p) (e::es) [] pos) (tCB r t):=qao6 c f hm g d h a i b
end
theorem ix{X:Cx}{a b:Nx}{ta tb:TE}{pos:Pos}{r:R2}(c:IxR X r)(d:PE X a ta)(e:PE X b tb)(f:qal3 b:=by exact λ_ _=>rfl):PE X (.Subscript a b pos) (tOp r ta tb):=pe_ix c d e f
def rGetL:V->V->Hp->VK->Prop:=λo i H Q=>∃p xs k v,o=.ref p/\i=.int k/\H p=some (.l xs)/\0<=k/\xs[k.toNat]?=some v/\Q v H
theorem qaF7:PGet X rGetL:=by intro Fx s B H o i w x Q I b c h;obtain⟨p,y,k,v,rfl,rfl,d,e,a,q⟩:=h;cases b;obtain⟨t,rfl⟩:=c;obtain⟨f,n,r,g,z⟩:=I.l d;obtain⟨u,j,l⟩:=r.get a;have m:=(zA5.mp a).1;have A:=qK3;refine wpAny_getItem_list ⟨_,g,rfl,n,rfl⟩ e ⋯ (by simpa using j) ⟨v,H,I,l,q⟩
theorem qbe1{xs:List α}(b:0<=i)(h1:i<xs.length):∃v,xs[i.toNat]?=some v/\atI xs i=some v:=by have a:i.toNat<xs.length:=⋯;have e:(i.toNat:Int)=i:=⋯;refine⟨xs[i.toNat],by simp[a],?_⟩;have:=qM4 (xs:=xs) (j:=i.toNat) (v:=xs[i.toNat]) (by simp[a]);rw[e] at this;exact this
theorem qo3{xs:List α}(a:0<=i)(h1:i<xs.length):∃v,v∈xs/\atI xs i=some v:=by obtain⟨v,h,e⟩:=qbe1 a h1;exact⟨v,zB5 h,e⟩
theorem qag7(h:H a=some (.l xs)):Gi H (.ref a)=some "list" := by
 unfold Gi;dsimp only;rw[h]
theorem qaE8(h:H a=some (.q xs)):Gi H (.ref a)=some "tuple" := by
 unfold Gi;dsimp only;rw[h]
theorem qav9{xs:List (Key×V)}(h:H a=some (.dK xs)):Gi H (.ref a)=some "dict" := by
 unfold Gi;dsimp only;rw[h]
theorem Same.new(h:H q=none):Same H (upd H q u):=λb o e=>by rw[qb2 (qc3 e h)];exact e
structure Df(K:Qe)(mg:Str->Option V')(x qual:Str)(st:Ny)(f:γ)(fd:δ)(ps:List Str):Prop where
 F:Fun K x qual st f fd
 b:Binds K fd ps []
 m:mg x=some (.ref f)
theorem dfmk{K:Qe}{st:Ny}{i:Array (Option V')}{kV e a:V'}(l:K.lookup f=some ⟨oc,od,.func (W.fnOf x qual (qf9 st) (qd6 st) (qa4 st) .none kV b e d a g),i⟩)(c:W.codeIn K a qual=true)(k:W.keepIn K (.ref f)=true)(m:mg x=some (.ref f))(h:∀(kV b e:V')(d:Option γ)(a g:V')(us:List V'),us.length=ps.length->bindArgs (W.fnOf x qual (qf9 st) (qd6 st) (qa4 st) .none kV b e d a g) ⟨us,[]⟩=pure (ps.zip us)):Df K mg x qual st f (W.fnOf x qual (qf9 st) (qd6 st) (qa4 st) .none kV b e d a g) ps:=⟨qaq5 l c k,(qaq5 l c k).binds h,m⟩
theorem callD{st:Ny}(D:Df X.K X.mg x qual st f fd ps)(G:Gv X.prog X.w X.K X.mg X.base CX0 k f fd ps sp)(d:Room k X.A)(g:PA X (e::es) t)(h:Gl X x:=by rfl)(a:N' x:=by decide)(i:M8 (e::es) X.env=(false,eval e X.env)::M8 es X.env:=by rfl)(c:(backTo pos (M8 es X.env)).any (·.1)=false:=by rfl):PE X (.Call (.Name x p) (e::es) [] pos) (Ls sp [] (λ_=>E0) t):=qav2 G d h D.m D.F.kp D.b .nil pass0 g a i c
end L2
namespace LB
open PySem PySem.Spec PyProof.Rows
theorem qR4:typeLookup (.type "list") "keys"=pure none:=by rw[typeLookup_type,builtinLookup_eq_fast];kernel_rfl
theorem qB4:typeLookup (.type "list") "__getattr__"=pure none:=by rw[typeLookup_type,builtinLookup_eq_fast];kernel_rfl
section
variable{prog:Nu}{w:Nw}{A:Nv}{E:V'->Sh->Prop}{h:Heap}{g:Array GenState}{d:Drawn}{t:Nat}{u:OsState}{a:γ}{its:Array V'}{n:Nat}
theorem qB5(c:h.get? a=some {cls:=.type "list",data:=.seq its n})(f:A.handled=none)(i:∀h' b e,Heap.NewAttrErr h h' e (.ref a) "keys" -> E (.ref e) ⟨h',g,d,b,u⟩):Nr (Nt prog w) A (Builtin.«object.__getattribute__» ⟨[.ref a,.str "keys" b],[]⟩) Q E ⟨h,g,d,t,u⟩:=by
 have j:(⟨h,g,d,t,u⟩:Sh).TypeIs (.ref a) "list" := ⟨_,c,rfl⟩;have k:=qR4;repeat (any_goals (first|assumption|wp_step))
 exact wpAny_raiseAttrError f (i) (attrMsg_fits (by decide +kernel) (by decide +kernel))
theorem qG4(i:h.get? a=some {cls:=.type "list",data:=.seq its n})(k:A.handled=none)(l:∀h' f,(∀b o,h.get? b=some o->h'.get? b=some o)->Q none ⟨h',g,d,f,u⟩):Nr (Nt prog w) A (getAttr? (.ref a) "keys") Q E ⟨h,g,d,t,u⟩:=by
 have j:∀f,(⟨h,g,d,f,u⟩:Sh).TypeIs (.ref a) "list" := λ_=>⟨_,i,rfl⟩;have m:=j t;have f1:=sub_AttributeError;have f2:=F.slot_list_getattribute.lookup;have f3:=F.slot_list_getattribute.bind (.ref a);have p:=qB4;unfold getAttr? getAttrBy? getAttrBy;repeat (any_goals (first|assumption|wp_step))
 refine codeAny_call_builtin F.slot_list_getattribute.plain F.entry_list_ga (F.slot_list_getattribute.check _ _ _ _ _ _ _ _ (j _) (F.args_list_getattribute_2 _ _) (qB5 i k λh' f e c=>?_));obtain⟨q,r,s⟩:=c.there;show Nr _ _ (getattributeRaised _ _ _ _ _ _ _) _ _ _;unfold getattributeRaised;repeat (any_goals (first|assumption|wp_step))
 exact l _ _ c.keeps
end
theorem qo1:entryFor table "dict.update.loop"=some Builtin.«dict.update.loop»:=entryFor_of_tree (by kernel_rfl)
theorem qg4:plainId "dict.update.loop"=true:=by decide +kernel
section
variable{prog:Nu}{w:Nw}{K:Type}[DecidableEq K]{knd:KeyKind prog w K}{A:Nv}{R:Result->Sh->Prop}
theorem qas3(U:A.handled=none)(y:ax≠I)(g:d≠I)(z:ax≠d):∀(rest:List (K×V'))(i:Nat)(ix:Int)(kvs:List (K×V'))(s:Sh),
 (∀(j:Nat) a,rest[j]?=some a->∃t key,items[i+j]?=some (.ref t)/\IsTup s.heap t #[key,a.2]/\knd.is a.1 key=true/\t≠I/\t≠d)->items.size=i+rest.length->s.heap.IsListIter I ax i->s.heap.IsList ax items->s.heap.DictOf knd d kvs->kvs.length+rest.length<=M9->(∀h' B,h'.DictOf knd d (rest.foldl (λacc a=>stored acc a.1 a.2) kvs)->(∀b o,b≠I->b≠d->s.heap.get? b=some o->h'.get? b=some o)->R (.ok (.ret .none)) {s with heap:=h',toks:=B})->codeAny (Nt prog w) A (.builtin "dict.update.loop" ⟨[.ref d,.ref I,rawInt ix,.none],[]⟩) R s:=by
 intro rest;induction rest with
 |nil=>
  intro i ix kvs s C f h v D P E;refine codeAny_builtin qo1 ?_;rw[Around.under_plainId qg4 _];show Nr _ A.in1 (pyNext (.ref I) >>= _) _ _ s;refine J' (wpAny_pyNext_list_end U h v (by simp at f;simp[f]) λh' Q=>?_);show Nr _ _ (Builtin.Dict.addKeywords d [] >>= _) _ _ _;refine J' (M7 (M7 ?_));have k:h'.DictOf knd d kvs:=by obtain⟨o,F,G,l,r⟩:=D;exact⟨o,F,G,Q d o g l,r⟩
  exact E h' s.toks k λb o x _ e=>Q b o x e
 |cons a rest V=>
  intro i ix kvs s C f h v D P E;obtain⟨t,key,W,X,Y,Z,h5⟩:=C 0 a rfl;refine codeAny_builtin qo1 ?_;rw[Around.under_plainId qg4 _];show Nr _ A.in1 (pyNext (.ref I) >>= _) _ _ s;refine J' (wpAny_pyNext_list_item h v W λh' m p=>?_);have H:IsTup h' t #[key,a.2]:=X.extBut p.extBut Z;obtain⟨o,l,J,n,L⟩:=H;refine J' (Nb ?_);refine J' (wpAny_tryCatch ?_);unfold Builtin.Dict.pairItems;refine J' (wpAny_typeOf (T := "tuple") ⟨o,l,J⟩ ?_);rw[if_pos ∅];refine J' (wpAny_seqItems l L (M7 ?_));dsimp only[Option.getD];have k:h'.DictOf knd d kvs:=by obtain⟨o,F,G,l,r⟩:=D;exact⟨o,F,G,p.extBut d o g l,r⟩
  simp only[zAp] at P f;show Nr _ _ (holding [key,a.2] (dictSet d key a.2)) _ _ _;refine Nb (wpAny_dictSet_pairs (hsz:=by lia) Y k λa0 q c=>?_);refine M7 ⟨plainId_quiet qg4 _,?_⟩;have S:(stored kvs a.1 a.2).length<=kvs.length+1:=by unfold stored;split;{rw[zAk];lia};rw[zAf];simp
  refine V (i+1) (ix+1) (stored kvs a.1 a.2) _ (λj M hj=>?_) ⋯ ?_ ?_ q ⋯ λN B O k3=>?_;{obtain⟨t',key',g1,g2,g3,g4,g5⟩:=C (j+1) M hj;exact⟨t',key',by rw[show i+1+j=i+(j+1) by lia];exact g1,(g2.extBut p.extBut g4).extBut c.extBut g5,g3,g4,g5⟩};{exact m.at λo e=>c.extBut I o (Ne.symm g) e};{exact(v.at λo e=>p.extBut ax o y e).at λo e=>c.extBut ax o z e};exact E N B O λb o x u e=>k3 b o x u (c.extBut b o u (p.extBut b o x e))
end
end LB
namespace L2
open PySem PySem.Spec PyProof.Rows
section
variable{X:Cx}
theorem KV.fold:∀{more:List (Key×V)}{a:List (Key×V')}{kvs:List (Key×V)}{vs:List (Key×V')},KV more a->KV kvs vs->KV (qs7 kvs more) (a.foldl (λacc b=>stored acc b.1 b.2) vs):=by intro more a kvs vs r;unfold KV at r;induction r generalizing kvs vs with|nil=>intro q;exact q|@cons p q _ _ h _ ih=>intro c;show KV (qs7 (putK kvs p.1 p.2) _) (Ow _ (stored vs q.1 q.2) _);refine ih ?_;rw[<-h.1];exact c.put p.1 h.2
def qax9(H:Hp)(ys:List V)(kvs:List (Key×V)):Prop:=Paired (λy (a:Key×V)=>∃t,y=.ref t/\H t=some (.q [kV a.1,a.2])) ys kvs
def qaL4:List V->Hp->VK->Prop:=λxs H Q=>∃a ys kvs,xs=[.ref a]/\H a=some (.l ys)/\qax9 H ys kvs/\∀p,H p=none->Q (.ref p) (upd H p (.dK (qs7 [] kvs)))
theorem qM2(hc:X.calm=true):CallR X (.type "dict") qaL4:=by
 intro Fx s σ H xs us Q I r h;obtain⟨a,ys,g,rfl,ha,N,q⟩:=h;obtain⟨u,rfl,ru⟩:=B7 r;cases ru;have hh:=I.ok.hd hc;obtain⟨z,f,n,rv,O,e⟩:=I.lstM ha;obtain⟨x,J,P⟩:∃x:List (Key×V'),KV g x/\∀(j:Nat) k,x[j]?=some k->∃t i,f[j]?=some (.ref t)/\IsTup s.heap t #[i,k.2]/\(qd0 X.prog X.w).is k.1 i=true:=by clear q e O n ha z;induction N generalizing f with|nil=>exact⟨[],.nil,λj k C=>by simp at C⟩|@cons y k ys g hy _ ih=>cases rv with|@cons _ u _ us' hu hr=>obtain⟨t,rfl,ht⟩:=hy;cases hu;obtain⟨_,its',rt,o,p,R,n,S⟩:=I.hok t _ ht;obtain⟨i,U,rfl,r1,r2⟩:=rt.two;obtain⟨x,J,P⟩:=ih _ hr;refine⟨(k.1,U)::x,.cons ⟨rfl,r2⟩ J,λj V C=>?_⟩;cases j with|zero=>cases C;exact⟨t,i,rfl,⟨o,p,R,n,S⟩,Kj r1⟩|succ j=>exact P j V C
 have D:x.length=f.length:=by rw[<-O,<-Paired.length J,<-Paired.length N]
 have big:=I.big;obtain⟨c,gn,dr,W,Y⟩:=s;refine callType_codes (Q₁:=λE s₁=>E=.ref c.objs.size/\s₁={heap:=c.push {cls:=.type "dict",data:=.dict #[]},gens:=gn,drawn:=dr,toks:=W,os:=Y}) F.kt_called_dict (F.kt_typeCall_dict_1 _) F.entry_dict_init (kt_code_dict_new _ ⟨rfl,rfl⟩) ?_;rintro E s₁ ⟨rfl,rfl⟩;have l:(c.push {cls:=.type "dict",data:=.dict #[]}).DictOf (qd0 X.prog X.w) c.objs.size []:=Heap.DictOf.new c;have Z:(c.push {cls:=.type "dict",data:=.dict #[]}).get? a=some {cls:=.type "list",data:=.seq f.toArray n}:=zA2 _ e;have G:a<c.objs.size:=zA9 e;refine⟨l.typeIs,F.args_dict_init_2 _ _,?_⟩;unfold Builtin.«dict.__init__»;refine J' ?_;unfold Builtin.Dict.selfAndRest;refine J' (wpAny_notOrdered_dict l.typeIs ?_);show Nr _ _ (pure (c.objs.size,[Pz a])) _ _ _;refine M7 ?_;show Nr _ _ (Builtin.Dict.updateFrom "dict.__init__" c.objs.size (.ref a) [] .none) _ _ _;unfold Builtin.Dict.updateFrom;refine J' (wpAny_typeOf (T := "list") ⟨_,Z,rfl⟩ ?_);rw[if_pos ∅];refine J' (LB.qG4 Z hh λB a2 K=>?_);rw[if_pos (by rfl)];have e1:B.get? a=some {cls:=.type "list",data:=.seq f.toArray n}:=K _ _ Z;have d1:B.DictOf (qd0 X.prog X.w) c.objs.size []:=by obtain⟨o,L,M,p,r⟩:=l;exact⟨o,L,M,K _ _ p,r⟩
 refine J' (Nm ?_);have hlist:B.IsList a f.toArray:=⟨_,e1,rfl,n,rfl⟩;refine J' (wpAny_pyIter_list hlist ?_);have v:c.objs.size<B.objs.size:=by obtain⟨o,L,M,p,r⟩:=d1;exact zA9 p
 refine M7 ⟨plainId_quiet LB.qg4 _,?_⟩;refine LB.qas3 (knd:=qd0 X.prog X.w) (A:=X.A.in1) hh (I:=B.objs.size) (ax:=a) (d:=c.objs.size) (items:=f.toArray) (zAj (Nat.lt_trans G v)) (zAj v) (zAj G) x 0 0 [] _ (λj k C=>?_) (by simp[D]) ?_ ?_ ?_ ?_ λh2 a0 d2 k2=>?_;{obtain⟨t,i,g1,g2,g3⟩:=P j k C;obtain⟨o,p,r⟩:=g2;have m:=zA9 p;exact⟨t,i,by simpa using g1,⟨o,zA2 _ (K _ _ (zA2 _ p)),r⟩,g3,zAj (Nat.lt_trans m v),zAj m⟩};{exact⟨_,zAv _ rfl,rfl,rfl⟩};{exact⟨_,zA2 _ e1,rfl,n,rfl⟩};{obtain⟨o,L,M,p,r⟩:=d1;exact⟨o,L,M,zA2 _ p,r⟩};{simp only[zBw,zAo];rw[D,<-O];exact z};refine⟨rfl,?_⟩;have hf:H c.objs.size=none:=I.hok.fresh (zA3 _);have keep:∀b o,c.get? b=some o->h2.get? b=some o:=λb o eb=>by have m:=zA9 eb;exact k2 b o (zAj (Nat.lt_trans m v)) (zAj m) (zA2 _ (K _ _ (zA2 _ eb)))
 have rm:KV (qs7 [] g) (x.foldl (λa1 k=>stored a1 k.1 k.2) []):=KV.fold J .nil;have hz:(qs7 [] g).length<=M9:=by have B:=qm5 g [];have h2:=Paired.length N;simp only[zBw] at B;lia
 refine⟨.ref c.objs.size,_,I.laid (t':=a0) (o:=.dK (qs7 [] g)) keep (zA3 _) ?_,rfl,q _ hf⟩;exact⟨hz,zBr.mpr (Ne.symm (zAj big)),_,rm,d2⟩
end
section
variable{X:Cx}
theorem qX6(t:X.calm=true):CallR X (.builtin "all") (λxs H Q=>∃(a:γ)(bs:List Bool),xs=[.ref a]/\SqL X.K H a (bs.map V.bl)/\Q (.bl (bs.all id)) H):=by
 intro Fx s J H xs D Q I r h;obtain⟨a,bs,rfl,w,q⟩:=h;obtain⟨u,rfl,j⟩:=B7 r;cases j;obtain⟨d,k,l,E⟩:=I.list w;refine call_all_walk (wpAny_pyIter_list l.isList ?_);have m:=let ⟨o,ho,_⟩:=l.isList;zA9 ho
 refine⟨s.heap.objs.size,_,_,_,_,_,λi=>bs.getD i false,rfl,Walks.list (A:=X.A.in1) (I.ok.hd t) _ a (zAj m) d.toArray,⟨⟨_,zAv _ rfl,rfl,rfl⟩,?_⟩,?_,?_⟩;{exact l.isList.at λo e=>zA2 _ e}
 .intro i v y Q1 E1 f g;have f:d[i]?=some v:=by simpa using f
  have c:i<bs.length:=by have F:=(zA5.mp f).1;have n:=k.length;grind
  obtain⟨u,p,j⟩:=k.get (i:=i) (x:=.bl bs[i]) (by simp[c]);rw[f] at p;cases p;cases j;refine Nd ?_;have e:bs.getD i false=bs[i]:=by simp[Pa,c]
  have g:Q1 (bs.getD i false) y:=g;rw[e] at g;exact g
 intro G z B;have e:(Ob d.toArray.size).all (λi=>bs.getD i false)=bs.all id:=by have n:=k.length;rw[zAk] at n;rw[zA4,<-n];rw[Bool.eq_iff_iff];simp only[zBo,zAm,id_eq];constructor;{intro h b C;obtain⟨i,c,rfl⟩:=List.mem_iff_getElem.mp C;have:=h i c;simpa[Pa,c] using this};intro h i c;have:=h bs[i] (Oz c);simpa[Pa,c] using this
 rw[e];refine⟨.bl _,H,?_,rfl,q⟩;exact I.kept (t':=z) λb o e=>B b o (by simp;exact zAj (zA9 e)) (zA2 _ e)
noncomputable def qm6(ns:List Int):Nat:=(firstMet (λi=>ns.getD i 0) ns.length).length
def rSetI(K:Qe):List V->Hp->VK->Prop:=λxs H Q=>∃(a:γ)(ns:List Int),xs=[.ref a]/\SqL K H a (ns.map V.int)/\ns.length<=1000/\∀p S,H p=none->Q (.ref p) (upd H p (.set S (qm6 ns)))
theorem qas8(k:X.calm=true):CallR X (.type "set") (rSetI X.K):=by
 intro Fx s J H t v Q I r h;obtain⟨a,f,rfl,l,w,q⟩:=h;obtain⟨u,rfl,m⟩:=B7 r;cases m;obtain⟨d,i,n,x⟩:=I.list l;have c:d.length=f.length:=by have:=i.length;rw[zAk] at this;exact this.symm
 refine call_set_list (I.ok.hd k) n.isList (by simpa using (qy5 i)) (by rw[zA4,c];show f.length+1<4096;lia) λy z j p=>?_;have g:d.toArray.size=f.length:=by rw[zA4,c]
 rw[g] at j;refine⟨.ref s.heap.objs.size,_,I.laid (o:=.set _ (qm6 f)) (λb o e=>p b o (zA9 e) e) (zA3 _) j,rfl,q _ _ (I.hok.fresh (zA3 _))⟩
theorem qat0:CallR X (.builtin "len") (λxs H Q=>∃(a:γ)(S:Int->Bool)(n:Nat),xs=[.ref a]/\H a=some (.set S n)/\Q (.int n) H):=by intro Fx s J H xs l Q I r h;obtain⟨a,S,n,rfl,d,q⟩:=h;obtain⟨u,rfl,e⟩:=B7 r;cases e;obtain⟨o,f,m,t,g,b,i,_,_,c,j,k⟩:=I.hok a _ d;subst k;have c:f.size<4096:=c;exact call_len_set g b i j ⋯ ⟨.int _,H,I.tok _,⟨_,rfl⟩,q⟩
end
theorem qS0(ns:List Int):qm6 ns=ns.length↔ns.Nodup:=by
 have f:∀i,i<=ns.length->(∀k,k∈firstMet (λi=>ns.getD i 0) i↔k∈ns.take i)/\((firstMet (λi=>ns.getD i 0) i).length=i↔(ns.take i).Nodup):=by
  intro i;induction i with
  |zero=>intro _;rw[firstMet_zero];simp|succ i j=>
   intro p;obtain⟨c,q⟩:=j ⋯;have l:=firstMet_length_le (λi=>ns.getD i 0) i;have a:i<ns.length:=⋯;have m:ns.take (i+1)=ns.take i++[ns[i]]:=by rw[Og];simp[a]
   have n:ns.getD i 0=ns[i]:=by simp[Pa,a]
   rw[firstMet_succ,m,n];unfold step_dedup;by_cases d:ns[i]∈firstMet (λi=>ns.getD i 0) i;{have b:ns[i]∈ns.take i:=(c _).mp d;have g:(firstMet (λi=>ns.getD i 0) i).any (· == ns[i])=true:=zC3.mpr ⟨_,d,by simp⟩;rw[if_pos g];refine⟨λk=>?_,?_⟩;{rw[c];simp only[zAd,zAg];exact⟨.inl,λh=>h.elim id λe=>by rw[e];exact b⟩};grind};have b:=λh=>d ((c _).mpr h);have g:¬(firstMet (λi=>ns.getD i 0) i).any (· == ns[i])=true:=λh=>by obtain⟨x,o,e⟩:=zC3.mp h;exact d (by rw[<-(zBl.mp e)];exact o)
   rw[if_neg g];refine⟨λk=>?_,?_⟩;{simp only[zAd,zAg];rw[c]};rw[zAf,zCf];simp only[List.length_singleton];grind
 have:=(f ns.length (zA3 _)).2;rw[zAq (zA3 _)] at this;exact this
end L2
namespace LD
open PySem PySem.SeqAt MeetsSeq
open AutoSeq1 (wpAny_loadPart')
theorem qaG9(l b:γ)(es:Array DictEntry)(items2:Array V')(n e:Nat)(f a:Option γ)(i c:Array (Option V')):Meets (Builtin.«dict.__eq__» ⟨[.ref l,.ref b],[]⟩) (λ_ R s=>s.heap.get? l=some {cls:=.type "dict",dict:=f,data:=.dict es n,slots:=i}/\s.heap.get? b=some {cls:=.type "tuple",dict:=a,data:=.seq items2 e,slots:=c}/\R (.ok (.ret .notImplemented)) s) :=
 .of_wp λprog w A R s h=>by obtain⟨m,g,d,o,p⟩:=s;obtain⟨j,k,h⟩:=h;have f1:=Qk;wp_walk using wpAny_loadPart' j,wpAny_loadPart' k;exact⟨_,rfl,h⟩
theorem qay3(l b:γ)(es:Array DictEntry)(items2:Array V')(n e:Nat)(f a:Option γ)(i c:Array (Option V')):Meets (Builtin.«tuple.__eq__» ⟨[.ref b,.ref l],[]⟩) (λ_ R s=>s.heap.get? l=some {cls:=.type "dict",dict:=f,data:=.dict es n,slots:=i}/\s.heap.get? b=some {cls:=.type "tuple",dict:=a,data:=.seq items2 e,slots:=c}/\R (.ok (.ret .notImplemented)) s) :=
 .of_wp λprog w A R s h=>by obtain⟨m,g,d,o,p⟩:=s;obtain⟨j,k,h⟩:=h;have f1:=Qx;wp_walk using wpAny_loadPart' j,wpAny_loadPart' k;exact⟨_,rfl,h⟩
theorem qaD7(l b:γ)(es:Array DictEntry)(items2:Array V')(n e:Nat)(f a:Option γ)(i c:Array (Option V')):Meets (Builtin.«dict.__ne__» ⟨[.ref l,.ref b],[]⟩) (λ_ R s=>s.heap.get? l=some {cls:=.type "dict",dict:=f,data:=.dict es n,slots:=i}/\s.heap.get? b=some {cls:=.type "tuple",dict:=a,data:=.seq items2 e,slots:=c}/\R (.ok (.ret .notImplemented)) s) :=
 .of_wp λprog w A R s h=>by obtain⟨m,g,d,o,p⟩:=s;obtain⟨j,k,h⟩:=h;have f1:=Qk;wp_walk using wpAny_loadPart' j,wpAny_loadPart' k;exact⟨_,rfl,h⟩
theorem qay2(l b:γ)(es:Array DictEntry)(items2:Array V')(n e:Nat)(f a:Option γ)(i c:Array (Option V')):Meets (Builtin.«tuple.__ne__» ⟨[.ref b,.ref l],[]⟩) (λ_ R s=>s.heap.get? l=some {cls:=.type "dict",dict:=f,data:=.dict es n,slots:=i}/\s.heap.get? b=some {cls:=.type "tuple",dict:=a,data:=.seq items2 e,slots:=c}/\R (.ok (.ret .notImplemented)) s) :=
 .of_wp λprog w A R s h=>by obtain⟨m,g,d,o,p⟩:=s;obtain⟨j,k,h⟩:=h;have f1:=Qx;wp_walk using wpAny_loadPart' j,wpAny_loadPart' k;exact⟨_,rfl,h⟩
section
variable{A:Nv}{s:Sh}
theorem rc_dt{l b:γ}{es:Array DictEntry}{n:Nat}{i:Option γ}{j:Array (Option V')}{items2:Array V'}(d:s.heap.get? l=some {cls:=.type "dict",dict:=i,data:=.dict es n,slots:=j})(r:s.heap.IsTuple b items2)(q:A.units<cLine):RcAt A s (.ref l) (.ref b) false/\RcNeAt A s (.ref l) (.ref b) true:=by
 obtain⟨⟨cls2,f,data2,g⟩,a,o,m,p⟩:=id r;subst o p;have k:l≠b:=λe=>by grind
 exact⟨λprog w E Q h=>rc_eq_decline_or ⟨_,d,rfl⟩ ⟨_,a,rfl⟩ ∅ Qk Q0 Qo
  (λ_ c=>No Q0 ⟨_,d,rfl⟩ F.entry_dict_eq (F.args_dict_eq_2 _ _) (qaG9 l b es items2 n m i f j g) ⟨d,a,c⟩)
  (λ_ c=>No Qo ⟨_,a,rfl⟩ F.entry_tuple_eq (F.args_tuple_eq_2 _ _) (qay3 l b es items2 n m i f j g) ⟨d,a,c⟩)
  (λ_ c=>wpAny_isSame_ref_other k d a (by simp) c) (.inr q) h,
  λprog w E Q h=>rc_ne_decline_or ⟨_,d,rfl⟩ ⟨_,a,rfl⟩ ∅ Qk Q2 Qp
   (λ_ c=>No Q2 ⟨_,d,rfl⟩ F.entry_dict_ne (F.args_dict_ne_2 _ _) (qaD7 l b es items2 n m i f j g) ⟨d,a,c⟩)
   (λ_ c=>No Qp ⟨_,a,rfl⟩ F.entry_tuple_ne (F.args_tuple_ne_2 _ _) (qay2 l b es items2 n m i f j g) ⟨d,a,c⟩)
   (λ_ c=>wpAny_isSame_ref_other k d a (by simp) c) (.inr q) h⟩
end
end LD
namespace L2
open PySem PySem.Spec PyProof.Rows PySem.SeqAt
variable{A:Nv}{a:γ}{xs:List V}
noncomputable def kvO:Option (Int×Int)->List (Key×V)|none=>[]|some (k,i)=>[(.inl k,.int i)]
inductive EqD(H:Hp):Nat->V->V->Bool->Prop
 |flat {n:Nat} {x y:V} (hx:flatV x=true) (hy:flatV y=true):EqD H n x y (eqV x y)
 |same {n:Nat} (a:γ):EqD H n (.ref a) (.ref a) true
 |lsts {n:Nat} {a b:γ} {xs ys:List V} {e:Nat->Bool} (ne:a≠b) (ha:H a=some (.l xs)) (hb:H b=some (.l ys)) (hl:xs.length=ys.length) (he:∀i x y,xs[i]?=some x->ys[i]?=some y->EqD H n x y (e i)):EqD H (n+1) (.ref a) (.ref b) ((Ob xs.length).all e)
 |lens {n:Nat} {a b:γ} {xs ys:List V} (ne:a≠b) (ha:H a=some (.l xs)) (hb:H b=some (.l ys)) (hl:xs.length≠ys.length):EqD H (n+1) (.ref a) (.ref b) false
 |tups {n:Nat} {a b:γ} {xs ys:List V} {e:Nat->Bool} (ne:a≠b) (ha:H a=some (.q xs)) (hb:H b=some (.q ys)) (he:∀i x y,xs[i]?=some x->ys[i]?=some y->EqD H n x y (e i)):EqD H (n+1) (.ref a) (.ref b) ((Ob (min xs.length ys.length)).all e&&xs.length==ys.length)
 |dcts {n:Nat} {a b:γ} {o:Option (Int×Int)} (ne:a≠b) (ha:H a=some (.dK (kvO o))) (hb:H b=some (.dK (kvO o))):EqD H n (.ref a) (.ref b) true
inductive RcD(H:Hp):V->V->Bool->Prop
 |flat {x y:V} (hx:flatV x=true) (hy:flatV y=true):RcD H x y (eqV x y)
 |lsts {a b:γ} {xs ys:List V} {e:Nat->Bool} (ha:H a=some (.l xs)) (hb:H b=some (.l ys)) (hl:xs.length=ys.length) (he:∀i x y,xs[i]?=some x->ys[i]?=some y->EqD H 20 x y (e i)):RcD H (.ref a) (.ref b) ((Ob xs.length).all e)
 |lens {a b:γ} {xs ys:List V} (ha:H a=some (.l xs)) (hb:H b=some (.l ys)) (hl:xs.length≠ys.length):RcD H (.ref a) (.ref b) false
 |tups {a b:γ} {xs ys:List V} {e:Nat->Bool} (ha:H a=some (.q xs)) (hb:H b=some (.q ys)) (he:∀i x y,xs[i]?=some x->ys[i]?=some y->EqD H 20 x y (e i)):RcD H (.ref a) (.ref b) ((Ob (min xs.length ys.length)).all e&&xs.length==ys.length)
 |lt {a b:γ} {xs ys:List V} (ha:H a=some (.l xs)) (hb:H b=some (.q ys)):RcD H (.ref a) (.ref b) false
 |tl {a b:γ} {xs ys:List V} (ha:H a=some (.q xs)) (hb:H b=some (.l ys)):RcD H (.ref a) (.ref b) false
 |lf {a:γ} {xs:List V} {y:V} (ha:H a=some (.l xs)) (hy:flatV y=true):RcD H (.ref a) y false
 |fl {a:γ} {xs:List V} {y:V} (ha:H a=some (.l xs)) (hy:flatV y=true):RcD H y (.ref a) false
 |tf {a:γ} {xs:List V} {y:V} (ha:H a=some (.q xs)) (hy:flatV y=true):RcD H (.ref a) y false
 |ft {a:γ} {xs:List V} {y:V} (ha:H a=some (.q xs)) (hy:flatV y=true):RcD H y (.ref a) false
 |dcts {a b:γ} {o:Option (Int×Int)} (ha:H a=some (.dK (kvO o))) (hb:H b=some (.dK (kvO o))):RcD H (.ref a) (.ref b) true
 |dt {a b:γ} {kvs:List (Key×V)} {ys:List V} (ha:H a=some (.dK kvs)) (hb:H b=some (.q ys)):RcD H (.ref a) (.ref b) false
section
variable{X:Cx}{M:List (γ×Obj)}{L:St}{H:Hp}{s:Sh}
theorem Rk.lstI(I:Rk X M L H s)(h:H a=some (.l xs)):∃its:List V',Ri xs its/\s.heap.IsList a its.toArray:=by obtain⟨z,its,n,r,_,e⟩:=I.lstM h;exact⟨its,r,_,e,rfl,n,rfl⟩
theorem Rk.tupI(I:Rk X M L H s)(h:H a=some (.q xs)):∃its:List V',Ri xs its/\s.heap.IsTuple a its.toArray:=by obtain⟨z,its,r,o,b,c,n,d⟩:=I.hok a _ h;exact⟨its,r,o,b,c,n,d⟩
theorem Rk.dK0(I:Rk X M L H s)(h:H a=some (.dK kvs)):∃es n,s.heap.get? a=some {cls:=.type "dict",dict:=none,data:=.dict es n,slots:=#[]}:=by obtain⟨_,_,_,_,⟨g,i,j,k⟩,es,l,b,⟨c,d,e⟩,f,_⟩:=I.hok a _ h;cases c;cases d;cases e;cases f;exact⟨_,_,b⟩
theorem qao7{P P':Nu}{w f:Nw}{es:List DictEntry}{kvs:List (Key×V')}(h:Pairs (qd0 P w) es kvs):(∀p∈kvs,∃i,p.1=Sum.inl i)->Pairs (qd0 P' f) es kvs/\∀e∈es,∃i,Hk (.inl i) e.key=true:=by induction h with|nil=>exact λ_=>⟨.nil,λ_ z=>absurd z zB0⟩|@cons e kv es kvs a b _ ih=>intro d;obtain⟨p,q⟩:=ih λx c=>d x (.tail _ c);obtain⟨i,g⟩:=d kv (.head _);exact⟨.cons a b p,λx c=>(zAl.mp c).elim (λz=>z ▸ ⟨i,g ▸ a⟩) (q x)⟩
theorem qH3{P P':Nu}{w f:Nw}{h:Heap}{kvs:List (Key×V')}(d:h.DictOf (qd0 P w) a kvs)(g:∀p∈kvs,∃i,p.1=Sum.inl i):h.DictOf (qd0 P' f) a kvs:=by obtain⟨o,j,l,m,n,r,s,t,u⟩:=d;obtain⟨p,q⟩:=qao7 t g;refine⟨o,j,l,m,n,r,λe b=>?_,p,u⟩;obtain⟨k,c,v⟩:=s e b;obtain⟨i,x⟩:=q e (Array.mem_toList_iff.mpr b);cases (qd0 P w).inj _ _ (.inl i) c x;exact⟨.inl i,c,v⟩
theorem qaL1(I:Rk X M L H s){b:γ}{o:Option (Int×Int)}(C:H a=some (.dK (kvO o)))(D:H b=some (.dK (kvO o)))(l:A.units<cLine):RcAt A s (.ref a) (.ref b) true/\RcNeAt A s (.ref a) (.ref b) false:=by
 obtain⟨_,m,c,r,d⟩:=I.hok a _ C;obtain⟨_,n,f,u,B⟩:=I.hok b _ D;have q:W.KeqHits A.in1 s f c true/\(c.length==f.length&&true)=true/\(∀p∈c,∃i,p.1=Sum.inl i)/\∀p∈f,∃i,p.1=Sum.inl i:=by obtain _|⟨k,i⟩:=o;{cases r;cases u;exact⟨.nil,rfl,λ_ z=>absurd z zB0,λ_ z=>absurd z zB0⟩};obtain _|⟨⟨e,t,p⟩,z⟩:=r;obtain _|⟨⟨F,g,G⟩,J⟩:=u;cases z;cases J;rename_i x y;obtain⟨x,w⟩:=x;obtain⟨y,K⟩:=y;cases e;cases F;cases p;cases G;have:=W.KeqHits.hit (A:=A.in1) (s:=s) (kb:=[(.inl k,.int i g)]) (k:=(.inl k:Key)) (v:=.int i t) (r:=[]) (y:=.int i g) (show Option.map _ (List.find? _ _)=_ by rw[List.find?_cons_of_pos (by exact zAn rfl)];rfl) (qaH1 (x:=.int i) (y:=.int i) ⟨t,rfl⟩ ⟨g,rfl⟩ rfl rfl) .nil;rw[show eqV (.int i) (.int i)=true from zAn rfl] at this;exact⟨this,rfl,λp j=>⟨k,congrArg Prod.fst (zAg.mp j)⟩,λp j=>⟨k,congrArg Prod.fst (zAg.mp j)⟩⟩
 exact⟨λprog w E Q h=>W.keq_eq (knd:=qd0 prog w) m n (qH3 d q.2.2.1) (qH3 B q.2.2.2) l (λ_=>q.1) (by rw[q.2.1];exact h),λprog w E Q h=>W.keq_ne (knd:=qd0 prog w) m n (qH3 d q.2.2.1) (qH3 B q.2.2.2) l (λ_=>q.1) (by rw[q.2.1];exact h)⟩
theorem qv0(A:Nv):A.in1.units<=A.units+1:=zA3 _
theorem qT1{P:V->V->Nat->Prop}{e:Nat->Bool}{ys:List V}{its its2:List V'}(r:Ri xs its)(a:Ri ys its2)(k:∀i x y u v,xs[i]?=some x->ys[i]?=some y->Rh x u->Rh y v->EqAt A s u v (e i)):∀j (h1:j<its.toArray.size) (h2:j<its2.toArray.size),EqAt A s its.toArray[j] its2.toArray[j] (e j):=by
 intro j h1 h2;rw[zA4] at h1 h2;have h:=r.length;have l:=a.length;obtain⟨u,b,d⟩:=r.get (i:=j) (x:=xs[j]'⋯) (by simp);obtain⟨v,c,f⟩:=a.get (i:=j) (x:=ys[j]'⋯) (by simp);have g:its.toArray[j]=u:=by
  have:its[j]?=some its[j]:=by simp[h1]
  rw[this] at b;simpa using Qc b
 have e2:its2.toArray[j]=v:=by
  have:its2[j]?=some its2[j]:=by simp[h2]
  rw[this] at c;simpa using Qc c
 rw[g,e2];exact k j _ _ u v (by simp) (by simp) d f
theorem EqD.at(I:Rk X M L H s)(h:EqD H n x y b):∀{A:Nv}{u v:V'},Rh x u->Rh y v->A.units+n+1<cLine->EqAt A s u v b:=by
 induction h with
 |flat B C=>intro A u v c d _;exact qaH1 c d B C|same a=>intro A u v c d _;cases c;cases d;exact EqAt.same _|@lsts n a b xs ys e f g j hl he ih=>
  intro A u v c d o;cases c;cases d;obtain⟨k,r,p⟩:=I.lstI g;obtain⟨its2,l,m⟩:=I.lstI j;have D:k.toArray.size=its2.toArray.size:=by rw[zA4,zA4,<-r.length,<-l.length,hl]
  have q:=EqAt.of_refs f (RcAt.lists (A:=A) p m D ⋯ (e:=e) (qT1 (P:=λ_ _ _=>True) r l λi x y u v t e2 w z=>ih i x y t e2 w z (by have:=qv0 A;lia)));rw[zA4,<-r.length] at q;exact q
 |@lens n a b xs ys f g j hl=>intro A u v c d o;cases c;cases d;obtain⟨k,r,p⟩:=I.lstI g;obtain⟨its2,l,m⟩:=I.lstI j;exact EqAt.of_refs f (RcAt.lists_lengths p m (by rw[zA4,zA4,<-r.length,<-l.length];simpa using hl) ⋯)|@tups n a b xs ys e f g j he ih=>intro A u v c d o;cases c;cases d;obtain⟨k,r,p⟩:=I.tupI g;obtain⟨its2,l,m⟩:=I.tupI j;have q:=EqAt.of_refs f (RcAt.tuples (A:=A) p m ⋯ (e:=e) (qT1 (P:=λ_ _ _=>True) r l λi x y u v t e2 w z=>ih i x y t e2 w z (by have:=qv0 A;lia)));rw[zA4,zA4,<-r.length,<-l.length] at q;exact q|dcts f g j=>intro A u v c d o;cases c;cases d;exact EqAt.of_refs f (qaL1 I g j ⋯).1
theorem RcD.at(I:Rk X M L H s)(h:RcD H x y b)(d:Rh x u)(c:Rh y v)(G:A.units+60<cLine):RcAt A s u v b/\RcNeAt A s u v (!b):=by
 cases h with
 |flat E o=>cases x with|non=>(cases d;cases y with|non=>cases c;exact⟨RcAt.none_none,RcNeAt.none_none⟩|bl b=>cases c;exact⟨RcAt.none_bool b,RcNeAt.none_bool b⟩|int b=>obtain⟨t,rfl⟩:=c;exact⟨RcAt.none_int b t,RcNeAt.none_int b t⟩|str b=>obtain⟨t,rfl⟩:=c;exact⟨RcAt.none_str b t,RcNeAt.none_str b t⟩|_=>exact absurd (show false=true from o) zA8)|bl a=>(cases d;cases y with|non=>cases c;exact⟨RcAt.bool_none a,RcNeAt.bool_none a⟩|bl b=>cases c;exact⟨RcAt.bool_bool a b,RcNeAt.bool_bool a b⟩|int b=>obtain⟨t,rfl⟩:=c;exact⟨RcAt.bool_int a b t,RcNeAt.bool_int a b t⟩|str b=>obtain⟨t,rfl⟩:=c;exact⟨RcAt.bool_str a b t,RcNeAt.bool_str a b t⟩|_=>exact absurd (show false=true from o) zA8)|int a=>(obtain⟨j,rfl⟩:=d;cases y with|non=>cases c;exact⟨RcAt.int_none a j,RcNeAt.int_none a j⟩|bl b=>cases c;exact⟨RcAt.int_bool a j b,RcNeAt.int_bool a j b⟩|int b=>obtain⟨t,rfl⟩:=c;exact⟨RcAt.int_int a j b t,RcNeAt.int_int a j b t⟩|str b=>obtain⟨t,rfl⟩:=c;exact⟨RcAt.int_str a j b t,RcNeAt.int_str a j b t⟩|_=>exact absurd (show false=true from o) zA8)|str a=>(obtain⟨j,rfl⟩:=d;cases y with|non=>cases c;exact⟨RcAt.str_none a j,RcNeAt.str_none a j⟩|bl b=>cases c;exact⟨RcAt.str_bool a j b,RcNeAt.str_bool a j b⟩|int b=>obtain⟨t,rfl⟩:=c;exact⟨RcAt.str_int a j b t,RcNeAt.str_int a j b t⟩|str b=>obtain⟨t,rfl⟩:=c;exact⟨RcAt.str_str a j b t,RcNeAt.str_str a j b t⟩|_=>exact absurd (show false=true from o) zA8)|_=>exact absurd (show false=true from E) zA8
 |@lsts a b xs ys e f n hl he=>
  cases d;cases c;obtain⟨g,r,p⟩:=I.lstI f;obtain⟨its2,q,l⟩:=I.lstI n;have w:g.toArray.size=its2.toArray.size:=by rw[zA4,zA4,<-r.length,<-q.length,hl]
  have k:=qT1 (P:=λ_ _ _=>True) (e:=e) (A:=A.in1) (s:=s) r q λi x y u v B e2 C D=>(he i x y B e2).at I C D (by have:=qv0 A;lia);have z:=RcAt.lists p l w ⋯ k;have q2:=RcNeAt.lists p l w ⋯ k;rw[zA4,<-r.length] at z q2;exact⟨z,q2⟩
 |@lens a b xs ys f n hl=>
  cases d;cases c;obtain⟨g,r,p⟩:=I.lstI f;obtain⟨its2,q,l⟩:=I.lstI n;have w:(g.toArray.size != its2.toArray.size)=true:=by rw[zA4,zA4,<-r.length,<-q.length];simpa using hl
  exact⟨RcAt.lists_lengths p l w ⋯,RcNeAt.lists_lengths p l w ⋯⟩
 |@tups a b xs ys e f n he=>cases d;cases c;obtain⟨g,r,p⟩:=I.tupI f;obtain⟨its2,q,l⟩:=I.tupI n;have k:=qT1 (P:=λ_ _ _=>True) (e:=e) (A:=A.in1) (s:=s) r q λi x y u v B e2 C D=>(he i x y B e2).at I C D (by have:=qv0 A;lia);have z:=RcAt.tuples p l ⋯ k;have q2:=RcNeAt.tuples p l ⋯ k;rw[zA4,zA4,<-r.length,<-q.length] at z q2;exact⟨z,q2⟩|lt f n=>cases d;cases c;obtain⟨g,r,p⟩:=I.lstI f;obtain⟨its2,q,l⟩:=I.tupI n;exact⟨RcAt.list_tuple p l ⋯,RcNeAt.list_tuple p l ⋯⟩|tl f n=>cases d;cases c;obtain⟨g,r,p⟩:=I.tupI f;obtain⟨its2,q,l⟩:=I.lstI n;exact⟨RcAt.tuple_list p l ⋯,RcNeAt.tuple_list p l ⋯⟩|lf f o=>cases d;obtain⟨g,r,p⟩:=I.lstI f;cases y with|non=>cases c;exact⟨RcAt.list_none p ⋯,RcNeAt.list_none p ⋯⟩|bl b=>cases c;exact⟨RcAt.list_bool b p ⋯,RcNeAt.list_bool b p ⋯⟩|int b=>obtain⟨t,rfl⟩:=c;exact⟨RcAt.list_int b t p ⋯,RcNeAt.list_int b t p ⋯⟩|str b=>obtain⟨t,rfl⟩:=c;exact⟨RcAt.list_str b t p ⋯,RcNeAt.list_str b t p ⋯⟩|_=>exact absurd (show false=true from o) zA8
 |fl f o=>cases c;obtain⟨g,r,p⟩:=I.lstI f;cases x with|non=>cases d;exact⟨RcAt.none_list p ⋯,RcNeAt.none_list p ⋯⟩|bl b=>cases d;exact⟨RcAt.bool_list b p ⋯,RcNeAt.bool_list b p ⋯⟩|int b=>obtain⟨t,rfl⟩:=d;exact⟨RcAt.int_list b t p ⋯,RcNeAt.int_list b t p ⋯⟩|str b=>obtain⟨t,rfl⟩:=d;exact⟨RcAt.str_list b t p ⋯,RcNeAt.str_list b t p ⋯⟩|_=>exact absurd (show false=true from o) zA8
 |tf f o=>cases d;obtain⟨g,r,p⟩:=I.tupI f;cases y with|non=>cases c;exact⟨RcAt.tuple_none p ⋯,RcNeAt.tuple_none p ⋯⟩|bl b=>cases c;exact⟨RcAt.tuple_bool b p ⋯,RcNeAt.tuple_bool b p ⋯⟩|int b=>obtain⟨t,rfl⟩:=c;exact⟨RcAt.tuple_int b t p ⋯,RcNeAt.tuple_int b t p ⋯⟩|str b=>obtain⟨t,rfl⟩:=c;exact⟨RcAt.tuple_str b t p ⋯,RcNeAt.tuple_str b t p ⋯⟩|_=>exact absurd (show false=true from o) zA8
 |ft f o=>cases c;obtain⟨g,r,p⟩:=I.tupI f;cases x with|non=>cases d;exact⟨RcAt.none_tuple p ⋯,RcNeAt.none_tuple p ⋯⟩|bl b=>cases d;exact⟨RcAt.bool_tuple b p ⋯,RcNeAt.bool_tuple b p ⋯⟩|int b=>obtain⟨t,rfl⟩:=d;exact⟨RcAt.int_tuple b t p ⋯,RcNeAt.int_tuple b t p ⋯⟩|str b=>obtain⟨t,rfl⟩:=d;exact⟨RcAt.str_tuple b t p ⋯,RcNeAt.str_tuple b t p ⋯⟩|_=>exact absurd (show false=true from o) zA8
 |dcts f n=>cases d;cases c;exact qaL1 I f n ⋯|dt f n=>cases d;cases c;obtain⟨J,m,F⟩:=I.dK0 f;obtain⟨its2,q,l⟩:=I.tupI n;exact LD.rc_dt F l ⋯
end
def rEqD:R2:=λx y H Q=>∃b,RcD H x y b/\Q (.bl b) H
def rNeD:R2:=λx y H Q=>∃b,RcD H x y b/\Q (.bl (!b)) H
theorem qi8(e:X.A.units+64<cLine):OpR X (M' .Eq) rEqD:=by intro Fx s f H x y v u Q I a c ⟨b,d,q⟩;exact(d.at I a c ⋯).1 X.prog X.w X.xe _ ⟨.bl b,H,I,rfl,q⟩
theorem qi7(e:X.A.units+64<cLine):OpR X (M' .NotEq) rNeD:=by intro Fx s f H x y v u Q I a c ⟨b,d,q⟩;exact(d.at I a c ⋯).2 X.prog X.w X.xe _ ⟨.bl (!b),H,I,rfl,q⟩
theorem qz2:∀{x:V},flatV x=true->eqV x x=true:=by intro x h;cases x with|non=>rfl|bl b=>exact zB1 b|int b=>exact zB1 b|str b=>exact zB1 b|_=>exact absurd (show false=true from h) zA8
theorem Room.u64(a:Room k A):A.units+64<cLine:=a.units
end L2
namespace L2
open PySem PySem.Spec PyProof.Rows
variable{Q:Unit->Sh->Prop}{vs:Array V'}
section
variable{prog:Nu}{w:Nw}{A:Nv}{E:V'->Sh->Prop}{s:Sh}
theorem qZ3{l b f:γ}{items a:Array V'}{n t:Nat}{j k:V'}(e:s.heap.get? l=some {cls:=.type "list",data:=.seq items n})(e2:s.heap.get? b=some {cls:=.type "list",data:=.seq a t})(o:l≠b)(u:s.heap.IsSliceOf f j k .none)(pl:IsPart j none)(v:IsPart k none)(hsz:items.size+a.size<=M9)(h:Q () {s with heap:=s.heap.update l (Obj.mapSeq λxs=>xs.extract 0 0++a++xs.extract items.size xs.size)}):Nr (Nt prog w) A (setItem (.ref l) (.ref f) (.ref b)) Q E s:=by
 have p:s.heap.IsList l items:=PySem.IsL.isList e;have y:s.heap.IsList b a:=PySem.IsL.isList e2;obtain⟨z,c,q,d⟩:=id u;have g:s.TypeIs (.ref f) "slice" := ⟨z,c,q⟩;have hstep:¬((rawPart none==rawInt 0)=true):=zA8;have hsame:Builtin.List.listSameRef (.ref l) (.ref b)=false:=by unfold Builtin.List.listSameRef;exact zBr.mpr o
 have i:(max (0:Int) (items.size:Int)).toNat=items.size:=⋯;have r:((λxs:Array V'=>xs.extract 0 0++a++xs.extract items.size xs.size) items).size<=M9+1:=by simp only[Array.size_append,Array.size_extract];lia
 unfold setItem;try with_reducible refine Nb ?_
 first|refine J' (M7 ?_)|skip
 refine J' (wpAny_sequenceKey p.typeIs ∅ ?_);refine J' (wpAny_callSpecial?_slot (name:=Str.ofString "__setitem__") p.typeIs slot_list_setitem
  (wpAny_call_entry slot_list_setitem p.typeIs entry_list_setitem ?_ (args_list_setitem _ _ _)))
 show Nr _ _ (Builtin.List.listSubscript? (.ref f) >>= _) _ _ s;refine J' ?_;unfold Builtin.List.listSubscript?;refine J' (wpAny_specialOf g slice_no_index ?_);simp only[Option.isNone_none,if_true];refine M7 ?_;show Nr _ _ (typeOf (.ref f) >>= _) _ _ s;refine J' (wpAny_typeOf g ?_);first
  |rw[if_neg ∅]
  |refine W.KFB.if_not ∅ ?_
 rw[listSliceParts_eq];refine J' (J' (wpAny_field c d (x:=.none) rfl (J' (wpAny_listPart .none ?_))));rw[if_neg hstep];refine J' (wpAny_field c d (x:=j) rfl (J' (wpAny_listPart pl ?_)));refine J' (wpAny_field c d (x:=k) rfl (J' (wpAny_listPart v (M7 ?_))));first
  |simp only[hsame,Bool.false_eq_true,if_false]
  |refine W.KFB.if_not hsame ?_
  |(dsimp only;rw[if_neg (by rw[hsame];exact zA8)])
 refine J' (m:=Builtin.List.listAllItems (.ref b) "must assign iterable to extended slice") ?_;unfold Builtin.List.listAllItems;refine J' (wpAny_typeOf y.typeIs ?_);first
  |refine W.KFB.if_so ∅ ?_
  |rw[if_pos ∅]
  |simp only[zB1,Bool.true_or,if_true]
 unfold Builtin.List.listItems;refine J' (wpAny_seqItems e2 rfl (M7 ?_));refine J' (J' (wpAny_seqItems e rfl (M7 ?_)));refine J' (wpAny_of_eq (sliceIndices_raw none none none items.size (by simp)) ?_);show Nr _ _ (if ((1:Int)==1)=true then _ else _) _ _ s;rw[if_pos ∅];refine J' (Nm ?_);first
  |simp only[qQ9 hsz,Bool.false_eq_true,if_false]
  |refine W.KFB.if_not (qQ9 hsz) ?_
 first|refine J' (M7 ?_)|skip
 show Nr _ _ (updateSeq l (λxs=>xs.extract 0 ((0:Int)).toNat++a++xs.extract (max (0:Int) (items.size:Int)).toNat xs.size) >>= _) _ _ s;rw[i,show ((0:Int)).toNat=0 from rfl];refine J' (wpAny_updateSeq (hz:=zA7 (Nat.le_add_right _ _) hsz) (_hz':=r) e rfl ?_);refine J' (wpAny_letGo ?_);first
  |exact J' (M7 (M7 ⟨.none,rfl,M7 h⟩))
  |exact M7 ⟨.none,rfl,M7 h⟩
end
section
variable{X:Cx}
def gAll(to:TE):TG:=λv w H Q=>to w H λo H1=>∃l b xs ys,o=.ref l/\v=.ref b/\l≠b/\H1 l=some (.l xs)/\H1 b=some (.l ys)/\xs.length+ys.length<=M9/\Q w (upd H1 l (.l ys))
theorem qaY3{o:Nx}{to:TE}{p2 pos:Pos}(k:PE X o to):PG X (.Subscript o (.Slice none none none p2) pos) (gAll to):=by intro Fx s w H v u Q I r h;rw[assign_Subscript];refine J' (Nb (thn (k Fx s w H _ I h) λA c d=>?_));obtain⟨x,H1,I1,m,p⟩:=d;obtain⟨l,b,B,C,rfl,rfl,f,i,t,D,q⟩:=p;cases m;cases r;refine J' (Nb (wpAny_Slice ?_));simp only[evalPart_none];refine M7 (M7 (M7 ?_));refine J' (wpAny_standAt (J' (Nb ?_)));have I2:Rk X Fx w H1 {c with heap:=c.heap.push {cls:=.type "slice",data:=.fields #[.none,.none,.none]} }:=I1.kept (t':=c.toks) λb E q=>zA2 _ q;obtain⟨z,a,n,F,j,e⟩:=I2.lstM i;obtain⟨y,its2,G,g,hlen2,e2⟩:=I2.lstM t;refine qZ3 e e2 f (Heap.IsSliceOf.new ..) .none .none (by rw[zA4,zA4];lia) (wpAny_release ⟨w,_,?_,q⟩);refine I2.lset (its':=its2) (t':=c.toks) i e ?_ g y;rw[zA4];have:=qam7 a its2 0 a.length;rw[show a.toArray.size=a.length from zA4 ..] at this;simpa using this
end
structure Cl(K:Qe)(mg:Str->Option V')(x:Str)(C:γ):Prop where
 cl:Cls K C
 m:mg x=some (.ref C)
structure Md(K:Qe)(C:γ)(m qual:Str)(st:Ny)(f:γ)(fd:δ)(ps:List Str):Prop where
 F:Fun K m qual st f fd
 b:Binds K fd ps []
 me:Lr K C m f
 isf:W.isFn K (.ref f)=true
theorem mdmk{K:Qe}{st:Ny}{kV:V'}(l:K.lookup f=some ⟨oc,od,.func (W.fnOf m qual (qf9 st) (qd6 st) (qa4 st) .none kV d g e b j),n⟩)(c:W.codeIn K b qual=true)(k:W.keepIn K (.ref f)=true)(a:W.findIn K (.ref C) m=some (some (.ref f)))(i:W.isFn K (.ref f)=true)(h:∀(kV d g:V')(e:Option γ)(b j:V')(us:List V'),us.length=ps.length->bindArgs (W.fnOf m qual (qf9 st) (qd6 st) (qa4 st) .none kV d g e b j) ⟨us,[]⟩=pure (ps.zip us)):Md K C m qual st f (W.fnOf m qual (qf9 st) (qd6 st) (qa4 st) .none kV d g e b j) ps:=⟨qaq5 l c k,(qaq5 l c k).binds h,⟨a,i,k⟩,i⟩
section
variable{M:Model}{A:Nv}{E:V'->Sh->Prop}{s:Sh}
structure Left(h h':Heap)(f:List γ)(e T:γ)(oe:Obj)(old:Option V'):Prop where
 new:h.objs.size<=T
 keep:∀b o,h.get? b=some o->b≠e->old≠some (.ref b)->b∉f->h'.get? b=some o
 slot:∀b o,h.get? b=some o->b∈f->∃sl,h'.get? b=some {o with slots:=sl}
 there:∀b o,h.get? b=some o->∃o',h'.get? b=some o'
 exc:∃vs oT ts,h'.get? e=some {oe with data:=.fields vs}/\1<vs.size/\vs[1]?=some (.ref T)/\T≠e/\h'.get? T=some oT/\oT.data=.fields ts/\ts[3]?=some .none
theorem qav6{o:Obj}(e:o.data=.fields vs)(g:Array V'->Array V'):Obj.mapFields g o={o with data:=.fields (g vs)}:=by obtain⟨a,b,c,d⟩:=o;cases e;rfl
theorem qL6{base:Heap}{env:Env}{outer:List Env}{L e:γ}{oe:Obj}{c:V'}{P:Bool}{old:Option V'}(m:A.frames=some (env::outer))(B:s.heap.FunFrames base (env::outer))(R:env.frame=some L)(l:s.heap.get? e=some oe)(g:oe.data=.fields vs)(hsz:1<vs.size)(h:∀h' T,Left s.heap h' ((env::outer).filterMap (·.frame)) e T oe old->Q () {s with heap:=h'}):Nr M A (do let a<-frameOf env;let pl<-entryPlaceOf L P;let b<-EntryCells.newEntry c a .none (rawInt L) .none pl;setField (.ref e) 1 b)
 (λ_ s'=>Nr M A (setFlight (.ref e) none) Q E s') E s:=by
 have i:∀b o n,s.heap.get? b=some o->o.data=.fields n->b∉(env::outer).filterMap (·.frame):=λb o n p q2 q=>by obtain⟨_,W,C,S⟩:=B.mem q;rw[p] at C;cases C;exact S n q2
 refine J' (wpAny_frameOf_fun m B R λg1 p=>?_);refine J' (wpAny_entryPlaceOf λpl r=>?_);unfold EntryCells.newEntry newFields;refine J' (wpAny_newObj_type ?_ (r.sizeOk5 _ _ _ _ _));obtain⟨U,D,F⟩:=p;have G:g1.get? e=some oe:=(D e (i e oe vs l g)).trans l;generalize j:({cls:=.type "traceback",dict:=none,data:=.fields ([c,.ref L,.none,rawInt L,.none]++(if pl.isEmpty then Oa 6 P0 else pl)).toArray}:Obj)=oT;have k:∃t,oT.data=.fields t/\3<t.size:=by refine⟨([c,.ref L,.none,rawInt L,.none]++(if pl.isEmpty then Oa 6 P0 else pl)).toArray,by rw[<-j],?_⟩;simp only[zA4,zAf,zAp,zBw];lia
 have nf:oT.isFreed=false:=by rw[<-j];rfl
 obtain⟨t,k,H⟩:=k;have e2:=zA2 (h:=g1) oT G;refine wpAny_setField e2 g hsz ?_;have u:g1.objs.size≠e:=Nat.ne_of_gt (zA9 G);have I:=Obj.data_mapFields g (·.setIfInBounds 1 (Pz g1.objs.size));have J:=zBv (Obj.mapFields (·.setIfInBounds 1 (Pz g1.objs.size))) e2 (Obj.isFreed_of_fields I);have K:((g1.push oT).update e (Obj.mapFields (·.setIfInBounds 1 (Pz g1.objs.size)))).get? g1.objs.size=some oT:=(zBe _ _ (Ne.symm u)).trans (zAv g1 nf);unfold setFlight;refine J' (wpAny_field J I (x:=.ref g1.objs.size) (by simp[hsz]) ?_);rw[if_pos (show (Pz g1.objs.size != P0)=true from by simp)];refine wpAny_setField K k H (h _ g1.objs.size ?_);have keep:∀b o,b≠e->g1.get? b=some o->(((g1.push oT).update e (Obj.mapFields (·.setIfInBounds 1 (Pz g1.objs.size)))).update g1.objs.size (Obj.mapFields (·.setIfInBounds 3 ((none:Option γ).elim P0 λf=>rawInt f)))).get? b=some o:=λb o v w=>by rw[zBe _ _ (Nat.ne_of_gt (zA9 w)),zBe _ _ (Ne.symm v)];exact zA2 _ w
 have N:(((g1.push oT).update e (Obj.mapFields (·.setIfInBounds 1 (Pz g1.objs.size)))).update g1.objs.size (Obj.mapFields (·.setIfInBounds 3 ((none:Option γ).elim P0 λf=>rawInt f)))).get? e=some {oe with data:=.fields (vs.setIfInBounds 1 (Pz g1.objs.size))}:=by rw[zBe _ _ u,J,qav6 g]
 refine⟨zC7 U.symm,λb o d v w V=>keep b o v ((D b V).trans d),λb o d q=>?_,λb o d=>?_,_,_,_,N,by simpa using hsz,by simp[hsz],u,zBv _ K (Obj.isFreed_of_fields (Obj.data_mapFields k _)),Obj.data_mapFields k _,by simp[H]⟩;{obtain⟨O,y⟩:=F b o d;refine⟨O,keep b _ (λz=>?_) y⟩;subst z;rw[l] at d;cases d;exact i b _ vs l g q};obtain⟨O,y⟩:=F b o d;by_cases z:b=e;{subst z;exact⟨_,N⟩};exact⟨_,keep b _ z y⟩
theorem qK4{base:Heap}{env:Env}{outer:List Env}{L e:γ}{oe:Obj}(d:A.frames=some (env::outer))(p:s.heap.FunFrames base (env::outer))(r:env.frame=some L)(g:s.heap.get? e=some oe)(i:oe.data=.fields vs)(hsz:1<vs.size)(B:vs[1]?=some .none∨∃T j ts,vs[1]?=some (.ref T)/\T≠e/\s.heap.get? T=some j/\j.data=.fields ts/\ts[3]?=some .none)(h:∀h' T,Left s.heap h' ((env::outer).filterMap (·.frame)) e T oe vs[1]? -> Q () {s with heap:=h'}):Nr M A (noteFrame (.ref e) env) (λ_ s'=>Nr M A (setFlight (.ref e) none) Q E s') E s:=by
 unfold noteFrame;simp only[r];rcases B with k|⟨T,j,ts,k,t,f,c,x⟩;{refine J' (wpAny_field g i k ?_);rw[if_neg ∅];exact qL6 (old:=vs[1]?) d p r g i hsz h};refine J' (wpAny_field g i k ?_);rw[if_pos (show (Pz T != P0)=true from by simp)];refine J' (wpAny_field f c x ?_);rw[if_neg (show ¬((P0==rawInt L)=true) from by simp[rawInt])];have C:=(Array.getElem?_eq_some_iff.mp x).1;refine J' (wpAny_setField f c C ?_);have other:∀b,b≠T->(s.heap.update T (Obj.mapFields (·.setIfInBounds 3 P0))).get? b=s.heap.get? b:=λb a=>zBe _ _ (Ne.symm a);have D:∀b∈(env::outer).filterMap (·.frame),b≠T:=λb l z=>by obtain⟨_,K,m,n⟩:=p.mem l;subst z;rw[f] at m;cases m;exact n ts c
 have F:(s.heap.update T (Obj.mapFields (·.setIfInBounds 3 P0))).get? T=some {j with data:=.fields (ts.setIfInBounds 3 .none)}:=by rw[zBv _ f (Obj.isFreed_of_fields (Obj.data_mapFields c _)),qav6 c]
 have v:(s.heap.update T (Obj.mapFields (·.setIfInBounds 3 P0))).FunFrames base (env::outer):=p.of_keeps λb o a w=>⟨o,(other b λz=>by subst z;rw[f] at a;cases a;exact w ts c).trans a,rfl⟩;refine qL6 (s:={s with heap:=s.heap.update T (Obj.mapFields (·.setIfInBounds 3 P0))}) (old:=vs[1]?) d v r ((other e (Ne.symm t)).trans g) i hsz λh' T' q=>h h' T' ?_;obtain⟨G,q2,m,n,H⟩:=q;refine⟨by rwa[show (s.heap.update T (Obj.mapFields (·.setIfInBounds 3 P0))).objs.size=s.heap.objs.size from Heap.size_update _ _ _] at G,λb o a I y J=>?_,λb o a l=>m b o ((other b (D b l)).trans a) l,λb o a=>?_,H⟩;{exact q2 b o ((other b λz=>y (by rw[k,z])).trans a) I y J};by_cases z:b=T;{subst z;exact n _ _ F};exact n b o ((other b z).trans a)
end
end L2
namespace L2
open PySem PySem.Spec PyProof.Rows Builtin Builtin.ObjectAttr
variable{ox:Obj}
noncomputable def Lx:List V'->Bool|.ref _::r=>Lx r|.type n::r=>P6 n::r==[.type "ValueError",.type "Exception",.type "BaseException",.type "object"]|_=>false
theorem qQ1(self:V'):∀{l:List V'},Lx l=true->refuseLoop self "__setattr__" l=pure ():=by intro l;induction l with|nil=>intro e;cases e|cons c r b=>intro e;cases c with|ref a=>rw[refuseLoop_ref];exact b e|type n=>rw[show (P6 n::r)=[.type "ValueError",.type "Exception",.type "BaseException",.type "object"] from zBl.mp e];exact F.store_ValueError.passes self|_=>cases e
structure Exc(K:Qe)(C:γ):Prop where
 mro:(W.clsIn K C).any (λcd=>Lx cd.mro)=true
 hd:W.hasDictIn K C=true
 kts:W.ktsIn K C "ValueError"=true
 sa:W.findIn K (.ref C) "__setattr__"=some (some (.builtin "object.__setattr__"))
 ga:W.findIn K (.ref C) "__getattribute__"=some (some (.builtin "BaseException.__getattribute__"))
 gt:W.findIn K (.ref C) "__getattr__"=some none
 be:W.mroIn K C (.type "BaseException")=some true
 ob:W.mroIn K C (.type "object")=some true
 ty:W.typeIn K (.ref C)=some (.type "type")
section
variable{prog:Nu}{w:Nw}{A:Nv}{E:V'->Sh->Prop}{s:Sh}{K:Qe}{x C:γ}{name:Str}{v:V'}
theorem qaw7{R:Result->Sh->Prop}{od:Option Obj}{a:Tok}(X:K.In s.heap)(I:W.InstAt s.heap x ox C od)(c:Exc K C)(b:W.findIn K (.ref C) name=some none)(h:Nr (Nt prog w) A.in1 (storeInOwnDict (.ref x) (.ref C) (.str name a) name v false)
 (λfin s'=>match fin with | .done f=>R (.ok f) s' | .again c'=>c'.quiet=true/\codeAny (Nt prog w) A c' R s') (λe s'=>R (.error e) s') s):codeAny (Nt prog w) A (.call (.builtin "object.__setattr__") ⟨[.ref x,.str name a,v],[]⟩) R s:=by have SF:=F.store_object;obtain⟨d,g,i⟩:=W.any_some c.mro;refine codeAny_call_builtin SF.slot.plain SF.entry (@W.check_slot (Nt prog w) _ _ s "object.__setattr__" "object" "__setattr__" (.ref x) [.str name a,v] [] _ SF.kind SF.split (I.type.andThen (W.looks_mroIn X c.ob)) (SF.args (.ref x) (.str name a) v) ?_);have j:W.Looks (Nt prog w) s.heap (mroOf (.ref C)) d.mro:=(W.looks_clsIn X g).andThen .now;rw[W.osa_eq,refuse_eq];refine J' (J' (I.type.here (J' (j.here ?_))));rw[qQ1 _ i];exact M7 (J' (I.type.here (J' ((W.looks_findIn X b).here (J' (M7 h))))))
theorem qaG5{Q:Unit->Sh->Prop}{vs:Array V'}(X:K.In s.heap)(c:Exc K C)(i:s.heap.get? x=some ox)(a:ox.cls=.ref C)(d:ox.data=.fields vs)(f:ox.dict=none)(u:W.findIn K (.ref C) name=some none)(h:∀h' j,h'.get? x=some {ox with dict:=some s.heap.objs.size}->h'.Ns1 s.heap.objs.size (λy=>if y=name then some v else none)->(∀b o,b≠x->s.heap.get? b=some o->h'.get? b=some o)->Q () {s with heap:=h',toks:=j}):Nr (Nt prog w) A (setAttr (.ref x) name v) Q E s:=by obtain⟨M,z,B,g⟩:=ox;dsimp only at a d f;subst a d f;have I:W.InstAt s.heap x ⟨.ref C,none,.fields vs,g⟩ C none:=⟨i,rfl,rfl,True.intro⟩;refine W.set_plain X I c.sa (qaw7 X I c u ?_);obtain⟨N,D,k⟩:=W.any_some c.hd;refine J' (M7 (J' (J' (wpAny_loadPart i (J' (W.Looks.here (W.looks_clsIn X D) ?_))))));rw[k];have p:(s.heap.push {cls:=.type "dict",data:=.dict #[]}).get? x=some ⟨.ref C,none,.fields vs,g⟩:=zA2 _ i;have q:x≠s.heap.objs.size:=zAj (zA9 i);rw[if_neg (by simp[typeHasDict])];refine J' (wpAny_alloc ?_);refine J' (wpAny_update p (M7 ?_));have gd:((s.heap.push {cls:=.type "dict",data:=.dict #[]}).update x λo=>{o with dict:=some s.heap.objs.size}).get? s.heap.objs.size=some {cls:=.type "dict",data:=.dict #[]}:=(Heap.get?_update_ne _ _ _ _ (Ne.symm q)).trans (Heap.get?_push_at rfl rfl);have F:((s.heap.push {cls:=.type "dict",data:=.dict #[]}).update x λo=>{o with dict:=some s.heap.objs.size}).Ns s.heap.objs.size (λ_=>none):=⟨_,#[],_,gd,rfl,λe G=>absurd G (by simp),λ_=>rfl⟩;unfold storeInDict newKeyGuard;refine J' (M7 (J' (wpAny_nsSet1 (Heap.Ns1.of_empty F) λh' r t=>?_)));obtain⟨O,H,J,l,m,n⟩:=r.count (Within.cons name v Within.nil);refine J' (wpAny_lookBehind l (by rw[m];exact pastItsLine_dict (zA7 n (by rw[zAp,zBw,Ng];lia))) ?_);refine M7 (h h' _ ?_ r λb o L e=>?_);{exact(t.2 x q).trans (zBv _ p rfl)};exact(t.2 b (zAj (zA9 e))).trans ((Heap.get?_update_ne _ _ _ _ L).trans (zA2 _ e))
theorem qaG4{Q:Unit->Sh->Prop}{vs:Array V'}{dx:γ}{mA:Str->Option V'}{ns:List Str}(X:K.In s.heap)(c:Exc K C)(p:s.heap.get? x=some ox)(a:ox.cls=.ref C)(d:ox.data=.fields vs)(f:ox.dict=some dx)(q:s.heap.Ns1 dx mA)(t:Within mA ns)(hz:ns.length<=1000)(u:W.findIn K (.ref C) name=some none)(h:∀h' g,h'.Ns1 dx (λy=>if y=name then some v else mA y)->(∀b o,b≠dx->s.heap.get? b=some o->h'.get? b=some o)->Q () {s with heap:=h',toks:=g}):Nr (Nt prog w) A (setAttr (.ref x) name v) Q E s:=by obtain⟨M,z,B,i⟩:=ox;subst a d f;obtain⟨D,j,_⟩:=qv5 q;have I:W.InstAt s.heap x ⟨.ref C,some dx,.fields vs,i⟩ C (some D):=⟨p,rfl,rfl,j⟩;refine W.set_plain X I c.sa (qaw7 X I c u ?_);obtain⟨N,F,k⟩:=W.any_some c.hd;refine J' (M7 (J' (J' (wpAny_loadPart p (J' (W.Looks.here (W.looks_clsIn X F) ?_))))));rw[k];refine M7 (J' (M7 (J' ?_)));refine wpAny_nsSet1 q λh' r G=>?_;obtain⟨O,H,J,l,m,n⟩:=r.count (Within.cons name v t);refine J' (wpAny_lookBehind l (by rw[m];exact pastItsLine_dict (zA7 n (by rw[zAp,Ng];lia))) ?_);exact M7 (h h' _ r λb o L e=>(G.2 b L).trans e)
theorem qaT3{Q:V'->Sh->Prop}{od:Obj}{expr:Bool}(X:K.In s.heap)(c:Exc K C)(I:W.InstAt s.heap x ox C (some od))(b:W.findObj K C (some od) name=some (.value v))(e:W.handedIn v=true)(h:∀a,Q v {s with toks:=a}):Nr (Nt prog w) A (getAttr (.ref x) name expr) Q E s:=by
 have FB:=Qq;obtain⟨k,g,d,t,l⟩:=s;have L0:=I.type (M:=Nt prog w);have L1:=W.looks_findIn (M:=Nt prog w) X c.ga;have L2:=W.looks_findIn (M:=Nt prog w) X c.gt;have L3:=W.looks_find (M:=Nt prog w) X I b;have f:builtinKind "BaseException.__getattribute__"=some .slot:=by decide +kernel
 have i:splitId "BaseException.__getattribute__"=some ("BaseException", "__getattribute__"):=by decide +kernel
 unfold getAttr getAttrBy;refine J' (wpAny_mkText (Nb (J' (L0.at (J' (L1.at ?_))))));dsimp only;have j:(P3 "BaseException.__getattribute__"==P3 "object.__getattribute__")=false:=by decide +kernel
 rw[j,Bool.and_false,if_neg zA8];unfold getAttrByItsOwn hookBefore;refine J' ?_;rw[if_pos (by rfl)];refine L2.at ?_;unfold callGetattribute boundAndCalled;rw[if_neg (by cases expr<;>decide)];refine J' (wpAny_attempt (Nb ?_));rw[FB.ga.bind (.ref x)];refine J' (M7 (wpAny_call ?_));refine codeAny_call_builtin FB.ga.plain Qz (@W.check_slot (Nt prog w) _ _ _ "BaseException.__getattribute__" "BaseException" "__getattribute__" (.ref x) [.str name t] [] _ f i (L0.andThen (W.looks_mroIn X c.be)) (Q3 (.ref x) (.str name t)) ?_);unfold Builtin.«object.__getattribute__»;refine J' (M7 (J' (M7 (J' (L0.at (J' (L3.at ?_)))))));refine M7 ?_;show Nr _ _ (handedOut v) _ _ _;rw[W.handedOut_of e];exact M7 (h _)
end
end L2
namespace L2
open PySem PySem.Spec PyProof.Rows
variable{Q:Unit->Sh->Prop}{fr:Bool}{xe:V'->Sh->Prop}
noncomputable abbrev mroVE:List V':=[.type "ValueError",.type "Exception",.type "BaseException",.type "object"]
def Jj(K:Qe)(C:γ):Bool:=W.ktsIn K C "ValueError" && (K.lookup C).any λo=>o.slots.toList[4]?==some (some (.builtin "ValueError.__new__"))&&(match o.data with|.cls cd=>W.tailIn K mroVE cd.mro.tail|_=>false)
theorem qaj4{K:Qe}{h:Heap}{C:γ}(X:K.In h)(q:Jj K C=true):∃f g N bs d a i sub j b k l m p r s,
 h.get? C=some (excClassObj f g C N bs d a i sub j b k l m p r s "ValueError.__new__")/\OwnTail h mroVE d:=by unfold Jj at q;rw[zBk] at q;obtain⟨f,g,N,bs,d,a,i,sub,j,b,k,l,m,p,r,s,n,t,_⟩:=W.kts_cls X q.1;have q2:=q.2;rw[Option.any_eq_true] at q2;obtain⟨o,u,q2⟩:=q2;have e:=(X _ _ u).symm.trans t;injection e with e;subst e;rw[zBk] at q2;have c:=eq_of_beq q2.1;injection c with c;injection c with c;injection c with c;subst c;exact⟨f,g,N,bs,d,a,i,sub,j,b,k,l,m,p,r,s,t,W.tail_of_in X q2.2⟩
section
variable{prog:Nu}{w:Nw}{A:Nv}{K:Qe}{C R:γ}{h:Heap}{g:Array GenState}{d:Drawn}{t:Nat}{S:OsState}
theorem qar4{rest:List V'}{Q:Fin->Sh->Prop}{E:V'->Sh->Prop}(X:K.In h)(m:Jj K C=true)(hi:W.findIn K (.ref C) "__init__"=some (some (.ref R)))(i:W.typeIn K (.ref R)=some (.type "function"))(hrest:rest.length<=M9)(j:Nr (Nt prog w) A (call (.ref R) (.ref (h.objs.size+1)::rest)) (λr s'=>r=.none/\Q (.done (.ret (.ref (h.objs.size+1)))) s') E
 ⟨(h.push {cls:=.type "tuple",data:=.seq rest.toArray}).push {cls:=.ref C,data:=.fields #[.ref h.objs.size,.none,.none,.none,.bool false,.none]},g,d,t,S⟩):Nr (Nt prog w) A (Builtin.«type.__call__» ⟨.ref C::rest,[]⟩) Q E ⟨h,g,d,t,S⟩:=by
 have F:=PySem.F.excBase_ValueError;obtain⟨v,x,N,y,k,f,B,sub,D,l,G,H,I,J,L,O,a,T⟩:=qaj4 X m;repeat (first|with_reducible refine Ni a ?_|with_reducible refine wpAny_madeBy_exc a ?_|wp_step)
 refine codeAny_call_builtin_code (Code.quiet_builtin _ F.quiet) (wpAny_check_new_subT F T a ?_);refine codeAny_exc_new_subT F T a ?_ hrest;show Nr _ _ _ _ _ _;have c:∀b o,h.get? b=some o->((h.push {cls:=.type "tuple",data:=.seq rest.toArray}).push {cls:=.ref C,data:=.fields #[.ref h.objs.size,.none,.none,.none,.bool false,.none]}).get? b=some o:=λb o e=>zA2 _ (zA2 _ e);have n:=c _ _ a;have p:((h.push {cls:=.type "tuple",data:=.seq rest.toArray}).push {cls:=.ref C,data:=.fields #[.ref h.objs.size,.none,.none,.none,.bool false,.none]}).get? (h.objs.size+1)=some {cls:=.ref C,data:=.fields #[.ref h.objs.size,.none,.none,.none,.bool false,.none]}:=by heap_get
 have q:(Pz C::k).contains (.ref C)=true:=by simp
 unfold isInstance;repeat (first|with_reducible refine Ni p ?_|(with_reducible refine wpAny_isSubtype_exc n ?_;rw[q])|wp_step)
 show Nr _ _ (typeLookup (.ref C) _) _ _ _;have s:=(W.looks_findIn (M:=Nt prog w) X hi).keeps c;have u:=(W.bind_fn (M:=Nt prog w) X (.ref (h.objs.size+1)) i).keeps c;refine s.at (Nb (J' (u.at (J' (Nl j (λr s' z=>?_) λ_ _ z=>z)))));obtain⟨rfl,z⟩:=z;exact M7 (M7 z)
theorem qaG6{rest:List V'}{Q E:V'->Sh->Prop}(X:K.In h)(m:Jj K C=true)(hi:W.findIn K (.ref C) "__init__"=some (some (.ref R)))(c:W.typeIn K (.ref R)=some (.type "function"))(hrest:rest.length<=M9)(e:Nr (Nt prog w) (A.under (.builtin "type.__call__" ⟨.ref C::rest,[]⟩)) (call (.ref R) (.ref (h.objs.size+1)::rest)) (λr s'=>r=.none/\Q (.ref (h.objs.size+1)) s') E
 ⟨(h.push {cls:=.type "tuple",data:=.seq rest.toArray}).push {cls:=.ref C,data:=.fields #[.ref h.objs.size,.none,.none,.none,.bool false,.none]},g,d,t,S⟩):Nr (Nt prog w) A (call (.ref C) rest) Q E ⟨h,g,d,t,S⟩:=by
 obtain⟨i,j,N,k,l,b,n,sub,o,f,p,q,s,u,v,x,a,T⟩:=qaj4 X m;have f1:=tc_lookup;have f2:=tc_bind (.ref C);have y:(⟨h,g,d,t,S⟩:Sh).TypeIs (.ref C) "type" := ⟨_,a,rfl⟩;refine wpAny_call (codeAny_of_tree ?_);repeat (any_goals (first|assumption|with_reducible refine Ni a ?_|wp_step))
 exact⟨rfl,(codeAny_call_builtin_at (Code.quiet_builtin _ (by decide +kernel)) entry_typeCall (wpAny_check_type_call_sub a (qar4 X m hi c hrest e)))⟩
end
section
variable{M:Model}{A:Nv}{E:V'->Sh->Prop}{s:Sh}{env:Env}
theorem qae0{K:Qe}{x:Sem V'}{Q:Flow->Sh->Prop}(l:A.handled=none)(h:Nr M A x (λv s₁=>∃e oe vs C,v=.ref e/\K.In s₁.heap/\Exc K C/\s₁.heap.get? e=some oe/\oe.cls=.ref C/\oe.data=.fields vs/\vs[1]?=some .none/\E (.ref e) s₁) E s):Nr M A (raiseStmt env (some x) none) Q E s:=by
 unfold raiseStmt;refine J' (Nl h (λv s₁ q=>?_) λ_ _ x=>x);obtain⟨e,oe,vs,C,rfl,X,c,i,a,b,m,n⟩:=q;obtain⟨y,o,p,r⟩:=oe;subst a b;obtain⟨z,B,N,D,t,j,F,sub,G,u,H,I,J,L,O,P,newId,k,w,_⟩:=W.kts_cls X c.kts;obtain⟨R,g,d,S,T⟩:=s₁;have f:(Pz C::t).contains (.type "BaseException")=true:=by rw[Pb,w,Bool.or_true]
 repeat (first|with_reducible refine Ni i ?_|with_reducible refine Ni k ?_|(with_reducible refine wpAny_isSubtype_exc k ?_;rw[f])|with_reducible refine wpAny_field i rfl m ?_|wp_step)
 exact wpAny_raiseNew_none l n
theorem qar6{K:Qe}{e C D:γ}{oe:Obj}{b:Bool}{Q:Bool->Sh->Prop}(X:K.In s.heap)(d:Exc K D)(k:s.heap.get? e=some oe)(a:oe.cls=.ref C)(hm:W.mroIn K C (.ref D)=some b)(h:Q b s):Nr M A (excMatches (.ref e) (.ref D)) Q E s:=by
 obtain⟨o,p,N,q,l,i,r,sub,t,m,u,v,w,x,y,z,newId,j,n,_⟩:=W.kts_cls X d.kts;obtain⟨B,g,F,G,H⟩:=s;have c:(Pz D::l).contains (.type "BaseException")=true:=by rw[Pb,n,Bool.or_true]
 have f:=tc_notTuple;unfold excMatches;repeat (first|(with_reducible refine Ni k ?_;rw[a])|with_reducible refine Ni j ?_|(with_reducible refine wpAny_isSubtype_exc j ?_;rw[c])|with_reducible refine(W.looks_mroIn X hm).at ?_|wp_step)
 cases b<;>(wp_walk;exact h)
end
def Ly(e C:γ)(od:Option γ)(fr:Bool)(h:Heap):Prop:=∃oe vs,h.get? e=some oe/\oe.cls=.ref C/\oe.dict=od/\oe.data=.fields vs/\1<vs.size/\(fr=true->vs[1]?=some .none)
noncomputable abbrev Be(e C:γ)(od:Option γ)(fr:Bool):HO:=.ext (Ly e C od fr)
def xdIs(d:γ)(fs:List (Str×V))(h:Heap):Prop:=∃mA,h.Ns1 d mA/\(∀f,RelO (fs.lookup f) (mA f))/\PySem.Within mA (fs.map (·.1))/\fs.length<=1000
abbrev XD(d:γ)(fs:List (Str×V)):HO:=.ext (xdIs d fs)
section
variable{P:Nu}{w:Nw}{H:Hp}{h:Heap}
theorem qar5{e C:γ}{od:Option γ}(q:Ly e C od fr h):ObjOk P w H h e (Be e C od fr):=⟨q,let ⟨c,_,a,_⟩:=q;⟨c,a⟩,λf g ⟨c,d,a,b⟩ k=>⟨c,d,k _ a,b⟩⟩
theorem xd_ok{d:γ}{fs:List (Str×V)}(q:xdIs d fs h):ObjOk P w H h d (XD d fs):=⟨q,let ⟨_,⟨o,_,_,a,_⟩,_⟩:=q;⟨o,a⟩,λg i ⟨c,⟨o,e,f,a,r⟩,b⟩ k=>⟨c,⟨o,e,f,k _ a,r⟩,b⟩⟩
theorem qR8{e C:γ}{od:Option γ}(a:HOk P w H h)(q:H e=some (Be e C od fr)):Ly e C od fr h:=(a e _ q).1
theorem Lz{d:γ}{fs:List (Str×V)}(a:HOk P w H h)(q:H d=some (XD d fs)):xdIs d fs h:=(a d _ q).1
end
section
variable{X:Cx}{Fx:List (γ×Obj)}{Z:St}{H:Hp}{s:Sh}{a C dx:γ}{fs:List (Str×V)}{f:Str}{v:V}{A:Nv}{E:V'->Sh->Prop}
theorem qaG8{y:V}{u:V'}(I:Rk X Fx Z H s)(e:H a=some (Be a C none true))(c:Exc X.K C)(n:qd1 X.K C f)(G:Rh y u)(h:∀dx s',H dx=none->dx≠a->Rk X Fx Z (upd (upd H dx (XD dx [(f,y)])) a (Be a C (some dx) true)) s'->Q () s'):Nr (Nt X.prog X.w) A (setAttr (.ref a) f u) Q E s:=by obtain⟨T,J,q,t,L,v,M,N⟩:=qR8 I.hok e;refine qaG5 I.kIn c q t v L n λU m x q2 l=>?_;have j:H s.heap.objs.size=none:=I.hok.fresh (zA3 _);refine h s.heap.objs.size _ j (Ne.symm (zAj (zA9 q))) (I.un (t':=m) ⟨λb o z i _ _=>l b o (λd=>?_) z,λb o z i _ _=>⟨o.slots,l b o (λd=>?_) z⟩,λb o z i _=>?_,λb o z _=>?_,λb B z=>?_,λb W B z=>?_,λb Y z=>?_⟩ λb O z=>?_);{rw[d,e] at i;cases i};{rw[d,e] at i;cases i};{rw[qb2 (λd=>by rw[d,e] at i;cases i),qb2 ((λb o z=>zAj (zA9 z)) b o z)];exact i};{by_cases d:b=a;{rw[d];exact⟨_,x⟩};exact⟨o,l b o d z⟩};{rw[qb2 (λd=>by rw[d,e] at z;cases z),qb2 (qc3 z j)];exact z};{rw[qb2 (λd=>by rw[d,e] at z;cases z),qb2 (qc3 z j)];exact z};{exact⟨#[],by rw[qb2 (λd=>by rw[d,e] at z;cases z),qb2 (qc3 z j)];simpa using z⟩};by_cases D:b=a;{subst D;rw[qb1] at z;cases z;exact qar5 ⟨_,J,x,t,rfl,v,M,N⟩};rw[qb2 D] at z;by_cases F:b=s.heap.objs.size;{subst F;rw[qb1] at z;cases z;refine xd_ok ⟨_,q2,λg=>?_,λg P=>?_,by simp⟩;{show RelO (([(f,y)]:List (Str×V)).lookup g) (if g=f then some u else none);by_cases k:g=f;{subst k;rw[if_pos rfl];simp only[Oe,zB1];exact G};have:(g==f)=false:=zBr.mpr k;simp[Oe,this,k,RelO]};by_cases k:g=f;{simp[k]};exact absurd (by show (if g=f then some u else none)=none;rw[if_neg k]) P};rw[qb2 F] at z;refine(I.hok b O z).stay (λp R S r=>l p R ?_ r) (λp r=>?_) λp B r=>?_;{grind};{rw[qb2 (λd=>by rw[d,e] at r;cases r),qb2 (qc3 r j)];exact r};rw[qb2 (λd=>by rw[d,e] at r;cases r),qb2 (qc3 r j)];exact r
theorem qaG7{y:V}{u:V'}(I:Rk X Fx Z H s)(e:H a=some (Be a C (some dx) true))(b:H dx=some (XD dx fs))(D:fs.length<1000)(c:Exc X.K C)(n:qd1 X.K C f)(k:Rh y u)(h:∀s',Rk X Fx Z (upd H dx (XD dx (Bm f y fs))) s'->Q () s'):Nr (Nt X.prog X.w) A (setAttr (.ref a) f u) Q E s:=by obtain⟨F,G,l,m,p,t,J,L⟩:=qR8 I.hok e;obtain⟨d,v,r,i,_⟩:=Lz I.hok b;refine qaG4 I.kIn c l m t p v i (by rw[zAk];lia) n λM x j q2=>h _ ?_;refine I.write (by rw[b];exact True.intro) (.inl rfl) q2 (let ⟨o,_,_,z,_⟩:=j;⟨o,z⟩) (xd_ok ⟨_,j,λg=>?_,λg B=>?_,?_⟩);{show RelO ((Bm f y fs).lookup g) (if g=f then some u else d g);rw[qs8];by_cases q:g=f;{rw[if_pos q,if_pos q];exact k};rw[if_neg q,if_neg q];exact r g};{by_cases q:g=f;{rw[q];exact(qq7 f y fs).1};refine(qq7 f y fs).2 g (i g λz=>B ?_);show (if g=f then some u else d g)=none;rw[if_neg q];exact z};have:=qs9 f y fs;lia
theorem qaT6{b:Bool}{Q:V'->Sh->Prop}(I:Rk X Fx Z H s)(e:H a=some (Be a C (some dx) fr))(i:H dx=some (XD dx fs))(c:Exc X.K C)(n:qd1 X.K C f)(l:fs.lookup f=some v)(h:∀u s',Rk X Fx Z H s'->Rh v u->Q u s'):Nr (Nt X.prog X.w) A (getAttr (.ref a) f b) Q E s:=by obtain⟨j,F,k,m,o,p,_⟩:=qR8 I.hok e;obtain⟨G,q,r,J,_⟩:=Lz I.hok i;obtain⟨u,t,g⟩:=RelO.some_of (by rw[<-l];exact r f);obtain⟨L,x,d⟩:=qv5 q;obtain⟨M,y,z,B⟩:=j;subst m o p;exact qaT3 I.kIn c (⟨k,rfl,rfl,x⟩) (W.findObj_own c.hd n rfl (by rw[d,t])) (qV8 g) λD=>h u _ (I.tok D) g
end
structure Fly(n:Nat)(H:Hp)(h:Heap)(a:γ):Prop where
 ge:n<=a
 tr:∃C od,H a=some (Be a C od false)
 ob:∃oe vs,h.get? a=some oe/\oe.data=.fields vs/\1<vs.size/\(vs[1]?=some .none∨∃T oT ts,vs[1]?=some (.ref T)/\n<=T/\H T=none/\T≠a/\h.get? T=some oT/\oT.data=.fields ts/\ts[3]?=some .none)
theorem Fly.mono{m n:Nat}{H:Hp}{h:Heap}{a:γ}(F:Fly n H h a)(l:m<=n):Fly m H h a:=by obtain⟨b,c,d,e,f,g⟩:=F.ob;refine⟨zA7 l F.ge,F.tr,b,c,d,e,f,?_⟩;rcases g with z|⟨T,i,j,k,o,z⟩;{exact .inl z};exact .inr ⟨T,i,j,k,zA7 l o,z⟩
def CX1(P:Nu)(w:Nw):CXT:=λouter H s E e s'=>∃a H',e=.ref a/\s'.os=s.os/\AllBare s'.gens/\Un (frs outer) [] H H' s.heap s'.heap/\HOk P w H' s'.heap/\Fly s.heap.objs.size H' s'.heap a/\E e none H'
structure Old(X:Cx)(Fx:List (γ×Obj))(n:Nat):Prop where
 st:X.s₀.heap.objs.size<=n
 loc:X.env.locals<n
 cell:∀x c,X.env.cells.lookup x=some c->c<n
 pin:∀p∈X.pn++Fx,p.1<n
theorem Rk.old{X:Cx}{Fx:List (γ×Obj)}{b:St}{H:Hp}{s:Sh}(I:Rk X Fx b H s):Old X Fx s.heap.objs.size:=⟨I.sz,I.lt,λx c e=>let ⟨_,_,z,_⟩:=I.cell x c e;zA9 z,λp a=>zA9 (I.pin p a).1⟩
noncomputable def Jk:Option V'->List γ|some (.ref b)=>[b]|_=>[]
section
variable{X:Cx}{Fx:List (γ×Obj)}{σ:St}{H:Hp}{s:Sh}{a T:γ}{n:Nat}{h':Heap}{oe:Obj}{vs:Array V'}
theorem Rk.left(I:Rk X Fx σ H s)(F:Fly n H s.heap a)(O:Old X Fx n)(m:s.heap.get? a=some oe)(N:oe.data=.fields vs)(L:Left s.heap h' (frs X.stack) a T oe vs[1]?):Rk X Fx σ H {s with heap:=h'}/\Fly n H h' a:=by
 obtain⟨C,P,i⟩:=F.tr;obtain⟨t,y,D,q2,q3,E⟩:=F.ob;rw[m] at D;cases D;rw[N] at q2;cases q2;obtain⟨G,Q,R,J,e2,S,V,W,Y,Z⟩:=L.exc;have j:∀b,vs[1]?=some (.ref b)->n<=b/\H b=none/\b≠a:=λb z=>by rcases E with q|⟨T',_,_,q,r1,r2,r3,_⟩;{rw[q] at z;cases z};rw[q] at z;cases z;exact⟨r1,r2,r3⟩
 have A:HOk X.prog X.w H h':=λb u h=>by by_cases z:b=a;{subst z;rw[i] at h;cases h;obtain⟨t,y,p1,p2,p3,p4,p5,p6⟩:=qR8 I.hok i;rw[m] at p1;cases p1;exact qar5 ⟨_,G,J,p2,p3,rfl,e2,λz=>nomatch z⟩};have K:∀c,H c≠none->c∉frs X.stack:=λc d hm=>d (I.stkFree c hm);refine(I.hok b u h).stay (λc v d r=>L.keep c v r ?_ (λf=>?_) ?_) (λ_ z=>z) λ_ _ z=>z;{rcases d with rfl|d;{exact z};intro f;rw[f,i] at d;cases d};{have:=(j c f).2.1;grind};rcases d with rfl|d;{exact K c (by rw[h];exact λz=>nomatch z)};exact K c (by rw[d];exact λz=>nomatch z)
 refine⟨?_,F.ge,⟨C,P,i⟩,_,G,J,rfl,e2,.inr ⟨T,Q,R,S,zA7 (zA7 F.ge (zBc (zA9 m))) L.new,I.hok.fresh L.new,V,W,Y,Z⟩⟩;have k:∀b,b∈Jk vs[1]? ↔ vs[1]?=some (.ref b):=λb=>by rcases E with q|⟨T',_,_,q,_⟩;{rw[q];simp[Jk]};rw[q];simp[Jk,eq_comm]
 have U:Un (frs X.stack) (Jk vs[1]?) H H s.heap h':=by refine⟨λb o z l B M=>L.keep b o z (λf=>?_) (λf=>M ((k b).mpr f)) B,λb o z l B M=>L.slot b o z B,λ_ _ _ l _=>l,λb o z _=>L.there b o z,λ_ _ z=>z,λ_ _ _ z=>z,λb ps z=>⟨#[],by rw[z];simp⟩⟩;rw[f,i] at l;cases l
 exact I.call (g':=s.gens) (t':=s.toks) (d':=s.drawn) (ch:=Jk vs[1]?) U A I.bare λb h=>by have g:=(j b ((k b).mp h)).1;refine⟨.inr (zA7 O.st g),Nat.ne_of_gt (zAa O.loc g),λx c e=>zAj (zAa (O.cell x c e) g),λp hp=>zAj (zAa (O.pin p hp) g)⟩
end
def Lands(X:Cx)(E:St->XK):Prop:=∀(Fx:List (γ×Obj))(b:St)(H:Hp)(s:Sh)(a:γ)(n:Nat),Rk X Fx b H s->Fly n H s.heap a->Old X Fx n->E b (.ref a) none H->X.xe (.ref a) s
theorem Lands.passes{X:Cx}{E:St->XK}(h:Lands X E):qM7 (CX1 X.prog X.w) X E:=λFx g H s e b I q=>by
 obtain⟨a,H',rfl,c,d,u,f,F,q⟩:=q;exact h Fx g H' b a _ (I.call' c u f d λ_ z=>nomatch z) F I.old q
theorem qa1{cm:Bool}{P:Nu}{w:Nw}{K:Qe}{mg:Str->Option V'}{base:Heap}{N:List Str}{qual:Str}{scope:Scope}{f:γ}{cd:V'}{A:Nv}{outer:List Env}{s₀:Sh}{H₀:Hp}{E:XK}:Lands (Ha cm (CX1 P w) P w K mg base N qual scope f cd A outer s₀ H₀ E) (λ_=>E):=λFx t H s a n I F O q=>by
 obtain⟨o,p,b,c,d,e⟩:=id F.ob;show Nr _ _ (leaving _ _) _ _ s;unfold leaving;refine J' (qK4 I.ok.frames I.stack rfl b c d ?_ λr T L=>?_)
 .rcases e with z|⟨T,g,h,i,_,_,j,k,l,m⟩
  .exact .inl z
  exact .inr ⟨T,g,h,i,j,k,l,m⟩
 obtain⟨J,F'⟩:=I.left F O b c L;exact⟨a,H,rfl,J.os,J.bare,J.base,J.hok,F'.mono O.st,q⟩
section
variable{X:Cx}{o e B:Nx}{pos pos':Pos}{E tv:TE}{f:Str}
def sEF(K:Qe)(E tv:TE)(f:Str):TS:=λD A H=>tv A H λy H1=>E A H1 λx H2=>∃a C,x=.ref a/\Exc K C/\qd1 K C f/\((H2 a=some (Be a C none true)/\∀dx,H2 dx=none->dx≠a->D.nx A (upd (upd H2 dx (XD dx [(f,y)])) a (Be a C (some dx) true)))
  ∨ ∃dx fs,H2 a=some (Be a C (some dx) true)/\H2 dx=some (XD dx fs)/\fs.length<1000/\D.nx A (upd H2 dx (XD dx (Bm f y fs))))
theorem qU1(g:PE X o E)(i:PE X B tv)(j:swapsWith B (some (.Attribute o f pos')) pos.line X.env=pure false:=by rfl):PS X (.Assign [.Attribute o f pos'] B pos) (sEF X.K E tv f):=by intro Fx s A H D I h;refine plainObj_wpAny_Assign_Attribute (thn (i Fx s A H _ I h) λu k b=>?_) j;obtain⟨y,H1,I1,d,q⟩:=b;refine thn (g Fx k A H1 _ I1 q) λl w b=>?_;obtain⟨x,H2,I2,m,a,C,p,c,n,q2⟩:=b;subst p;obtain rfl:l=Pz a:=m;rcases q2 with⟨ea,q2⟩|⟨e,fs,ea,ed,hl,q2⟩;{exact qaG8 I2 ea c n d λe r t v I3=>⟨A,_,I3,q2 e t v⟩};exact qaG7 I2 ea ed hl c n d λr I3=>⟨A,_,I3,q2⟩
def tEF(K:Qe)(E:TE)(f:Str):TE:=λA H Q=>E A H λx H1=>∃a C dx fr fs v,x=.ref a/\H1 a=some (Be a C (some dx) fr)/\H1 dx=some (XD dx fs)/\Exc K C/\qd1 K C f/\fs.lookup f=some v/\Q v H1
theorem qaN9(d:PE X e E)(g:Nf e f X.env (eval e X.env)=eval e X.env:=by rfl):PE X (.Attribute e f pos) (tEF X.K E f):=by intro Fx s A H Q I h;refine qax5 g (thn (d Fx s A H _ I h) λu p b=>?_);obtain⟨x,H1,I1,i,a,C,r,t,w,v,j,k,m,c,n,l,q⟩:=b;subst j;obtain rfl:u=Pz a:=i;exact qaT6 I1 k m c n l λy z I2 o=>⟨v,H1,I2,o,q⟩
theorem qaN6{x:Str}(C:γ){pos:Pos}(hm:X.mg x=some (.ref C))(a:Gl X x:=by rfl)(b:N' x:=by decide):PE X (.Name x pos) (tC (.ref C)):=qae5 a hm rfl b
end
structure MkE(K:Qe)(C f:γ):Prop where
 exc:Exc K C
 mke:Jj K C=true
 init:W.findIn K (.ref C) "__init__"=some (some (.ref f))
 fn:W.isFn K (.ref f)=true
 kp:W.keepIn K (.ref C)=true
def qaW9(C:γ)(sp:Sp)(E:St->XK)(t:TA):TS:=λD c H=>t c H λvs H1=>vs.length<=1000/\∀a,H1 a=none->sp (.ref a::vs) (upd H1 a (Be a C none true)) (λv H2=>v=.non/\∃b,H2 a=some (Be a C b true)/\E c (.ref a) none (upd H2 a (Be a C b false))) E0
section
variable{X:Cx}{k:Nat}{f C:γ}{fd:δ}{ps:List Str}{sp:Sp}{E:St->XK}{x:Str}{np cpos pos:Pos}{e:Nx}{es:List Nx}{t:TA}
theorem qae1(M:MkE X.K C f)(F:Gv X.prog X.w X.K X.mg X.base CX0 k f fd ps sp)(J:Room (k+1) X.A)(hm:X.mg x=some (.ref C))(T:Binds X.K fd ps [])(U:Lands X E)(Y:PA X (e::es) t)(Z:Gl X x:=by rfl)(l:N' x:=by decide)(he:M8 (e::es) X.env=(false,eval e X.env)::M8 es X.env:=by rfl)(m:(backTo cpos (M8 es X.env)).any (·.1)=false:=by rfl):PS X (.Raise (some (.Call (.Name x np) (e::es) [] cpos)) none pos) (qaW9 C sp E t):=by
 intro Fx s σ H D I h;rw[arm_exec_Raise];refine J' (wpAny_standAt (qae0 (K:=X.K) (J.hd rfl) ?_));refine J' (wpAny_Call_Name_kw (qK5 I Z hm ?_ l));refine W.callWith_K (h₀:=X.base) I.ok.mod.kin M.kp (thn (Y cpos Fx s σ H _ I h) λd s1 n=>?_) he m;obtain⟨vs,H1,I1,r,hz,q⟩:=n;refine⟨I1.kIn,?_⟩;obtain⟨c,g1,d1,t1,o1⟩:=s1;show Nr _ _ (call (.ref C) d) _ _ _;refine qaG6 I1.kIn M.mke M.init (zBl.mp M.fn) (by rw[<-r.length,Ng];lia) ?_;have nz:H1 (c.objs.size+1)=none:=I1.hok.fresh (Nat.le_succ _);have L:=q (c.objs.size+1) nz;have I2:=I1.kept (h':=c.push {cls:=.type "tuple",data:=.seq d.toArray}) (t':=t1) λb u z=>zA2 _ z;have g2:((c.push {cls:=.type "tuple",data:=.seq d.toArray}).push {cls:=.ref C,data:=.fields #[.ref c.objs.size,.none,.none,.none,.bool false,.none]}).get? (c.objs.size+1)=some {cls:=.ref C,data:=.fields #[.ref c.objs.size,.none,.none,.none,.bool false,.none]}:=by heap_get
 have I3:=I2.laid (a:=c.objs.size+1) (o:=Be (c.objs.size+1) C none true) (t':=t1)
  (λb u z=>zA2 _ z) (zC7 (Heap.size_push _ _)) (qar5 ⟨_,_,g2,rfl,rfl,rfl,by simp,λ_=>by simp⟩)
 have N:Ri (V.ref (c.objs.size+1)::vs) (Pz (c.objs.size+1)::d):=.cons rfl r;have p:((Pz (c.objs.size+1)::d)++[]).length=ps.length:=by rw[zAi,<-N.length];exact F.len _ _ _ _ L
 have g:=T _ (Pz (c.objs.size+1)::d) I3.kIn p;rw[zAi] at g;refine wpAny_call (codeAny_mono (F.run _ X.stack _ _ ⟨Pz (c.objs.size+1)::d,[]⟩ (Pz (c.objs.size+1)::d) _ _ E0 (J.make C d []) (I3.env0.make C d []) g N L) λy i z=>?_);cases y with|error e=>exact z.elim|ok fl=>cases fl with|ret u=>obtain⟨v,H',I4,rv,ev,O,P,q4⟩:=I3.after z;subst ev;refine⟨rv,?_⟩;refine J' (wpAny_standAt (M7 ?_));obtain⟨j,B,p1,Q,p3,G,R,S⟩:=qR8 I4.hok P;refine⟨c.objs.size+1,j,B,C,rfl,I4.kIn,M.exc,p1,Q,G,S rfl,?_⟩;have I5:Rk X Fx σ (upd H' (c.objs.size+1) (Be (c.objs.size+1) C O false)) i:=I4.write (x:=c.objs.size+1) (e:=c.objs.size+1) (h':=i.heap) (t':=i.toks) (by rw[P];exact True.intro) (.inl rfl) (λ_ _ _ z=>z) ⟨j,p1⟩ (qar5 ⟨j,B,p1,Q,p3,G,R,λz=>nomatch z⟩);exact U Fx σ _ i (c.objs.size+1) c.objs.size I5 ⟨Nat.le_succ _,⟨C,O,qb1⟩,j,B,p1,G,R,.inl (S rfl)⟩ I1.old q4|next=>exact Q6 z|brk=>exact Q6 z|cont=>exact Q6 z
end
noncomputable def Xt(X:Cx)(xe:V'->Sh->Prop)(pn:List (γ×Obj)):Cx:={X with xe:=xe,pn:=pn}
noncomputable def Xh(X:Cx)(a:γ):Cx:={X with A:=X.A.mark (some (.ref a)),calm:=false,xe:=λ_ _=>False}
section
variable{X:Cx}{Fx:List (γ×Obj)}{σ:St}{H:Hp}{s:Sh}{a:γ}{n:Nat}
theorem Cx.Ok.t{b:List (γ×Obj)}(a:X.Ok):(Xt X xe b).Ok:=⟨a.mod,a.kind,a.glob,a.blt,a.above,a.inj,a.has,a.cab,a.hd,a.frames,a.stk,a.exf,a.bs,a.bsz,a.noex,a.exfs,a.funs,a.frf⟩
theorem Cx.Ok.h(b:X.Ok):(Xh X a).Ok:=⟨b.mod,b.kind,b.glob,b.blt,b.above,b.inj,b.has,b.cab,λz=>(by cases z),b.frames,b.stk,b.exf,b.bs,b.bsz,b.noex,b.exfs,b.funs,b.frf⟩
theorem Rk.t(I:Rk X Fx σ H s):Rk (Xt X xe (X.pn++Fx)) [] σ H s:=⟨I.ok.t,I.os,I.bare,I.base,I.loc,I.cell,I.free,I.freeC,λp a=>I.pin p (by rw[zAi] at a;exact a),I.hok,I.len⟩
theorem Rk.unt{pins':List (γ×Obj)}(a:X.Ok)(I:Rk (Xt X xe (X.pn++Fx)) pins' σ H s):Rk X Fx σ H s:=⟨a,I.os,I.bare,I.base,I.loc,I.cell,I.free,I.freeC,λp b=>I.pin p (zC9 _ b),I.hok,I.len⟩
theorem Rk.h(I:Rk X Fx σ H s):Rk (Xh X a) Fx σ H s:=⟨I.ok.h,I.os,I.bare,I.base,I.loc,I.cell,I.free,I.freeC,I.pin,I.hok,I.len⟩
theorem Rk.unh(b:X.Ok)(I:Rk (Xh X a) Fx σ H s):Rk X Fx σ H s:=⟨b,I.os,I.bare,I.base,I.loc,I.cell,I.free,I.freeC,I.pin,I.hok,I.len⟩
theorem qaq8{M:Model}{A:Nv}{E:V'->Sh->Prop}(I:Rk X Fx σ H s)(F:Fly n H s.heap a)(O:Old X Fx n)(h:∀s',Rk X Fx σ H s'->Fly n H s'.heap a->Q () s'):Nr M A (setFlight (.ref a) none) Q E s:=by obtain⟨v,w,g,i,y,B⟩:=F.ob;unfold setFlight;rcases B with z|⟨T,G,J,l,d,m,r,t,j,C⟩;{refine J' (wpAny_field g i z ?_);rw[if_neg ∅];exact M7 (h s I F)};refine J' (wpAny_field g i l ?_);rw[if_pos (show (Pz T != P0)=true from by simp)];have u:=(Array.getElem?_eq_some_iff.mp C).1;refine wpAny_setField t j u ?_;have other:∀b,b≠T->(s.heap.update T (Obj.mapFields (·.setIfInBounds 3 ((none:Option γ).elim P0 λf=>rawInt f)))).get? b=s.heap.get? b:=λb k=>zBe _ _ (Ne.symm k);exact h _ (I.turned (λb o k q=>(other b k).trans q) m (Nat.ne_of_gt (zAa O.loc d)) (.inr (zA7 O.st d)) (λx c e=>zAj (zAa (O.cell x c e) d)) λp D=>zAj (zAa (O.pin p D) d)) (⟨F.ge,F.tr,v,w,(other a (Ne.symm r)).trans g,i,y,.inr ⟨T,_,_,l,d,m,r,(zBv (Obj.mapFields (·.setIfInBounds 3 ((none:Option γ).elim P0 λf=>rawInt f))) t (Obj.isFreed_of_fields (Obj.data_mapFields j _))),Obj.data_mapFields j _,by simp[u]⟩⟩)
theorem qV9{M:Model}{A:Nv}{E:V'->Sh->Prop}{j:Nat}{x:Str}{pos:Pos}(I:Rk X Fx σ H s)(J:X.N.Nodup)(K:X.N[j]?=some x)(L:X.env.scope.names.lookup x=some .local)(h:∀s',Rk X Fx (σ.set j none) H s'->Q () s'):Nr M A (do bindName X.env x .none;unbindBehindTheSuite X.env x pos) Q E s:=by
 obtain⟨m,C,O⟩:=id I.loc;have f:(X.env.scope.kind==.class||(X.env.scope.kind==.module&&X.env.locals != X.env.globals))=false:=by rw[I.ok.kind];rfl
 have g:=I.cne;refine wpAny_nameGoes_keeps L C f λh' v u a=>?_;obtain⟨oL,_,_,P,_⟩:=id C;have w:∀b o,X.s₀.heap.get? b=some o->b≠X.env.locals:=λb o e=>zAj (zAa (zA9 e) I.ok.above);refine h _ ⟨I.ok,I.os,I.bare,⟨λb o e n B l=>?_,λb o e n B l=>?_,I.base.free,λb o e l=>?_,I.base.tups,I.base.frzs,I.base.tbls⟩,⟨_,u,λi y r D e2 R=>?_⟩,λy c e=>?_,I.free,I.freeC,λp S=>?_,λb T e=>?_,by simpa using I.len⟩;{exact(a.2 b (w b o e)).trans (I.base.keep b o e n B l)};{obtain⟨U,q⟩:=I.base.slot b o e n B l;exact⟨U,(a.2 b (w b o e)).trans q⟩};{obtain⟨V,q⟩:=I.base.there b o e l;exact⟨V,(a.2 b (w b o e)).trans q⟩}
 .have F:i≠j:=λz=>by subst z;by_cases W:i<σ.length;{rw[zC2 W] at e2;cases e2};rw[zBu (by rw[zCo];lia)] at e2;cases e2
  rw[zBi (Ne.symm F)] at e2;obtain⟨Y,Z,q⟩:=O i y r D e2 R;refine⟨Y,Z,?_⟩;rcases q with⟨k,e⟩|⟨k,c,e,z⟩;{refine .inl ⟨k,?_⟩;have:y≠x:=λe=>F (qR0 J D (e ▸ K));simp[this,e]};exact .inr ⟨k,c,e,z.sameBut a (g y c e)⟩
 {obtain⟨r,z⟩:=I.cell y c e;exact⟨r,z.sameBut a (g y c e)⟩};{obtain⟨e,n,G,nf,d⟩:=I.pin p S;exact⟨(a.2 p.1 G).trans e,n,G,nf,d⟩};refine(I.hok b T e).stay (λc r t q=>(a.2 c ?_).trans q) (λ_ q=>q) λ_ _ q=>q;rintro rfl;rcases t with rfl|t;{rw[I.free] at e;cases e};rw[I.free] at t;cases t
end
def PH(X:Cx)(b:List ExceptHandler)(t:γ->TS):Prop:=∀(Fx:List (γ×Obj))(s:Sh)(c:St)(H:Hp)(D:By)(a:γ)(n:Nat),Rk X Fx c H s->Fly n H s.heap a->Old X Fx n->t a D c H->Nr (Nt X.prog X.w) X.A (handleBy (.ref a) X.env b) (SP X Fx D) X.xe s
noncomputable def qaI1(j:Nat)(D:By):By:={nx:=λa H=>D.nx (a.set j none) H,rt:=D.rt,bk:=λa H=>D.bk (a.set j none) H,ct:=λa H=>D.ct (a.set j none) H}
section
variable{X:Cx}
theorem qaX9:PH X [] (λ_ _ _ _=>False):=λ_ _ _ _ _ _ _ _ _ _ h=>h.elim
def sTry(tb:(St->XK)->TS)(th:γ->TS):TS:=λD Z H=>∃E:St->XK,tb E D Z H/\∀a Z' H',E Z' (.ref a) none H'->∃Z'':St,Z''.length=Z'.length/\(∀(i:Nat)(v:V),Z''[i]?=some (some v)->Z'[i]?=some (some v))/\th a D Z'' H'
theorem qaX5{body:List Ny}{h₀:ExceptHandler}{c:List ExceptHandler}{pos:Pos}{tb:(St->XK)->TS}{th:γ->TS}(r:∀E xe l,Lands (Xt X xe l) E->PSs (Xt X xe l) body (tb E))(x:PH X (h₀::c) th)(b:X.stack=X.env::X.outer:=by rfl)(d:X.env.frame=some X.env.locals:=by rfl):PS X (.Try body (h₀::c) [] [] pos) (sTry tb th):=by
 intro Fx s Z H D I ⟨E,y,q2⟩;refine wpAny_Try_except ?_;let xe:V'->Sh->Prop:=λe s₁=>Nr (Nt X.prog X.w) X.A (noteFrame e X.env) (λ_ s₂=>Nr (Nt X.prog X.w) X.A (setFlight e none) (λ_ s₃=>Nr (Nt X.prog X.w) X.A (handleBy e X.env (h₀::c)) (SP X Fx D) X.xe s₃) X.xe s₂) X.xe s₁
 have B:Lands (Xt X xe (X.pn++Fx)) E:=λpins' Z' H' C a n I' F O q=>by
  have J:=I'.unt I.ok;have O':Old X Fx n:=⟨O.st,O.loc,O.cell,λp G=>O.pin p (zC9 _ G)⟩;obtain⟨U,V,m,o,K,M⟩:=id F.ob;have g:X.A.frames=some (X.env::X.outer):=by rw[J.ok.frames,b]
  have h:C.heap.FunFrames X.base (X.env::X.outer):=by have:=J.stack;rwa[b] at this
  refine qK4 g h d m o K ?_ λW T L=>?_;{rcases M with z|⟨T,N,P,i,_,_,j,k,Q,R⟩;{exact .inl z};exact .inr ⟨T,N,P,i,j,k,Q,R⟩};obtain⟨J2,F2⟩:=J.left F O' m o (by rw[b];exact L);obtain⟨Z'',i,j,k⟩:=q2 a Z' H' q;exact x Fx _ _ H' D a n (J2.weak i j) F2 O' k
 refine Nl (r E xe (X.pn++Fx) B [] s Z H D I.t y) (λf Y z=>?_) λ_ _ z=>z;cases f with|next=>obtain⟨Z',H',J,z⟩:=z;exact wpAny_execs_nil ⟨Z',H',J.unt I.ok,z⟩|brk=>obtain⟨Z',H',J,z⟩:=z;exact⟨Z',H',J.unt I.ok,z⟩|cont=>obtain⟨Z',H',J,z⟩:=z;exact⟨Z',H',J.unt I.ok,z⟩|ret u=>obtain⟨v,Z',H',J,S,z⟩:=z;exact⟨v,Z',H',J.unt I.ok,S,z⟩
end
end L2
namespace L2
open PySem PySem.Spec PyProof.Rows PySem.SeqAt
open PySem.AutoSeq1 (wpAny_loadPart')
theorem Fun.okX{K:Qe}{st:Ny}(F:Fun K x qual st f fd)(S:qa9 N ps (qa4 st))(len:∀vs H Q E,sp vs H Q E->vs.length=ps.length)(hbody:∀(a:V')(A:Nv)(outer:List Env)(s:Sh)(H:Hp)(vs:List V)(Q:VK)(E:XK),Room k (A.deeper (envOfC qual (qa4 st) s.heap.objs.size f a))->sp vs H Q E->∃t,PSs (Ha true (CX1 P w) P w K mg base N qual (qa4 st) f a A outer s H E) (qd6 st) t/\t {nx:=λ_ H'=>Q .non H',rt:=Q} (start N vs) H):Gv P w K mg base (CX1 P w) (k+1) f fd ps sp:=by obtain⟨i,j,kV,d,l,m,a,n,e,rfl,g,b⟩:=F.ex;exact Lv g b S len λA outer s H vs Q E h c=>hbody a A outer s H vs Q E h c
theorem qag6(K:Qe)(C:γ):Qf K (.ref C) (.ref C)=some true:=by unfold Qf;rw[if_pos (zB1 _)]
end L2
namespace L2
open PySem PySem.Spec PyProof.Rows
section
variable{X:Cx}{A:List (γ×Obj)}{y:St}{H:Hp}{s:Sh}{h':Heap}
theorem Rk.turnedL{ch:List γ}(I:Rk X A y H s)(k:∀b o,b∉ch->s.heap.get? b=some o->h'.get? b=some o)(f:∀b∈ch,Jb X A H b):Rk X A y H {s with heap:=h',toks:=t'}:=by
 have d:∀b u,H b=some u->b∉ch:=λb u e z=>by rw[(f b z).1] at e;cases e
 refine I.step (λb g=>?_) (λb o _ _ a e _=>k b o a e) (λb o _ _ a e _=>⟨o.slots,k b o a e⟩) (λ_ _ _ _ n=>n)
  (λb o a e=>⟨o,k b o a e⟩) (λ_ _ e=>e) (λ_ _ _ e=>e) (λb w e=>⟨#[],by rw[e];simp⟩) (λm h=>?_) (λb u e=>?_) I.bare
 {obtain⟨x,f1,f2,f3,i,j⟩:=f b g;exact⟨f3,f1,i,j⟩};{obtain⟨o,l,p,t,r⟩:=h;exact⟨o,l,p,k _ o (λz=>(f _ z).2.1 rfl) t,r⟩};refine(I.hok b u e).stay (λc v a q=>k c v ?_ q) (λ_ q=>q) λ_ _ q=>q;rcases a with z|z;{rw[z];exact d b u e};exact d c _ z
end
def Ite(K:Qe)(a:γ):It:=⟨λi H=>∃xs x,SqL K H a xs/\xs[i]?=some x,λi H x H'=>∃t y,x=.ref t/\H t=none/\H'=upd H t (.q [.int (i:Int),y])/\∀xs,SqL K H a xs->xs[i]?=some y,λi H=>∃xs,SqL K H a xs/\xs.length<=i⟩
theorem qam0{P:Nu}{w:Nw}{K:Qe}{elts:List Nx}{x1:Nat}{pos:Pos}(a it e:γ)(m:e≠it):K6 P w K (.Tuple elts x1 pos) (Ite K a) [e,it] e (λi h=>(∃old,IsEnum h e it (i:Nat) old)/\h.IsListIter it a i) where
 mem:=by simp
 obj:=λi h d b c=>by
   obtain⟨⟨old,f⟩,o,ho,B,hd⟩:=d;rcases zAl.mp c with rfl|c
   . exact⟨_,f,λv z=>by
       cases (z)⟩
   rw[zAg.mp c];exact⟨o,ho,λv z=>by rw[hd] at z;cases z⟩
 keep:=λi h Y d k=>by
   obtain⟨⟨old,f⟩,d⟩:=d;exact⟨⟨old,k e (by simp) _ f⟩,d.at λo q=>k it (by simp) o q⟩
 item:=by
   intro X C D F B i Fx s W H E I n d G;subst C D F;obtain⟨xs,x,A,J⟩:=G;obtain⟨⟨old,f⟩,g⟩:=d;obtain⟨L,M,p,hz⟩:=I.list A;obtain⟨u,hu,ru⟩:=M.get J;have N:H s.heap.objs.size=none:=I.hok.fresh (zA3 _);obtain⟨oi,O,_⟩:=id g;have r:e<s.heap.objs.size:=zA9 f;have lt2:it<s.heap.objs.size:=zA9 O;refine wpAny_pyNext_enum_item f g p.isList (x:=u) (by simpa using hu) m λZ Q t R a0 S=>?_
   refine⟨_,rfl,wpAny_letOwnedTupleGo_enum (s:={s with heap:=Z,toks:=s.toks+1}) Q λT U j=>?_⟩
   replace j:Heap.SameBut e Z T:=j
   have I0:Rk X Fx W (upd H s.heap.objs.size (.q [.int (i:Int),x])) {s with heap:=s.heap.push {cls:=.type "tuple",data:=.seq #[.int i s.toks,u]},toks:=s.toks+1}:=I.laid (λb o q=>zA2 _ q) (zA3 _) ⟨by show 2<=M9;decide,[.int i s.toks,u],.cons ⟨_,rfl⟩ (.cons ru .nil),⟨_,zAv _ rfl,rfl,_,rfl⟩⟩
   have I2:Rk X Fx W (upd H s.heap.objs.size (.q [.int (i:Int),x])) {s with heap:=T,toks:=s.toks+1}:=by
     refine Rk.turnedL (s:={s with heap:=s.heap.push {cls:=.type "tuple",data:=.seq #[.int i s.toks,u]},toks:=s.toks+1}) (h':=T) (ch:=[e,it]) (t':=s.toks+1) I0 (λb o c q=>?_) (λb c=>?_)
     . have y:b≠e:=λz=>c (by simp[z])
       have V:b≠it:=λz=>c (by simp[z])
       refine j.extBut b o y ?_;rcases Heap.get?_push_cases (show (s.heap.push {cls:=.type "tuple",data:=.seq #[.int i s.toks,u]}).get? b=some o from q) with⟨rfl,rfl⟩|q
       . exact R
       exact S b o y V q
     refine⟨?_,(n b c).2⟩;have l:b<s.heap.objs.size:=by
       rcases zAl.mp c with rfl|c
       . exact r
       rw[zAg.mp c];exact lt2
     rw[qb2 (zAj l)];exact(n b c).1
   refine⟨.ref s.heap.objs.size,_,I2,rfl,⟨_,x,rfl,N,rfl,λys hy=>by rw[I.list_inj hy A];exact J⟩,⟨⟨u,?_⟩,?_⟩,λb c=>?_⟩
   . have:((i+1:Nat):Int)=(i:Int)+1:=by push_cast;rfl
     rw[this];exact U
   . exact t.extBut j.extBut (Ne.symm m)
   have l:b<s.heap.objs.size:=by
     rcases zAl.mp c with rfl|c
     . exact r
     rw[zAg.mp c];exact lt2
   rw[qb2 (zAj l)];exact(n b c).1
 done:=by
   intro X C D F B i Fx s W H E I n d G;subst C D F;obtain⟨xs,A,J⟩:=G;obtain⟨⟨old,f⟩,g⟩:=d;obtain⟨L,M,p,hz⟩:=I.list A;obtain⟨f0,f1,f2,f3,f4,f5⟩:=n it (by simp);have hl:=M.length;exact wpAny_pyNext_enum_end (I.ok.hd B) f g p.isList (by simp;lia) λY eb=>⟨rfl,I.turned (t':=s.toks) (λb o c q=>eb b o c q) f0 f1 f3 f4 f5⟩
 self:=λ_ _ _ _ _ d h=>by
   obtain⟨⟨old,f⟩,_⟩:=d;exact wpAny_pyIter_enum f h
section
variable{X:Cx}
def iEnum(K:Qe)(ta:TA):TI:=λJ H R=>ta J H λvs H1=>∃a,vs=[.ref a]/\(∃xs,SqL K H1 a xs)/\R (Ite K a) H1
theorem qaM9(k:Gl X "enumerate")(hm:X.mg "enumerate"=none)(m:PA X [l] ta)(n:M8 [l] X.env=[(false,eval l X.env)]:=by rfl):PI X (.Tuple elts j tpos) (.Call (.Name "enumerate" p) [l] [] pos) (iEnum X.K ta):=by
 intro Fx s J H R I h;refine Call_ (qag5 I k hm boot_enumerate (PyProof.Rows.callWith_type1 (thn (m pos Fx s J H _ I h) λB c f=>?_) n rfl));obtain⟨C,H1,I1,o,t⟩:=f;obtain⟨a,e,⟨D,u⟩,q⟩:=t;subst e;cases o with
 |cons r v=>
  cases v;cases r;obtain⟨w,E,x,F⟩:=I1.list u;refine call_enumerate_list x.isList λG i y z A=>?_;refine wpAny_pyIter_enum i ?_;refine⟨c.heap.objs.size+1,[c.heap.objs.size+1,c.heap.objs.size],_,_,H1,rfl,I1.kept A,qam0 a c.heap.objs.size (c.heap.objs.size+1) (Nat.succ_ne_self _),⟨⟨_,i⟩,y⟩,λb g=>?_,q⟩;have d:c.heap.objs.size<=b:=by rcases zAl.mp g with rfl|g;{exact Nat.le_succ _};rw[zAg.mp g];exact zA3 _
  exact I1.fpOk d (I1.hok.fresh d)
end
section
variable{X:Cx}
def qaL3:V->List V->Hp->VK->Prop:=λx vs H Q=>∃l xs y j z,x=.ref l/\vs=[y]/\H l=some (.l xs)/\flatV y=true/\xs.all flatV=true/\xs[j]?=some z/\eqV z y=true/\(∀m z',m<j->xs[m]?=some z'->eqV z' y=false)/\Q (.int (j:Nat)) H
theorem Ri.getU(r:Ri xs us){j:Nat}(h:us[j]?=some u):∃x,xs[j]?=some x/\Rh x u:=by have c:=r.length;have d:=(zA5.mp h).1;obtain⟨e,a,b⟩:=r.get (show xs[j]?=some xs[j] by simp);rw[h] at a;cases a;exact⟨_,by simp,b⟩
theorem qR1:MtM X "list.index" qaL3:=by
 intro Fx s R H x M v N Q I f B h;obtain⟨l,C,y,j,O,rfl,rfl,D,E,p,t,g,i,q⟩:=h;cases f;obtain⟨u,rfl,G⟩:=B.one;obtain⟨z,a,n,r,P,e⟩:=I.lstM D;have J:=(zA5.mp t).1;have A:=r.length;have small:((j:Nat):Int)<2 ^ 63-1:=by have:M9<2 ^ 62:=∅;lia
 have eqAt:∀m (d:m<a.toArray.size),∃x,C[m]?=some x/\eqU y a.toArray[m]=eqV x y:=λm d=>by
  have K:m<a.length:=by simpa using d
  obtain⟨x,b,f⟩:=r.getU (show a[m]?=some a[m] by simp);refine⟨x,b,?_⟩;have:=qar9 (x:=y) f (zBo.mp p x (zB5 b));simpa using this
 have c:j<a.toArray.size:=by simp;lia
 refine No Qj ⟨_,e,rfl⟩ F.entry_list_index (F.args_list_index_2 _ _) (SeqAt.list_indexAt l a.toArray n none #[] u (eqU y) j c small ?_ ?_) ⟨e,λw L=>qo9 G E r p w (by simpa using L),⟨.int (j:Nat),H,I.tok _,⟨_,rfl⟩,q⟩⟩;{obtain⟨x,b,k⟩:=eqAt j c;rw[t] at b;cases b;rw[k];exact g};intro m d o;obtain⟨x,b,k⟩:=eqAt m d;rw[k];exact i m x o b
def qaL5:V->List V->Hp->VK->Prop:=λx vs H Q=>∃l xs y,x=.ref l/\vs=[y]/\H l=some (.l xs)/\flatV y=true/\xs.all flatV=true/\Q (.int (xs.countP (λz=>eqV z y):Nat)) H
theorem qX0{x:V}:∀{xs:List V}{us:List V'},Ri xs us->xs.all flatV=true->us.countP (eqU x)=xs.countP λy=>eqV y x|_,_,.nil,_=>rfl|y::xs,u::us,.cons r t,f=>by rw[Oh,zBk] at f;rw[Ph,Ph,qar9 r f.1,qX0 t f.2]
theorem qaf4:MtM X "list.count" qaL5:=by intro Fx s R H x k v m Q I c d h;obtain⟨l,o,y,rfl,rfl,f,g,b,q⟩:=h;cases c;obtain⟨u,rfl,i⟩:=d.one;obtain⟨z,a,n,r,p,e⟩:=I.lstM f;refine No Ql ⟨_,e,rfl⟩ F.entry_list_count (F.args_list_count_2 _ _) (SeqAt.list_countAt l a.toArray n none #[] u (eqU y)) ⟨e,λw j=>qo9 i g r b w (by simpa using j),⟨.int _,H,I.tok _,⟨_,rfl⟩,?_⟩⟩;rw[show a.toArray.toList.countP (eqU y)=a.countP (eqU y) by simp,qX0 r b];exact q
end
theorem qas5{K:Qe}(Pv:Nat->St->Hp->Prop)(c:Pv 0 u H)(d:∀i u H,i<=xs.length->Pv i u H->SqL K H a xs)(f:∀(i:Nat) x u H t,xs[i]?=some x->Pv i u H->H t=none->g (.ref t) u (upd H t (.q [.int (i:Int),x])) λσ2 H2=>tf σ2 H2 λh H3=>if h=true then te σ2 H3 λv H4=>∃ys,H4 D=some (.l ys)/\ys.length<M9/\Pv (i+1) σ2 (upd H4 D (.l (ys++[v]))) else Pv (i+1) σ2 H3)(j:∀u H,Pv xs.length u H->R H):qw0 (Ite K a) g tf te D R u H:=by refine⟨λi m u H=>m=xs.length-i/\i<=xs.length/\Pv i u H,⟨xs.length,by simp,zBg _,c⟩,?_⟩;rintro i m u H ⟨rfl,k,p⟩;have q:=d i u H k p;by_cases b:i<xs.length;{refine .inr ⟨⟨xs,xs[i],q,by simp[b]⟩,Pv (i+1),λu' H' l=>⟨xs.length-(i+1),⋯,rfl,b,l⟩,λx H' y=>?_⟩;obtain⟨t,n,e,o,r,s⟩:=y;subst e r;exact f i n u _ t (s xs q) p o};have e:i=xs.length:=⋯;subst e;exact .inl ⟨⟨xs,q,zA3 _⟩,j u H p⟩
end L2
namespace L2
open PySem PySem.Spec PyProof.Rows
noncomputable def qaE7:List String:=["NoneType", "bool", "int", "str", "list", "tuple", "dict"]
structure IsO(K:Qe)(C:γ):Prop where
 ca:W.findIn K (.ref C) "__class__"=some (some (.builtin "object.__class__"))
 cn:W.specialIn K (.builtin "object.__class__") "__get__"=some (some (.builtin "getset_descriptor.__get__"))
 ct:W.takesIn K (.builtin "object.__class__")=some true
 cm:W.mroIn K C (.type "object")=some true
 kf:∀t∈qaE7,Qf K (.type t) (.ref C)=some false
theorem kf_of{K:Qe}(h1:Qf K (.type "NoneType") (.ref C)=some false)(h2:Qf K (.type "bool") (.ref C)=some false)(b:Qf K (.type "int") (.ref C)=some false)(c:Qf K (.type "str") (.ref C)=some false)(d:Qf K (.type "list") (.ref C)=some false)(e:Qf K (.type "tuple") (.ref C)=some false)(f:Qf K (.type "dict") (.ref C)=some false):∀t∈qaE7,Qf K (.type t) (.ref C)=some false:=by intro t a;unfold qaE7 at a;simp only[zAl,zB0,or_false] at a;rcases a with rfl|rfl|rfl|rfl|rfl|rfl|rfl<;>assumption
section
variable{X:Cx}
def rIsO(C:γ):List V->Hp->VK->Prop:=λxs H Q=>∃x,xs=[x,.ref C]/\((∃a dx fs,x=.ref a/\H a=some (.ins C dx fs)/\Q (.bl true) H)∨(∃t,Gi H x=some t/\Q (.bl false) H))
theorem qaH9(b:IsO X.K C)(g:Cls X.K C):CallR X (.builtin "isinstance") (rIsO C):=by
 intro Fx s m H j k Q I r h;obtain⟨x,rfl,h⟩:=h;obtain⟨u,l,rfl,f,c⟩:=Ji r;cases c;rcases h with⟨a,dx,fs,rfl,ha,q⟩|⟨t,hk,q⟩
 .have e:Qf X.K (.ref C) (.ref C)=some true:=by unfold Qf;rw[if_pos (by simp)]
  exact qG5 I f (.ins ha g b.ca b.cn b.ct b.cm) e λd=>⟨.bl true,H,I.tok d,rfl,q⟩
 obtain⟨ty,i⟩:=qag8 hk;exact qG5 I f ty (b.kf t i) λd=>⟨.bl false,H,I.tok d,rfl,q⟩
theorem qaY6(C:γ)(hm:X.mg x=some (.ref C))(a:Gl X x:=by rfl)(b:N' x:=by decide):PE X (.Name x pos) (tC (.ref C)):=qae5 a hm rfl b
end
end L2
namespace Row
variable{a i j q s t:Nat}{g':Nat->Option Int}{x y:Int}
noncomputable def Ac(n h r:Nat):Nat:=if h<=r then r-h else r+n-h
noncomputable def prev(n r:Nat):Nat:=if r=0 then n-1 else r-1
noncomputable def next(n r:Nat):Nat:=if r+1=n then 0 else r+1
def ahead(n:Nat)(hm:Int->Nat)(r:Nat)(x y:Int):Prop:=Ac n (hm y) r<Ac n (hm x) r∨(Ac n (hm x) r=Ac n (hm y) r/\x<y)
theorem qD3(h:ahead n hm r x y)(h':ahead n hm r y z):ahead n hm r x z:=by unfold ahead at *;lia
theorem qM6(h:ahead n hm r x y)(h':ahead n hm r y x):False:=by unfold ahead at *;lia
theorem qat3(h:ahead n hm r x x):False:=qM6 h h
theorem qat2(h:x≠y)(h':¬ahead n hm r x y):ahead n hm r y x:=by unfold ahead at *;lia
theorem qU7(h:r<n):next n r<n:=by unfold next;grind
theorem qm1(h:r<n):prev n r<n:=by unfold prev;grind
theorem qao4(h:r<n):prev n (next n r)=r:=by unfold prev next;grind
theorem qj6(h:r<n)(b:a<n):Ac n a r<n:=by unfold Ac;grind
theorem qi9(b:a<n)(h:r<n)(h':s<n)(e:Ac n a r=Ac n a s):r=s:=by unfold Ac at e;grind
theorem qg5(b:a<n)(h:r<n):Ac n a r=0↔r=a:=by unfold Ac;grind
theorem ql1(b:a<n)(h:r<n)(c:0<Ac n a r):Ac n a (prev n r)=Ac n a r-1:=by unfold Ac prev at *;grind
theorem qH2(b:a<n)(h:r<n)(c:Ac n a r+1<n):Ac n a (next n r)=Ac n a r+1:=by unfold Ac next at *;grind
theorem nor(n s:Nat):(s+1=n/\next n s=0)∨(s+1≠n/\next n s=s+1):=by unfold next;grind
theorem por(n s:Nat):(s=0/\prev n s=n-1)∨(s≠0/\prev n s=s-1):=by unfold prev;grind
theorem dor(n a r:Nat):(a<=r/\Ac n a r+a=r)∨(r<a/\(a<=r+n->Ac n a r+a=r+n)):=by unfold Ac;grind
theorem Gp(b:a<n)(hi:i<n)(c:s<n)(h:Ac n a i<=Ac n a s):Ac n a i+Ac n i s=Ac n a s:=by have d:=dor n a i;have e:=dor n a s;have f:=dor n i s;lia
theorem K8(b:a<n)(c:s<n)(d:t<n)(h:Ac n a s<Ac n a t):Ac n t s+Ac n a t=n+Ac n a s:=by have e:=dor n a s;have f:=dor n a t;have g:=dor n t s;lia
theorem qbd0(a:s<n):Ac n (next n s) s+1=n:=by have b:=dor n (next n s) s;have c:=nor n s;lia
theorem qas2(f:a<n)(c:b<n)(d:j<n)(hi:i<n)(h1:Ac n a i<=Ac n a j)(h2:Ac n a j<=Ac n b j):Ac n b i+(Ac n a j-Ac n a i)=Ac n b j:=by have g:=Gp f hi d h1;have h:=qj6 hi c;rcases Nat.lt_or_ge (Ac n b j) (Ac n b i) with e|e;{have:=K8 c d hi e;lia};have:=Gp c hi d e;lia
structure Ord(n:Nat)(hm:Int->Nat)(g:Nat->Option Int):Prop where
 home:∀k,hm k<n
 inj:∀i j k,i<n->j<n->g i=some k->g j=some k->i=j
 ord:∀i k,i<n->g i=some k->0<Ac n (hm k) i->∃x,g (prev n i)=some x/\ahead n hm (prev n i) x k
def L5(n:Nat)(hm:Int->Nat)(g:Nat->Option Int):Prop:=∃i,i<n/\∀k,g i=some k->hm k=i
theorem Ord.path(O:Ord n hm g):∀(m j i:Nat)(z:Int),j<n->i<n->g j=some z->Ac n (hm z) i+m+1=Ac n (hm z) j->∃x,g i=some x/\ahead n hm i x z
 |0,j,i,z,hj,hi,hz,e=>by have a:0<Ac n (hm z) j:=⋯;obtain⟨x,b,c⟩:=O.ord j z hj hz a;have:=ql1 (O.home z) hj a;rw[(qi9 (O.home z) hi (qm1 hj) ⋯)];exact⟨x,b,c⟩|m+1,j,i,z,hj,hi,hz,e=>by
  have a:0<Ac n (hm z) j:=⋯;obtain⟨x,b,c⟩:=O.ord j z hj hz a;have l:=ql1 (O.home z) hj a;have d:=qm1 hj;have f:Ac n (hm z) (prev n j)<=Ac n (hm x) (prev n j):=by unfold ahead at c;lia
  have o:=qas2 (O.home z) (O.home x) d hi ⋯ f;obtain⟨y,h,k⟩:=O.path m (prev n j) i x d hi b ⋯;refine⟨y,h,qD3 k ?_⟩;unfold ahead at *;lia
theorem Ord.path'(O:Ord n hm g)(a:j<n)(hi:i<n)(hz:g j=some z)(h:Ac n (hm z) i<Ac n (hm z) j):∃x,g i=some x/\ahead n hm i x z:=O.path (Ac n (hm z) j-Ac n (hm z) i-1) j i z a hi hz ⋯
def Hx(n:Nat)(hm:Int->Nat)(g:Nat->Option Int)(s:Nat):Prop:=∀j z,j<n->g j=some z->Ac n (hm z) j<=Ac n (hm z) s
theorem Ord.zero(O:Ord n hm g)(C:L5 n hm g):∃s,s<n/\Hx n hm g s:=by
 obtain⟨i,b,h⟩:=C;refine⟨prev n i,(qm1 b),λj z c k=>zC4 λl=>?_⟩;have a:=O.home z;by_cases d:Ac n (hm z) i=0
 .have e:=(qg5 a b).mp d;have:=qj6 c a;have e2:Ac n (hm z) (prev n i)=n-1:=by
   unfold Ac prev at *
   grind
  lia
 have p:=ql1 a b ⋯;by_cases f:Ac n (hm z) i=Ac n (hm z) j;{have e:=qi9 a b c f;subst e;have:=h z k;rw[this,(qg5 b b).mpr rfl] at d;exact d rfl};obtain⟨x,m,o⟩:=O.path' c b k ⋯;have:=(qg5 (O.home x) b).mpr (h x m).symm;unfold ahead at o;lia
theorem qW4{α:Type}[DecidableEq α](x:α):∀(S:List α),S.Nodup->S.length<=(S.filter (λy=>decide (y≠x))).length+1
 |[],_=>by simp|a::S,h=>by
  have b:=zCm.mp h;by_cases e:a=x
  .subst e;have:S.filter (λy=>decide (y≠a))=S:=List.filter_eq_self.mpr λy c=>by simp only[ne_eq,zCc];intro z;subst z;exact b.1 c
   rw[Ol (by simp),this];simp
  rw[Om (by simpa using e)];have:=qW4 x S b.2;simp only[zAp];lia
theorem qp6{α:Type}[DecidableEq α](x:α):∀(S:List α),x∈S->(S.filter (λy=>decide (y≠x))).length+1<=S.length|[],h=>by simp at h|a::S,h=>by by_cases e:a=x;{rw[Ol (by simp[e])];have:=List.length_filter_le (λy=>decide (y≠x)) S;simp only[zAp];lia};rw[Om (by simpa using e)];have:=qp6 x S (by rcases zAl.mp h with z|z;exact absurd z.symm e;exact z);simp only[zAp];lia
theorem qJ2{g:Nat->Option Int}:∀(L:List Nat)(S:List Int),S.Nodup->(∀k∈S,∃i∈L,g i=some k)->S.length<=L.length
 |[],S,_,h=>by cases S with|nil=>simp|cons k _=>obtain⟨i,f,_⟩:=h k (by simp);simp at f
 |i::L,S,hn,h=>by
  cases d:g i with
  |none=>
   have:=qJ2 L S hn λk a=>by obtain⟨j,c,e⟩:=h k a;rcases zAl.mp c with z|z;{rw[z,d] at e;cases e};exact⟨j,z,e⟩
   simp only[zAp];lia
  |some x=>
   have l:=qJ2 L (S.filter (λy=>decide (y≠x))) (hn.filter _) λk a=>by obtain⟨a,b⟩:=zB9.mp a;obtain⟨j,c,e⟩:=h k a;rcases zAl.mp c with z|z;{rw[z,d] at e;rw[(Qc e)] at b;simp at b};exact⟨j,z,e⟩
   have m:=qW4 x S hn;simp only[zAp];lia
theorem qU2{g:Nat->Option Int}:∀(L:List Nat)(S:List Int),L.Nodup->(∀i∈L,∃k∈S,g i=some k)->(∀i∈L,∀j∈L,∀k,g i=some k->g j=some k->i=j)->L.length<=S.length|[],S,_,_,_=>by simp|i::L,S,c,h,inj=>by obtain⟨x,f,l⟩:=h i (by simp);have c:=zCm.mp c;have p:=qU2 L (S.filter (λy=>decide (y≠x))) c.2 (λj d=>by obtain⟨k,m,e⟩:=h j (zA6 _ d);refine⟨k,zB9.mpr ⟨m,?_⟩,e⟩;simp only[ne_eq,zCc];intro z;subst z;have:=inj i (by simp) j (zA6 _ d) k l e;exact c.1 (this ▸ d)) λa n b o=>inj a (zA6 _ n) b (zA6 _ o);have q:=qp6 x S f;simp only[zAp];lia
def Holds(n:Nat)(g:Nat->Option Int)(S:List Int):Prop:=S.Nodup/\∀k,k∈S↔∃i,i<n/\g i=some k
theorem qal5(O:Ord n hm g)(O':Ord n hm g')(C':L5 n hm g')(J:Holds n g S)(v:Holds n g' S)(p:s<n)(Z:Hx n hm g s):Hx n hm g' s:=by
 obtain⟨K,F,Z'⟩:=O'.zero C';intro j z B w;refine zC4 λq=>?_;have R:∀m,(∃t,t<n/\Ac n t s<=m/\Hx n hm g' t)->∃t,t<n/\Hx n hm g' t/\∀u,u<n->Ac n u s<Ac n t s->¬Hx n hm g' u:=by intro m;induction m with|zero=>grind|succ m T=>rintro⟨t,o,hd,w⟩;by_cases L:∃u,u<n/\Ac n u s<=m/\Hx n hm g' u;{exact T L};exact⟨t,o,w,λu U h V=>L ⟨u,U,⋯,V⟩⟩
 obtain⟨t,o,Zt,near⟩:=R (Ac n K s) ⟨K,F,zA3 _,Z'⟩;let d:Nat->Bool:=λr=>decide (Ac n r s<Ac n t s)
 have arcOf:∀r,d r=true↔Ac n r s<Ac n t s:=λr=>decide_eq_true_iff;have l:=O'.home z;have M:=Zt j z B w;have Dz:Ac n (hm z) s<Ac n t s:=by have G:=K8 l p o (zAa q M);have e2:=qj6 o l;lia
 have Dj:¬Ac n j s<Ac n t s:=by have G:=K8 l p o (zAa q M);have e2:=K8 l p B q;lia
 have W:z∈S.filter (λk=>d (hm k)):=zB9.mpr ⟨(v.2 z).mpr ⟨j,B,w⟩,(arcOf _).mpr Dz⟩;have p1:(S.filter (λk=>d (hm k))).length<=((Ob n).filter d).length:=by refine qJ2 (g:=g) _ _ (J.1.filter _) λk H=>?_;obtain⟨H,N⟩:=zB9.mp H;obtain⟨i,c,P⟩:=(J.2 k).mp H;have N:=(arcOf _).mp N;have X:=Z i k c P;have f:=O.home k;refine⟨i,zB9.mpr ⟨zAm.mpr c,(arcOf _).mpr ?_⟩,P⟩;have G:=Gp f c p X;lia
 have p2:((Ob n).filter d).length<=((S.filter (λk=>d (hm k))).filter (λy=>decide (y≠z))).length:=by
  refine qU2 (g:=g') _ _ (List.nodup_range.filter _) (λi c=>?_) λa Y b hb k=>O'.inj a b k (zAm.mp (zB9.mp Y).1) (zAm.mp (zB9.mp hb).1);obtain⟨c,C⟩:=zB9.mp c;have c:=zAm.mp c;have C:=(arcOf _).mp C;have nz:=near i c C;obtain⟨k,D⟩:∃k,g' i=some k:=by cases e:g' i with|some k=>exact⟨k,rfl⟩|none=>refine absurd (λj' y I hy=>zC4 λA=>?_) nz;obtain⟨x,Q,_⟩:=O'.path' I c hy A;rw[e] at Q;cases Q
  have ki:=Zt i k c D;have f:=O'.home k;refine⟨k,zB9.mpr ⟨zB9.mpr ⟨(v.2 k).mpr ⟨i,c,D⟩,(arcOf _).mpr ?_⟩,?_⟩,D⟩;{have l1:=qj6 o f;rcases Nat.lt_or_ge (Ac n (hm k) s) (Ac n (hm k) t) with E|E;{have:=K8 f p o E;lia};have G:=Gp f o p E;have e2:=Gp f c p (zA7 ki E);lia};simp only[ne_eq,zCc];intro e;subst e;have:=O'.inj i j k c B D w;subst this;exact Dj C
 have p3:=qp6 z _ W;lia
theorem qal2(O:Ord n hm g)(O':Ord n hm g')(z:Holds n g S)(l:Holds n g' S)(t:s<n)(Z:Hx n hm g s)(Z':Hx n hm g' s)(c:j<n)(A:∀i,i<n->Ac n (next n s) i<Ac n (next n s) j->g i=g' i)(m:g j=some x):g' j=some x:=by
 have a:=qU7 t;have pos:∀{f:Nat->Option Int},Hx n hm f s->∀{i k},i<n->f i=some k->Ac n (next n s) (hm k)<=Ac n (next n s) i:=λ{f} Zf {i k} h D=>by have u:=Zf i k h D;have b:=O.home k;have N:=qbd0 t;have P:=qj6 b a;have E:=Gp a b t ⋯;refine zC4 λF=>?_;have e2:=K8 a h b F;lia
 have o:∀{i k},i<n->Ac n (next n s) (hm k)<=Ac n (next n s) j->Ac n (next n s) j<Ac n (next n s) i->Ac n (hm k) j<Ac n (hm k) i:=λ{i k} h u G=>by have b:=O.home k;have E:=Gp a b c u;have e2:=Gp a b h (zA7 u (zBc G));lia
 obtain⟨p,d,q⟩:=(l.2 x).mp ((z.2 x).mpr ⟨j,c,m⟩);by_cases H:Ac n (next n s) p<Ac n (next n s) j;{have e:=A p d H;rw[q] at e;have:=O.inj p j x d c e m;subst this;exact q};by_cases I:Ac n (next n s) p=Ac n (next n s) j;{have e:=qi9 a d c I;subst e;exact q};exfalso;obtain⟨y,v,B⟩:=O'.path' d c q (o d (pos Z c m) ⋯);obtain⟨i,h,r⟩:=(z.2 y).mp ((l.2 y).mpr ⟨j,c,v⟩);have J:=pos Z' c v;by_cases K:Ac n (next n s) i<Ac n (next n s) j;{have e:=A i h K;rw[r] at e;have:=O'.inj i j y h c e.symm v;grind};by_cases L:Ac n (next n s) i=Ac n (next n s) j;{have e:=qi9 a h c L;subst e;rw[m] at r;cases r;exact qat3 B};obtain⟨w,C,M⟩:=O.path' h c r (o h J ⋯);rw[m] at C;cases C;exact qM6 B M
theorem qaC6(O:Ord n hm g)(O':Ord n hm g')(C:L5 n hm g)(C':L5 n hm g')(d:Holds n g S)(a:Holds n g' S):∀j,j<n->g j=g' j:=by
 obtain⟨s,f,Z⟩:=O.zero C;have Z':=qal5 O O' C' d a f Z;have main:∀m j,j<n->Ac n (next n s) j<m->g j=g' j:=by intro m;induction m with|zero=>grind|succ m l=>intro j c p;have b:∀i,i<n->Ac n (next n s) i<Ac n (next n s) j->g i=g' i:=λi k h=>l i k ⋯;cases e:g j with|some x=>exact(qal2 O O' d a f Z Z' c b e).symm|none=>cases o:g' j with|none=>rfl|some y=>have:=qal2 O' O a d f Z' Z c (λi k h=>(b i k h).symm) o;grind
 exact λj c=>main _ j c (Nat.lt_succ_self _)
noncomputable def set(g:Nat->Option Int)(r:Nat)(c:Int):Nat->Option Int:=λj=>if j=r then some c else g j
theorem qc5:set g r c r=some c:=by unfold set;rw[if_pos rfl]
theorem qd7(h:j≠r):set g r c j=g j:=by unfold set;rw[if_neg h]
structure Walk(n:Nat)(wr:Bool)(hm:Int->Nat)(T:List Int)(k:Int)(e:Nat)(g:Nat->Option Int)(c:Int)(r:Nat):Prop where
 o:Ord n hm g
 nin:∀i,i<n->g i≠some c
 hr:r<n
 pth:∀j,j<n->Ac n (hm c) j<Ac n (hm c) r->∃x,g j=some x/\ahead n hm j x c
 he:e<n
 ge:g e=none
 lim:Ac n (hm k) r<=Ac n (hm k) e
 all:∀x,x∈T↔(x=c∨∃i,i<n/\g i=some x)
 ln:wr=false->hm k<=e/\hm c<=r/\∀i x,i<n->g i=some x->hm x<=i
section
variable{n:Nat}{wr:Bool}{hm:Int->Nat}{T:List Int}{k:Int}{e:Nat}{g:Nat->Option Int}{c:Int}{r:Nat}
theorem Walk.lt(W:Walk n wr hm T k e g c r)(a:g r=some y):Ac n (hm k) r<Ac n (hm k) e:=by
 have b:=W.lim;have:r≠e:=λz=>by have:=W.ge;rw[<-z,a] at this;cases this
 have d:Ac n (hm k) r≠Ac n (hm k) e:=λz=>this (qi9 (W.o.home k) W.hr W.he z);lia
theorem Walk.nx(W:Walk n wr hm T k e g c r)(a:g r=some y):Ac n (hm k) (next n r)=Ac n (hm k) r+1:=by have b:=W.lt a;have d:=qj6 W.he (W.o.home k);exact qH2 (W.o.home k) W.hr ⋯
theorem way(a:hm x<n)(b:j<n)(c:e<n)(d:g e=none)(f:∀i,i<n->Ac n (hm x) i<=Ac n (hm x) j->∃y,g i=some y):Ac n (hm x) j+1<n:=by have h:=qj6 b a;have k:=qj6 c a;grind
theorem Walk.on(W:Walk n wr hm T k e g c r)(a:g r=some y)(h:¬ahead n hm r c y):Walk n wr hm T k e g c (next n r):=by
 have v:=W.nx a;have A:=W.lt a;have b:=W.o.home c;have l:c≠y:=λz=>W.nin r W.hr (by rw[z];exact a);have w:=way b W.hr W.he W.ge λi d m=>by by_cases q:Ac n (hm c) i=Ac n (hm c) r;{rw[qi9 b d W.hr q];exact⟨y,a⟩};obtain⟨x,p,_⟩:=W.pth i d ⋯;exact⟨x,p⟩
 have B:=qH2 b W.hr w;refine⟨W.o,W.nin,qU7 W.hr,λj f m=>?_,W.he,W.ge,⋯,W.all,λs=>?_⟩;{by_cases q:Ac n (hm c) j=Ac n (hm c) r;{rw[qi9 b f W.hr q];exact⟨y,a,qat2 l h⟩};exact W.pth j f ⋯};obtain⟨t,C,u⟩:=W.ln s;refine⟨t,?_,u⟩;have D:=dor n (hm k) r;have E:=dor n (hm k) e;have F:=nor n r;have:=W.hr;have:=W.he;grind
theorem Walk.swap(W:Walk n wr hm T k e g c r)(l:g r=some y)(h:ahead n hm r c y):Walk n wr hm T k e (set g r c) y (next n r):=by
 have J:=W.nx l;have K:=W.lt l;have D:=W.o.home c;have m:=W.o.home y;have E:c≠y:=λz=>W.nin r W.hr (by rw[z];exact l);have F:e≠r:=λz=>by have:=W.ge;rw[z,l] at this;cases this
 have w:=way (g:=g) m W.hr W.he W.ge λi f u=>by by_cases q:Ac n (hm y) i=Ac n (hm y) r;{rw[qi9 m f W.hr q];exact⟨y,l⟩};obtain⟨x,s,_⟩:=W.o.path' W.hr f l ⋯;exact⟨x,s⟩
 have L:=qH2 m W.hr w;refine⟨⟨W.o.home,λi j x f t a p=>?_,λi x f a u=>?_⟩,λi f a=>?_,qU7 W.hr,λj t u=>?_,W.he,by rw[qd7 F];exact W.ge,⋯,λx=>?_,λG=>?_⟩;{by_cases b:i=r;{by_cases e2:j=r;{rw[b,e2]};rw[b,qc5] at a;rw[qd7 e2] at p;cases a;exact absurd p (W.nin j t)};rw[qd7 b] at a;by_cases e2:j=r;{rw[e2,qc5] at p;cases p;exact absurd a (W.nin i f)};rw[qd7 e2] at p;exact W.o.inj i j x f t a p}
 .have H:=qm1 f;by_cases b:i=r
  .subst b;rw[qc5] at a;cases a;have d:=ql1 D f u;obtain⟨x,s,A⟩:=W.pth (prev n i) H ⋯;have:prev n i≠i:=λz=>by rw[z] at d;lia
   exact⟨x,by rw[qd7 this];exact s,A⟩
  rw[qd7 b] at a;obtain⟨z,v,B⟩:=W.o.ord i x f a u;by_cases e2:prev n i=r;{rw[e2] at v B ⊢;rw[l] at v;cases v;exact⟨c,qc5,qD3 h B⟩};exact⟨z,by rw[qd7 e2];exact v,B⟩
 {by_cases b:i=r;{rw[b,qc5] at a;exact E (Qc a)};rw[qd7 b] at a;exact b (W.o.inj i r y f W.hr a l)};{by_cases q:Ac n (hm y) j=Ac n (hm y) r;{rw[qi9 m t W.hr q];exact⟨c,qc5,h⟩};obtain⟨x,s,A⟩:=W.o.path' W.hr t l ⋯;have:j≠r:=λz=>q (by rw[z]);exact⟨x,by rw[qd7 this];exact s,A⟩};{rw[W.all x];constructor;{rintro (z|⟨i,f,a⟩);{exact .inr ⟨r,W.hr,by rw[z];exact qc5⟩};by_cases b:i=r;{rw[b,l] at a;exact .inl (Qc a).symm};exact .inr ⟨i,f,by rw[qd7 b];exact a⟩};rintro (z|⟨i,f,a⟩);{exact .inr ⟨r,W.hr,by rw[z];exact l⟩};by_cases b:i=r;{rw[b,qc5] at a;exact .inl (Qc a).symm};rw[qd7 b] at a;exact .inr ⟨i,f,a⟩};obtain⟨I,M,C⟩:=W.ln G;have N:=C r y W.hr l;refine⟨I,?_,λi x f a=>?_⟩;{have O:=dor n (hm k) r;have P:=dor n (hm k) e;have Q:=nor n r;have:=W.hr;have:=W.he;have:=W.o.home k;lia};by_cases b:i=r;{rw[b,qc5] at a;cases a;lia};rw[qd7 b] at a;exact C i x f a
structure Kept(n:Nat)(wr:Bool)(hm:Int->Nat)(g:Nat->Option Int)(S:List Int):Prop where
 o:Ord n hm g
 c:L5 n hm g
 h:Holds n g S
 ln:wr=false->∀i x,i<n->g i=some x->hm x<=i
theorem Walk.done(W:Walk n wr hm T k e g c r)(v:T.Nodup)(s:g r=none):Kept n wr hm (set g r c) T:=by
 have w:=W.o.home c;have h:=qU7 W.hr;refine⟨⟨W.o.home,λi j x f t a l=>?_,λi x f a m=>?_⟩,⟨next n r,h,λx u=>?_⟩,⟨v,λx=>?_⟩,λy=>?_⟩;{by_cases b:i=r;{by_cases e2:j=r;{rw[b,e2]};rw[b,qc5] at a;rw[qd7 e2] at l;cases a;exact absurd l (W.nin j t)};rw[qd7 b] at a;by_cases e2:j=r;{rw[e2,qc5] at l;cases l;exact absurd a (W.nin i f)};rw[qd7 e2] at l;exact W.o.inj i j x f t a l}
 .have A:=qm1 f;by_cases b:i=r
  .subst b;rw[qc5] at a;cases a;have d:=ql1 w f m;obtain⟨x,q,B⟩:=W.pth (prev n i) A ⋯;have:prev n i≠i:=λz=>by rw[z] at d;lia
   exact⟨x,by rw[qd7 this];exact q,B⟩
  rw[qd7 b] at a;obtain⟨z,p,C⟩:=W.o.ord i x f a m;by_cases e2:prev n i=r;{grind};exact⟨z,by rw[qd7 e2];exact p,C⟩
 .have q:=W.o.home x;by_cases b:next n r=r
  {have:=nor n r;grind};rw[qd7 b] at u;by_cases m:0<Ac n (hm x) (next n r);{obtain⟨z,p,_⟩:=W.o.ord _ x h u m;rw[qao4 W.hr,s] at p;cases p};exact((qg5 q h).mp ⋯).symm
 {rw[W.all x];constructor;{rintro (z|⟨i,f,a⟩);{exact⟨r,W.hr,by rw[z];exact qc5⟩};exact⟨i,f,by rw[qd7 (λz=>by rw[z,s] at a;cases a)];exact a⟩};rintro⟨i,f,a⟩;by_cases b:i=r;{rw[b,qc5] at a;exact .inl (Qc a).symm};rw[qd7 b] at a;exact .inr ⟨i,f,a⟩};obtain⟨E,F,D⟩:=W.ln y;intro i x f a;by_cases b:i=r;{rw[b,qc5] at a;cases a;lia};rw[qd7 b] at a;exact D i x f a
def Free(n:Nat)(wr:Bool)(hm:Int->Nat)(g:Nat->Option Int)(k:Int)(e:Nat):Prop:=e<n/\g e=none/\(wr=false->hm k<=e)
theorem Kept.start(K:Kept n wr hm g S)(c:¬k∈S)(F:Free n wr hm g k e):Walk n wr hm (S++[k]) k e g k (hm k):=by have a:=K.o.home k;have z:=(qg5 a a).mpr rfl;refine⟨K.o,λi d f=>c ((K.h.2 k).mpr ⟨i,d,f⟩),a,λj _ l=>⋯,F.1,F.2.1,⋯,λx=>?_,λb=>⟨F.2.2 b,zA3 _,K.ln b⟩⟩;rw[zAd,zAg,K.h.2 x];exact⟨Or.symm,Or.symm⟩
def Crowd(n:Nat)(wr:Bool)(hm:Int->Nat)(T:List Int)(q:Nat):Prop:=q<n/\if wr=true then q=0/\n<T.length else n-q<(T.filter (λk=>decide (q<=hm k))).length
theorem qN6(h:i∈(Ob (n-q)).map (q + ·)):q<=i/\i<n:=by obtain⟨j,a,rfl⟩:=zAy.mp h;grind
theorem qaE0(h:q<=i)(h':i<n):i∈(Ob (n-q)).map (q + ·):=zAy.mpr ⟨i-q,zAm.mpr ⋯,⋯⟩
theorem qab9:((Ob m).map (q + ·)).Nodup:=by rw[List.nodup_iff_pairwise_ne,zCd];exact(List.nodup_iff_pairwise_ne.mp O0).imp λh=>⋯
theorem Kept.no_crowd(K:Kept n wr hm g S)(q:Nat):¬Crowd n wr hm S q:=by
 rintro⟨d,h⟩;cases wr with
 |true=>
  rw[if_pos rfl] at h;have:=qJ2 (g:=g) (Ob n) S K.h.1 λk a=>by obtain⟨i,b,c⟩:=(K.h.2 k).mp a;exact⟨i,zAm.mpr b,c⟩
  rw[zBb] at this;lia
 |false=>
  rw[if_neg ∅] at h;have:=qJ2 (g:=g) ((Ob (n-q)).map (q + ·)) (S.filter (λk=>decide (q<=hm k))) (K.h.1.filter _) λk a=>by obtain⟨a,d⟩:=zB9.mp a;obtain⟨i,b,c⟩:=(K.h.2 k).mp a;have:=K.ln rfl i k b c;have d:=zAe d;exact⟨i,qaE0 ⋯ b,c⟩
  grind
theorem Kept.crowd(K:Kept n wr hm g S)(t:∀e,¬Free n wr hm g k e):∃q,Crowd n wr hm (S++[k]) q:=by
 have u:=K.o.home k;have full:∀e,e<n->(wr=false->hm k<=e)->∃x,g e=some x:=λe l r=>by cases h:g e with|some x=>exact⟨x,rfl⟩|none=>exact absurd ⟨l,h,r⟩ (t e)
 cases wr with
 |true=>refine⟨0,⋯,?_⟩;rw[if_pos rfl];refine⟨rfl,?_⟩;have:=qU2 (g:=g) (Ob n) S O0 (λi a=>by obtain⟨x,c⟩:=full i (zAm.mp a) (λz=>by cases z);exact⟨x,(K.h.2 x).mpr ⟨i,zAm.mp a,c⟩,c⟩) λi a j p x=>K.o.inj i j x (zAm.mp a) (zAm.mp p);rw[zBb] at this;rw[zAf];simp only[zAp,zBw];lia|false=>
  have v:∀m,m<=hm k->(∀e,m<=e->e<n->∃x,g e=some x)->∃q,q<=hm k/\(∀e,q<=e->e<n->∃x,g e=some x)/\(q=0∨g (q-1)=none):=by intro m;induction m with|zero=>exact λd b=>⟨0,d,b,.inl rfl⟩|succ m F=>intro d b;cases h:g m with|none=>exact⟨m+1,d,b,.inr h⟩|some x=>grind
  obtain⟨q,w,A,f⟩:=v (hm k) (zA3 _) λe l B=>full e B λ_=>l;refine⟨q,⋯,?_⟩;rw[if_neg ∅];have:=qU2 (g:=g) ((Ob (n-q)).map (q + ·)) (S.filter (λk=>decide (q<=hm k))) qab9 (λi a=>by obtain⟨d,b⟩:=qN6 a;obtain⟨x,c⟩:=A i d b;refine⟨x,zB9.mpr ⟨(K.h.2 x).mpr ⟨i,b,c⟩,zAn ?_⟩,c⟩;have C:=K.o.home x;have r:=K.ln rfl i x b c;refine zC4 λD=>?_;rcases f with f|f;{lia};obtain⟨y,s,_⟩:=K.o.path' (i:=q-1) b ⋯ c (by have G:=dor n (hm x) (q-1);have H:=dor n (hm x) i;lia);rw[f] at s;cases s) λi a j p x=>K.o.inj i j x (qN6 a).2 (qN6 p).2;rw[zAk,zBb] at this;have E:([k].filter (λk=>decide (q<=hm k))).length=1:=by simp[w]
  rw[List.filter_append,zAf,E];lia
theorem Crowd.mono{T:List Int}(h:Crowd n wr hm S q)(b:S.Sublist T):Crowd n wr hm T q:=by obtain⟨a,h⟩:=h;refine⟨a,?_⟩;grind
theorem Crowd.perm{T:List Int}(h:Crowd n wr hm S q)(a:S.Perm T):Crowd n wr hm T q:=by obtain⟨b,h⟩:=h;refine⟨b,?_⟩;rw[<-a.length_eq,<-(a.filter _).length_eq];exact h
theorem Kept.none(a:0<n)(b:∀k,hm k<n):Kept n wr hm (λ_=>none) []:=⟨⟨b,(λ_ _ _ _ _ h=>by cases h),λ_ _ _ h=>by cases h⟩,⟨0,a,λ_ h=>by cases h⟩,⟨Pm,λk=>⟨λh=>by simp at h,λ⟨_,_,h⟩=>by cases h⟩⟩,λ_ _ _ _ h=>by cases h⟩
theorem Kept.same(K:Kept n wr hm g S)(K':Kept n wr hm g' S')(a:∀k,k∈S↔k∈S'):∀j,j<n->g j=g' j:=qaC6 K.o K'.o K.c K'.c K.h ⟨K.h.1,λk=>(a k).trans (K'.h.2 k)⟩
end
noncomputable def rot(n s t:Nat):Nat:=if s+t<n then s+t else s+t-n
theorem qaK8(a:s<n)(b:t<n):rot n s t<n:=by unfold rot;split<;>lia
theorem qS1(a:s<n)(b:t<n):Ac n s (rot n s t)=t:=by have d:=dor n s (rot n s t);unfold rot at d ⊢;grind
theorem qad8(a:s<n)(hi:i<n):rot n s (Ac n s i)=i:=by have d:=dor n s i;unfold rot;grind
theorem qau2(a:s<n)(b:t<n):(s+t)%n=rot n s t:=by unfold rot;split;{exact zCh (by assumption)};rw[Nat.mod_eq_sub_mod ⋯];exact zCh ⋯
def L6(hm:Int->Nat)(x y:Int):Prop:=hm x<hm y∨(hm x=hm y/\x<y)
structure Fill(n:Nat)(hm:Int->Nat)(g:Nat->Option Int)(S:List Int)(top:Nat):Prop where
 k:Kept n false hm g S
 free:∀i,top<=i->i<n->g i=none
 last:0<top->∃x,g (top-1)=some x/\x∈S
 le:top<=n
theorem Fill.start(a:0<n)(b:∀k,hm k<n):Fill n hm (λ_=>none) [] 0:=⟨Kept.none a b,λ_ _ _=>rfl,λh=>absurd h ⋯,⋯⟩
section
variable{n:Nat}{hm:Int->Nat}{g:Nat->Option Int}{S:List Int}{top:Nat}{k:Int}
theorem Fill.put(F:Fill n hm g S top)(l:¬k∈S)(C:∀x∈S,L6 hm x k)(m:max top (hm k)<n):Fill n hm (set g (max top (hm k)) k) (S++[k]) (max top (hm k)+1):=by
 generalize J:max top (hm k)=r at m ⊢;have p:top<=r:=⋯;have q:hm k<=r:=⋯;have D:g r=none:=F.free r p m;have below:∀i x,i<n->g i=some x->i<top:=λi x b a=>by by_cases h:top<=i;{rw[F.free i h b] at a;cases a};lia
 have s:∀i x,i<n->set g r k i=some x->hm x<=i:=λi x b a=>by by_cases e:i=r;{subst e;rw[qc5] at a;cases a;exact q};rw[qd7 e] at a;exact F.k.ln rfl i x b a
 have mem:∀i x,i<n->g i=some x->x∈S:=λi x b a=>(F.k.h.2 x).mpr ⟨i,b,a⟩;refine⟨⟨⟨F.k.o.home,λi j x b z a d=>?_,λi x b a t=>?_⟩,⟨0,⋯,λx E=>?_⟩,⟨?_,λx=>⟨λc=>?_,λ⟨i,b,a⟩=>?_⟩⟩,λ_ i x b a=>s i x b a⟩,λi b G=>?_,λ_=>⟨k,by rw[Nat.add_sub_cancel,qc5],zAx _ (zAg.mpr rfl)⟩,⋯⟩;{by_cases u:i=r;{by_cases e2:j=r;{rw[u,e2]};subst u;rw[qc5] at a;cases a;rw[qd7 e2] at d;exact absurd (mem j _ z d) l};rw[qd7 u] at a;by_cases e2:j=r;{subst e2;rw[qc5] at d;cases d;exact absurd (mem i _ b a) l};rw[qd7 e2] at d;exact F.k.o.inj i j x b z a d}
 .have c:=s i x b a;have K:i≠0:=λe=>by have:=(qg5 (F.k.o.home x) b).mpr ⋯;lia
  have A:prev n i=i-1:=by rcases por n i with h|h<;>lia
  by_cases e:i=r
  .subst e;rw[qc5] at a;cases a;have H:hm k<i:=by unfold Ac at t;split at t<;>lia
   have B:top=i:=⋯;obtain⟨y,f,v⟩:=F.last ⋯;have w:hm y<=i-1:=F.k.ln rfl (i-1) y ⋯ (by rw[<-B];exact f);refine⟨y,by rw[A,qd7 ⋯,<-B];exact f,?_⟩;rw[A];unfold ahead Ac;rw[if_pos ⋯,if_pos w];rcases C y v with h|h;{exact .inl ⋯};exact .inr ⟨⋯,h.2⟩
  rw[qd7 e] at a;have L:=below i x b a;obtain⟨y,f,I⟩:=F.k.o.ord i x b a t;exact⟨y,by rw[qd7 ⋯];exact f,I⟩
 {have:=s 0 x ⋯ E;lia};{refine zCf.mpr ⟨F.k.h.1,(by simp),λx c y v e=>?_⟩;rw[zAg.mp v] at e;exact l (e ▸ c)};{rcases zAd.mp c with c|c;{obtain⟨i,b,a⟩:=(F.k.h.2 x).mp c;exact⟨i,b,by rw[qd7 λe=>by rw[e,D] at a;cases a];exact a⟩};rw[zAg.mp c];exact⟨r,m,qc5⟩};{by_cases e:i=r;{subst e;rw[qc5] at a;grind};rw[qd7 e] at a;exact zC9 _ (mem i x b a)};rw[qd7 ⋯];exact F.free i ⋯ G
theorem Fill.room(F:Fill n hm g S top)(d:∀x∈S,L6 hm x k)(f:∀q,¬Crowd n false hm (S++[k]) q):max top (hm k)<n:=by
 have p:=F.k.o.home k;have i:=F.le;by_cases h:top<n;{lia};have r:top=n:=⋯;obtain⟨q,c⟩:=F.k.crowd (k:=k) λe ⟨j,s,a⟩=>by
  have a:=a rfl;obtain⟨y,b,l⟩:=F.last ⋯;have m:hm y<=hm k:=by rcases d y l with h|h<;>lia
  by_cases t:e=top-1;{grind};obtain⟨x,u,_⟩:=F.k.o.path' ⋯ j b (show Ac n (hm y) e<Ac n (hm y) (top-1) by unfold Ac;rw[if_pos ⋯,if_pos (F.k.ln rfl (top-1) y ⋯ b)];lia);grind
 exact absurd c (f q)
end
noncomputable def Hy(hm:Int->Nat)(T:List Int)(r:Nat):Nat:=(T.filter λk=>decide (hm k=r)).length
noncomputable def Hl(hm:Int->Nat)(T:List Int)(q r:Nat):Nat:=(T.filter λk=>decide (q<=hm k/\hm k<r)).length
theorem qX3{hm:Int->Nat}{q r:Nat}(h:q<=r):∀T:List Int,Hl hm T q (r+1)=Hl hm T q r+Hy hm T r|[]=>rfl|k::T=>by have a:=qX3 (hm:=hm) h T;unfold Hl Hy at a ⊢;simp only[List.filter_cons,zCc];split<;>split<;>split<;>(try simp only[zAp])<;>lia
theorem qas7(T:List Int):Hl hm T r r=0:=by unfold Hl;rw[List.length_eq_zero_iff,List.filter_eq_nil_iff];grind
noncomputable def onC(c:Nat->Nat):Nat->Int|0=>0|r+1=>if onC c r+(c r:Int)-1>0 then onC c r+(c r:Int)-1 else 0
noncomputable def sumC(c:Nat->Nat)(q:Nat):Nat->Nat|0=>0|m+1=>sumC c q m+c (q+m)
section
variable{c:Nat->Nat}
theorem qJ4:∀r:Nat,0<=onC c r|0=>Int.le_refl _|r+1=>by unfold onC;split<;>lia
theorem qaC8{q:Nat}:∀m:Nat,(sumC c q m:Int)-(m:Int)<=onC c (q+m)|0=>by have:=qJ4 (c:=c) q;show ((0:Nat):Int)-_<=_;rw[Nat.add_zero];lia|m+1=>by have:=qaC8 (q:=q) m;show ((sumC c q m+c (q+m):Nat):Int)-_<=onC c (q+m+1);unfold onC;split<;>lia
theorem qaC9:∀r:Nat,onC c r=0∨∃q m,q+m=r/\0<m/\onC c r=(sumC c q m:Int)-(m:Int)|0=>.inl rfl|r+1=>by by_cases h:onC c r+(c r:Int)-1>0;{right;have e:onC c (r+1)=onC c r+(c r:Int)-1:=if_pos h;rcases qaC9 r with b|⟨q,m,a,d,f⟩;{exact⟨r,1,rfl,⋯,by rw[e];show _=((0+c (r+0):Nat):Int)-_;rw[Nat.add_zero];lia⟩};exact⟨q,m+1,⋯,⋯,by rw[e];show _=((sumC c q m+c (q+m):Nat):Int)-_;rw[a];lia⟩};exact .inl (if_neg h)
theorem qac0{q m:Nat}:∀l:Nat,sumC c q (m+l)=sumC c q m+sumC c (q+m) l|0=>rfl|l+1=>by show sumC c q (m+l)+c (q+(m+l))=sumC c q m+(sumC c (q+m) l+c (q+m+l));rw[qac0 l,show q+(m+l)=q+m+l by lia];lia
end
section
variable{n b:Nat}{hm:Int->Nat}{T:List Int}
def cR(n:Nat)(hm:Int->Nat)(T:List Int):Nat->Nat:=λt=>Hy hm T (t%n)
theorem qbd5:cR n hm T (n+t)=cR n hm T t:=by unfold cR;rw[Nat.add_mod_left]
theorem qat7{q:Nat}:∀m,sumC (cR n hm T) (n+q) m=sumC (cR n hm T) q m|0=>rfl|m+1=>by show sumC _ (n+q) m+cR n hm T (n+q+m)=_;rw[qat7 m,Nat.add_assoc,qbd5];rfl
theorem qD5{s q:Nat}(a:b<n)(c:s%n=b)(d:∀k,hm k<n):∀m,q+m<=n->sumC (cR n hm T) (s+q) m=Hl (λk=>Ac n b (hm k)) T q (q+m)
 |0,_=>by rw[Nat.add_zero,qas7];rfl|m+1,h=>by
  show sumC _ (s+q) m+cR n hm T (s+q+m)=_;rw[qD5 a c d m ⋯,show q+(m+1)=q+m+1 by lia,qX3 ⋯];congr 1;unfold cR Hy;congr 1;refine Ov λk _=>zCi.mpr ?_;have e:(s+q+m)%n=rot n b (q+m):=by rw[Nat.add_assoc,Nat.add_mod,c,zCh (show q+m<n by lia),qau2 a ⋯]
  rw[e];constructor;{intro z;show Ac n b (hm k)=_;rw[z,qS1 a ⋯]};intro z;rw[<-show Ac n b (hm k)=_ from z,qad8 a (d k)]
theorem qaH7(a:∀k,hm k<n):Hl hm T 0 n=T.length:=by unfold Hl;rw[List.filter_eq_self.mpr λk _=>zAn ⟨zBg _,a k⟩]
theorem qaJ7(a:0<n)(b:∀k,hm k<n):sumC (cR n hm T) 0 n=T.length:=by have:=qD5 (T:=T) (q:=0) a (Nat.zero_mod n) b n ⋯;rw[Nat.add_zero,zAo] at this;rw[this];refine(qaH7 λk=>qj6 (b k) a)
theorem qao8(d:0<n)(a:∀k,hm k<n):0<onC (cR n hm T) n↔∃q,Crowd n false hm T q:=by
 have e:∀q,q<=n->sumC (cR n hm T) q (n-q)=(T.filter λk=>decide (q<=hm k)).length:=λq b=>by have:=qD5 (T:=T) (q:=q) d (Nat.zero_mod n) a (n-q) ⋯;rw[zAo,show q+(n-q)=n by lia] at this;rw[this];unfold Hl;congr 2;exact funext λk=>zCi.mpr (by have:=a k;have g:Ac n 0 (hm k)=hm k:=if_pos (zBg _);dsimp only;lia)
 constructor;{intro h;rcases qaC9 (c:=cR n hm T) n with i|⟨q,m,b,f,j⟩;{lia};refine⟨q,⋯,?_⟩;rw[if_neg ∅,<-e q ⋯,show n-q=m by lia];lia};rintro⟨q,b,h⟩;rw[if_neg ∅,<-e q ⋯] at h;have:=qaC8 (c:=cR n hm T) (q:=q) (n-q);grind
theorem qaC7(i:0<n)(j:∀k,hm k<n)(w:T.length<=n):∃r,r<n/\onC (cR n hm T) (n+r+1)=0:=by
 by_cases h:∃r,r<n/\onC (cR n hm T) (n+r+1)=0;{exact h};exfalso;have pos:∀r,r<n->0<onC (cR n hm T) (n+r+1):=λr g=>by have:=qJ4 (c:=cR n hm T) (n+r+1);have:onC (cR n hm T) (n+r+1)≠0:=λe=>h ⟨r,g,e⟩;lia
 have a:∀r,r<=n->onC (cR n hm T) (n+r)=onC (cR n hm T) n+(sumC (cR n hm T) n r:Int)-(r:Int):=λr=>by
  induction r with
  |zero=>intro _;show _=_+((0:Nat):Int)-_;rw[Nat.add_zero];lia|succ r l=>
   intro g;have d:=pos r ⋯;have x:=l ⋯;have e:onC (cR n hm T) (n+r+1)=if onC (cR n hm T) (n+r)+(cR n hm T (n+r):Int)-1>0 then onC (cR n hm T) (n+r)+(cR n hm T (n+r):Int)-1 else 0:=rfl
   show onC (cR n hm T) (n+r+1)=_+((sumC (cR n hm T) n r+cR n hm T (n+r):Nat):Int)-_;rw[e] at d ⊢;split at d;{rw[if_pos (by assumption)];lia};lia
 have sa:=qaJ7 (T:=T) i j;have b:∀m,sumC (cR n hm T) n m=sumC (cR n hm T) 0 m:=λm=>qat7 (q:=0) m;have e2:=a n (zA3 _);have o:=pos (n-1) ⋯;rw[show n+(n-1)+1=n+n by lia] at o;rw[b] at e2;rcases qaC9 (c:=cR n hm T) n with y|⟨q,m,p,s,d⟩;{lia};have t:=a q ⋯;rw[b] at t;have u:=qac0 (c:=cR n hm T) (q:=0) (m:=q) m;rw[zAo,p] at u;by_cases f:q=0;{subst f;have:sumC (cR n hm T) 0 0=0:=rfl;lia};have v:=pos (q-1) ⋯;rw[show n+(q-1)+1=n+q by lia] at v;lia
theorem qJ9(e:r<n)(a:∀k,hm k<n)(d:onC (cR n hm T) (n+r+1)=0):∀q,¬Crowd n false (λk=>Ac n ((r+1)%n) (hm k)) T q:=by
 rintro q ⟨f,c⟩;have b:(r+1)%n<n:=Nat.mod_lt _ ⋯;rw[if_neg ∅] at c;have g:=qaC8 (c:=cR n hm T) (q:=r+1+q) (n-q);rw[show r+1+q+(n-q)=n+r+1 by lia,d,(qD5 b rfl a (n-q) ⋯),show q+(n-q)=n by lia] at g;have e2:Hl (λk=>Ac n ((r+1)%n) (hm k)) T q n=(T.filter λk=>decide (q<=Ac n ((r+1)%n) (hm k))).length:=by unfold Hl;congr 2;exact funext λk=>zCi.mpr (by have:=qj6 (a k) b;dsimp only;lia)
 grind
theorem Kept.turn(c:b<n)(p:∀k,hm k<n)(K:Kept n false (λk=>Ac n b (hm k)) g S):Kept n true hm (λi=>g (Ac n b i)) S:=by
 have f:∀i,i<n->Ac n b i<n:=λi a=>qj6 a c;have l:∀i x,i<n->g (Ac n b i)=some x->Ac n b (hm x)+Ac n (hm x) i=Ac n b i:=λi x a d=>Gp c (p x) a (K.ln rfl _ x (f i a) d);refine⟨⟨p,λi j x a m d u=>qi9 c a m (K.o.inj _ _ x (f i a) (f j m) d u),λi x a d v=>?_⟩,⟨b,c,λx w=>?_⟩,⟨K.h.1,λx=>⟨λA=>?_,λ⟨i,a,d⟩=>(K.h.2 x).mpr ⟨_,f i a,d⟩⟩⟩,λh=>nomatch h⟩
 .have f1:=l i x a d;have q:=K.ln rfl _ x (f i a) d;have B:Ac n (Ac n b (hm x)) (Ac n b i)=Ac n (hm x) i:=by unfold Ac at q ⊢;rw[if_pos q];unfold Ac at f1;lia
  obtain⟨y,r,s⟩:=K.o.ord _ x (f i a) d (by rw[B];exact v);have C:prev n (Ac n b i)=Ac n b (prev n i):=by rw[ql1 c a ⋯];rcases por n (Ac n b i) with h|h<;>lia
  rw[C] at r s;have t:=qm1 a;have f2:=l (prev n i) y t r;have D:=K.ln rfl _ y (f _ t) r;have f3:Ac n b (hm x)+Ac n (hm x) (prev n i)=Ac n b (prev n i):=Gp c (p x) t (by rw[ql1 c a ⋯];lia);refine⟨y,r,?_⟩;have E:Ac n (Ac n b (hm y)) (Ac n b (prev n i))=Ac n (hm y) (prev n i):=by have:Ac n (Ac n b (hm y)) (Ac n b (prev n i))=Ac n b (prev n i)-Ac n b (hm y):=if_pos D;lia
  have F:Ac n (Ac n b (hm x)) (Ac n b (prev n i))=Ac n (hm x) (prev n i):=by have:Ac n (Ac n b (hm x)) (Ac n b (prev n i))=Ac n b (prev n i)-Ac n b (hm x):=if_pos ⋯;lia
  unfold ahead at s ⊢;rwa[E,F] at s
 {have q:=K.ln rfl _ x (f b c) w;have z:Ac n b b=0:=(qg5 c c).mpr rfl;rw[z] at q;exact(qg5 c (p x)).mp ⋯};obtain⟨j,m,e⟩:=(K.h.2 x).mp A;exact⟨rot n b j,qaK8 c m,by show g (Ac n b (rot n b j))=_;rw[qS1 c m];exact e⟩
end
theorem Kept.of_perm(K:Kept n wr hm g S)(p:S.Perm T):Kept n wr hm g T:=⟨K.1,K.2,⟨p.nodup_iff.mp K.h.1,λk=>p.mem_iff.symm.trans (K.h.2 k)⟩,K.4⟩
theorem Kl:Ac n 0 i=i:=if_pos (zBg _)
theorem qaD9(b:a<n)(c:s<=n):((a:Int)-(s:Int))%(n:Int)=(Ac n (s%n) a:Nat):=by by_cases e:s=n;{subst e;rw[Nat.mod_self,Kl,Int.sub_emod_right];exact zBm ⋯ ⋯};rw[zCh (show s<n by lia)];unfold Ac;split;{rw[zBm ⋯ ⋯];lia};rw[<-Int.add_emod_right,zBm ⋯ ⋯];lia
end Row
namespace My
open PySem L2
noncomputable def bagL(x y z:Int)(L:γ):HO:=.l [.int x,.int y,.int z,.ref L]
structure BagAt(H:Hp)(p:γ)(x y z:Int)(L:γ)(ns:List Int):Prop where
 at_:H p=some (bagL x y z L)
 li:H L=some (.l (ns.map V.int))
 x0:0<=x
 y0:0<=y
 y1:y<2147483647
 z0:0<=z
 nn:∀n∈ns,0<=n
def Bag(H:Hp)(p L:γ):Prop:=∃x y z ns,BagAt H p x y z L ns
theorem qbd9{ns:List Int}:HO.l (ns.map V.int)≠bagL x y z L:=by
 intro e;have e:ns.map V.int=[.int x,.int y,.int z,.ref L]:=by injection e
 have e:=congrArg (·[3]?) e;rw[zBd] at e;cases h:ns[3]? <;> rw[h] at e<;>cases e
theorem BagAt.ne{H:Hp}{p L:γ}{x y z:Int}{ns:List Int}(B:BagAt H p x y z L ns):L≠p:=ne_of B.li B.at_ qbd9
def qaW8(K:Qe):Sp:=λvs H Q _=>∃(l:γ)(ns:List Int),vs=[.ref l]/\SqL K H l (ns.map V.int)/\ns.length<=63/\∀p L H',H p=none->H L=none->Same H H'->Bag H' p L->Q (.ref p) H'
def Km(K:Qe):Sp:=λvs H Q _=>∃(l:γ)(ns:List Int),vs=[.ref l]/\SqL K H l (ns.map V.int)/\ns.length<=63/\∀H',Q (.bl true) H'
abbrev Pr:=List (Int×Int)
def Ap(n:Int):Prop:=0<=n/\n<=1000000000000000000
structure L7(ps:Pr):Prop where
 len:ps.length<=64
 nd:(ps.map (·.1)).Nodup
 nums:∀p∈ps,Ap p.1/\Ap p.2
noncomputable def qd2(n:Int)(ps:Pr)(k:Int):Int:=((ps.lookup k).getD k)%n
def Aq(n:Int)(wr:Bool)(ps:Pr)(k r:Int):Option Int:=if wr then some ((r-qd2 n ps k)%n) else if 0<=r-qd2 n ps k then some (r-qd2 n ps k) else none
def qh4(n:Int)(wr:Bool)(ps:Pr)(r a other:Int):Bool:=match Aq n wr ps a r,Aq n wr ps other r with|none,_=>false|some _,none=>true|some x,some y=>decide (y<x)||(decide (x=y)&&decide (a<other))
theorem qah6(h:1<=n)(ps:Pr)(k:Int):0<=qd2 n ps k/\qd2 n ps k<n:=⟨Int.emod_nonneg _ ⋯,zCl _ ⋯⟩
theorem qah3(k:Int)(ks:List Int):inV (.int k) (ks.map V.int)=decide (k∈ks):=by unfold inV;rw[Px,Bool.eq_iff_iff,zC3,zCc];constructor;{rintro⟨x,a,e⟩;rw[<-zBl.mp (e)];exact a};intro h;exact⟨k,h,zB1 k⟩
end My
namespace My
open PySem L2
open Row
variable{n:Int}{ps:Pr}{r:Nat}
def Rb(n:Int)(ps:Pr)(k:Int):Nat:=(qd2 n ps k).toNat
theorem G0(h:1<=n)(k:Int):Rb n ps k<n.toNat:=by have:=qah6 h ps k;unfold Rb;lia
theorem qC6(h:1<=n)(k:Int):((Rb n ps k:Nat):Int)=qd2 n ps k:=by have:=qah6 h ps k;unfold Rb;lia
theorem qas1(a:1<=n)(b:h<n.toNat)(c:r<n.toNat):((r:Int)-(h:Int))%n=(Ac n.toNat h r:Nat):=by
 rcases dor n.toNat h r with⟨h1,h2⟩|⟨h1,h2⟩;{rw[zBm ⋯ ⋯];lia};have e:((r:Int)-(h:Int))%n=((r:Int)-(h:Int)+n)%n:=by rw[Int.add_emod_right]
 rw[e,zBm ⋯ ⋯];grind
theorem qL5(a:1<=n)(c:r<n.toNat)(d:wr=false->Rb n ps k<=r):Aq n wr ps k (r:Int)=some ((Ac n.toNat (Rb n ps k) r:Nat):Int):=by have b:=qC6 (ps:=ps) a k;unfold Aq;cases wr with|true=>rw[if_pos rfl,<-b,qas1 a (G0 a k) c]|false=>have:=d rfl;rw[if_neg ∅,if_pos ⋯,<-b];have:=dor n.toNat (Rb n ps k) r;grind
theorem qar2{k:Int}(a:1<=n)(b:r<Rb n ps k):Aq n false ps k (r:Int)=none:=by have c:=qC6 (ps:=ps) a k;unfold Aq;grind
theorem qH9(a:1<=n)(b:r<n.toNat)(c:wr=false->Rb n ps x<=r)(d:wr=false->Rb n ps y<=r):qh4 n wr ps (r:Int) x y=true↔ahead n.toNat (Rb n ps) r x y:=by unfold qh4 ahead;rw[qL5 a b c,qL5 a b d];grind
theorem qaD6(a:1<=n)(b:r<n.toNat):((r:Int)+1)%n=(Row.next n.toNat r:Nat):=by rcases nor n.toNat r with⟨h,e⟩|⟨h,e⟩;{rw[e,show ((r:Int)+1)=n by lia];simp};rw[e,zBm ⋯ ⋯];rfl
end My
namespace LV
open PySem L2
variable{Ao:List γ}{N:List Str}{P:List V'->Prop}{Q:VK}{base:Heap}{cd:Nx}{cm z:Bool}{i j n:Nat}{kvs:List (Key×V)}{lo:Int}{mg:Str->Option V'}{op:CmpOp}{p2:Pos}{v w:V}{vs:List V}{α:Type}{a':St}
inductive D where
 |non|bl (b:Bool)|int (i:Int)|str (x:Str)|ty (n:String)|adr (a:γ)
 |q (ds:List D)|l (z:Bool) (ds:List D)|dct (z:Bool) (kvs:List (Key×D))|ins (z:Bool) (C:γ) (fs:List (Str×D))
 |scr (ns:List Int)
 |exn (C:γ) (fs:List (Str×D))
 |hole (v:V)|u
mutual
def D.imm:D->Bool|.q ds=>D.imms ds|.l z _=>z|.dct z _=>z|.ins z _ _=>z|_=>true
def D.imms:List D->Bool|[]=>true|d::r=>d.imm&&D.imms r
end
mutual
def D.fz:D->D|.q ds=>.q (D.fzs ds)|.l _ ds=>.l true (D.fzs ds)|.dct _ kvs=>.dct true (D.fzk kvs)|.ins _ C fs=>.ins true C (D.fzf fs)|.exn C fs=>.exn C (D.fzf fs)|.non=>.non | .bl b=>.bl b | .int i=>.int i | .str x=>.str x | .ty n=>.ty n | .adr a=>.adr a | .scr ns=>.scr ns | .hole v=>.hole v | .u=>.u
def D.fzs:List D->List D|[]=>[]|d::r=>d.fz::D.fzs r
def D.fzk:List (Key×D)->List (Key×D)|[]=>[]|(k,d)::r=>(k,d.fz)::D.fzk r
def D.fzf:List (Str×D)->List (Str×D)|[]=>[]|(k,d)::r=>(k,d.fz)::D.fzf r
end
mutual
inductive Rj(F:γ->Prop)(H:Hp):V->D->List γ->Prop
 |non:Rj F H .non .non []
 |bl (b:Bool):Rj F H (.bl b) (.bl b) []
 |int (i:Int):Rj F H (.int i) (.int i) []
 |str (x:Str):Rj F H (.str x) (.str x) []
 |ty (n:String):Rj F H (.ty n) (.ty n) []
 |adr (a:γ):Rj F H (.ref a) (.adr a) []
 |q {a:γ} {vs:List V} {ds:List D} {A:List γ} (h:H a=some (.q vs)) (r:Rc F H vs ds A):Rj F H (.ref a) (.q ds) A
 |l {a:γ} {vs:List V} {ds:List D} {A:List γ} (h:H a=some (.l vs)) (r:Rc F H vs ds A):Rj F H (.ref a) (.l false ds) (a::A)
 |lstZ {a:γ} {vs:List V} {ds:List D} (h:H a=some (.l vs)) (f:F a) (r:Rc F H vs ds []):Rj F H (.ref a) (.l true ds) []
 |dct {a:γ} {kvs:List (Key×V)} {kds:List (Key×D)} {A:List γ} (h:H a=some (.dK kvs)) (e:kvs.map (·.1)=kds.map (·.1)) (r:Rc F H (kvs.map (·.2)) (kds.map (·.2)) A):Rj F H (.ref a) (.dct false kds) (a::A)
 |dctZ {a:γ} {kvs:List (Key×V)} {kds:List (Key×D)} (h:H a=some (.dK kvs)) (f:F a) (e:kvs.map (·.1)=kds.map (·.1)) (r:Rc F H (kvs.map (·.2)) (kds.map (·.2)) []):Rj F H (.ref a) (.dct true kds) []
 |ins {a C dx:γ} {fvs:List (Str×V)} {fds:List (Str×D)} {A:List γ} (h:H a=some (.ins C dx fvs)) (e:fvs.map (·.1)=fds.map (·.1)) (r:Rc F H (fvs.map (·.2)) (fds.map (·.2)) A):Rj F H (.ref a) (.ins false C fds) (a::A)
 |insZ {a C dx:γ} {fvs:List (Str×V)} {fds:List (Str×D)} (h:H a=some (.ins C dx fvs)) (f:F a) (e:fvs.map (·.1)=fds.map (·.1)) (r:Rc F H (fvs.map (·.2)) (fds.map (·.2)) []):Rj F H (.ref a) (.ins true C fds) []
 |scr {a:γ} {o:Obj} {ns:List Int} (h:H a=some (.frz o (.l (ns.map V.int)))):Rj F H (.ref a) (.scr ns) []
 |exn {a C dx:γ} {fvs:List (Str×V)} {fds:List (Str×D)} (h:H a=some (Be a C (some dx) false)) (g:H dx=some (XD dx fvs)) (e:fvs.map (·.1)=fds.map (·.1)) (r:Rc F H (fvs.map (·.2)) (fds.map (·.2)) []):Rj F H (.ref a) (.exn C fds) []
 |hole (v:V):Rj F H v (.hole v) []
 |u (v:V):Rj F H v .u []
inductive Rc(F:γ->Prop)(H:Hp):List V->List D->List γ->Prop
 |nil:Rc F H [] [] []
 |cons {v:V} {d:D} {A:List γ} {vs:List V} {ds:List D} {B:List γ} (h:Rj F H v d A) (t:Rc F H vs ds B):Rc F H (v::vs) (d::ds) (A++B)
end
noncomputable def G1:HO->Bool|.l _=>true|.dK _=>true|.ins _ _ _=>true|_=>false
section
variable{F F':γ->Prop}{H H':Hp}
def Cel(H:Hp)(A:List γ):Prop:=∀b∈A,∃o,H b=some o/\G1 o=true
theorem Cel.cons(e:H a=some o)(m:G1 o=true)(h:Cel H A):Cel H (a::A):=λb c=>(zAl.mp c).elim (λq=>q ▸ ⟨_,e,m⟩) (h b)
theorem Cel.app(h:Cel H A)(g:Cel H B):Cel H (A++B):=λb a=>(zAd.mp a).elim (h b) (g b)
theorem Rj.cells{v:V}{d:D}{A:List γ}(r:Rj F H v d A):Cel H A:=by induction r using Rj.rec with|q e r i=>exact i|l e r i=>exact Cel.cons e rfl i|dct e _ r i=>exact Cel.cons e rfl i|ins e _ r i=>exact Cel.cons e rfl i|cons _ _ i j=>exact Cel.app i j|_=>nofun
theorem Rc.cells{vs:List V}{ds:List D}{A:List γ}(r:Rc F H vs ds A):Cel H A:=by induction r using Rc.rec (motive_1:=λ_ _ _ _=>True) with|cons h _ i j=>exact Cel.app h.cells j|nil=>nofun|_=>trivial
structure Kp(F:γ->Prop)(H:Hp)(W F':γ->Prop)(H':Hp):Prop where
 fr:∀b o,H b=some o->¬W b->H' b=some o
 wm:∀b,W b->∃o,H b=some o/\G1 o=true
 wf:∀b,W b->¬F b
 mF:∀b,F b->F' b
theorem Kp.q(k:Kp F H W F' H'){vs:List V}(h:H a=some (.q vs)):H' a=some (.q vs):=by refine k.fr a _ h λw=>?_;obtain⟨o,e,m⟩:=k.wm a w;rw[h] at e;cases e;cases m
theorem Kp.imm(k:Kp F H W F' H')(h:H a=some o)(n:G1 o=false):H' a=some o:=by refine k.fr a _ h λw=>?_;obtain⟨o,e,m⟩:=k.wm a w;grind
theorem Kp.frz(k:Kp F H W F' H')(h:H a=some (.frz o u)):H' a=some (.frz o u):=by refine k.fr a _ h λw=>?_;obtain⟨o,e,m⟩:=k.wm a w;rw[h] at e;cases e;cases m
theorem Rj.keep{W:γ->Prop}(k:Kp F H W F' H'){v:V}{d:D}{A:List γ}(r:Rj F H v d A):(∀b∈A,¬W b)->Rj F' H' v d A:=by induction r using Rj.rec (motive_2:=λa c A _=>(∀b∈A,¬W b)->Rc F' H' a c A) with|q e r i=>exact λh=>.q (k.q e) (i h)|l e r i=>exact λh=>.l (k.fr _ _ e (zAz.mp h).1) (i (zAz.mp h).2)|lstZ e f r i=>exact λh=>.lstZ (k.fr _ _ e λw=>k.wf _ w f) (k.mF _ f) (i h)|dct e q r i=>exact λh=>.dct (k.fr _ _ e (zAz.mp h).1) q (i (zAz.mp h).2)|dctZ e f q r i=>exact λh=>.dctZ (k.fr _ _ e λw=>k.wf _ w f) (k.mF _ f) q (i h)|ins e q r i=>exact λh=>.ins (k.fr _ _ e (zAz.mp h).1) q (i (zAz.mp h).2)|insZ e f q r i=>exact λh=>.insZ (k.fr _ _ e λw=>k.wf _ w f) (k.mF _ f) q (i h)|scr e=>exact λ_=>.scr (k.frz e)|exn e g q r i=>exact λh=>.exn (k.imm e rfl) (k.imm g rfl) q (i h)|cons _ _ i j h=>exact Rc.cons (i (zBq.mp h).1) (j (zBq.mp h).2)|nil=>constructor|_=>intro;constructor
theorem Rc.keep{W:γ->Prop}(k:Kp F H W F' H'){vs:List V}{ds:List D}{A:List γ}(r:Rc F H vs ds A):(∀b∈A,¬W b)->Rc F' H' vs ds A:=by induction r using Rc.rec (motive_1:=λ_ _ _ _=>True) with|nil=>exact λ_=>Rc.nil|cons r _ i j=>exact λh=>Rc.cons (r.keep k (zBq.mp h).1) (j (zBq.mp h).2)|_=>trivial
theorem Kp.same(s:Same H H'):Kp F H (λ_=>False) F H':=⟨λb o e _=>s b o e,λ_ w=>w.elim,λ_ w=>w.elim,λ_ f=>f⟩
theorem Rj.same(r:Rj F H v d A)(s:Same H H'):Rj F H' v d A:=r.keep (Kp.same s) λ_ _=>id
theorem Rc.same(r:Rc F H vs ds A)(s:Same H H'):Rc F H' vs ds A:=r.keep (Kp.same s) λ_ _=>id
theorem Kp.more(m:∀b,F b->F' b):Kp F H (λ_=>False) F' H:=⟨λb o e _=>e,λ_ w=>w.elim,λ_ w=>w.elim,m⟩
mutual
theorem Rj.imm{v:V}{d:D}{A:List γ}(r:Rj F H v d A)(h:d.imm=true):A=[]:=by cases r with|q e r=>exact r.imms h|l=>cases h|dct=>cases h|ins=>cases h|_=>rfl
theorem Rc.imms{vs:List V}{ds:List D}{A:List γ}(r:Rc F H vs ds A)(h:D.imms ds=true):A=[]:=by cases r with|nil=>rfl|cons r t=>have h:=zAh.mp h;rw[r.imm h.1,t.imms h.2];rfl
end
theorem qW0(kds:List (Key×D)):(D.fzk kds).map (·.1)=kds.map (·.1)/\(D.fzk kds).map (·.2)=D.fzs (kds.map (·.2)):=by induction kds with|nil=>exact⟨rfl,rfl⟩|cons p r a=>obtain⟨k,d⟩:=p;simp only[D.fzk,D.fzs,zAw,a.1,a.2,and_self]
theorem qC9(kds:List (Str×D)):(D.fzf kds).map (·.1)=kds.map (·.1)/\(D.fzf kds).map (·.2)=D.fzs (kds.map (·.2)):=by induction kds with|nil=>exact⟨rfl,rfl⟩|cons p r a=>obtain⟨k,d⟩:=p;simp only[D.fzf,D.fzs,zAw,a.1,a.2,and_self]
theorem Rj.fz{v:V}{d:D}{A:List γ}(r:Rj F H v d A)(m:∀b,F b->F' b):(∀b∈A,F' b)->Rj F' H v d.fz []:=by induction r using Rj.rec (motive_2:=λa c A _=>(∀b∈A,F' b)->Rc F' H a (D.fzs c) []) with|q e r i=>exact λh=>.q e (i h)|l e r i=>exact λh=>.lstZ e (zAz.mp h).1 (i (zAz.mp h).2)|lstZ e f r i=>exact λh=>.lstZ e (m _ f) (i h)|dct e q r i=>exact λh=>.dctZ e (zAz.mp h).1 (q.trans (qW0 _).1.symm) ((qW0 _).2 ▸ i (zAz.mp h).2)|dctZ e f q r i=>exact λh=>.dctZ e (m _ f) (q.trans (qW0 _).1.symm) ((qW0 _).2 ▸ i h)|ins e q r i=>exact λh=>.insZ e (zAz.mp h).1 (q.trans (qC9 _).1.symm) ((qC9 _).2 ▸ i (zAz.mp h).2)|insZ e f q r i=>exact λh=>.insZ e (m _ f) (q.trans (qC9 _).1.symm) ((qC9 _).2 ▸ i h)|scr e=>exact λ_=>.scr e|exn e g q r i=>exact λh=>.exn e g (q.trans (qC9 _).1.symm) ((qC9 _).2 ▸ i h)|nil=>exact Rc.nil|cons _ _ i j h=>exact Rc.cons (i (zBq.mp h).1) (j (zBq.mp h).2)|_=>intro;constructor
end
theorem ec:∀{us:List V'},us.length=n+1->∃a vs,us=a::vs/\vs.length=n|a::vs,h=>⟨a,vs,rfl,Nat.succ.inj h⟩
theorem ec0(h:P [])(us:List V')(e:us.length=0):P us:=List.length_eq_zero_iff.mp e ▸ h
theorem ec1(h:∀x us,us.length=n->P (x::us))(us:List V')(e:us.length=n+1):P us:=by obtain⟨x,a,rfl,b⟩:=ec e;exact h x a b
theorem ec2(h:∀us,us.length=n->P us)(us:List V')(e:us.length+1=n+1):P us:=h us (Nat.succ.inj e)
inductive Locs(F:γ->Prop)(H:Hp):List (Option V)->List D->List γ->Prop
 |nil:Locs F H [] [] []
 |no {a:List (Option V)} {ds:List D} {A:List γ} (t:Locs F H a ds A):Locs F H (none::a) (.u::ds) A
 |so {v:V} {d:D} {B:List γ} {a:List (Option V)} {ds:List D} {A:List γ} (h:Rj F H v d B) (t:Locs F H a ds A):Locs F H (some v::a) (d::ds) (B++A)
section
variable{F F':γ->Prop}{H H':Hp}
theorem Locs.cells{n:List (Option V)}(r:Locs F H n ds A):∀b∈A,∃o,H b=some o/\G1 o=true:=by induction r with|nil=>intro b h;cases h|no t c=>exact c|so h t c=>intro b a;rcases zAd.mp a with a|a;{exact h.cells b a};exact c b a
theorem Locs.keep(k:Kp F H W F' H'){n:List (Option V)}(r:Locs F H n ds A):(∀b∈A,¬W b)->Locs F' H' n ds A:=by induction r with|nil=>exact λ_=>.nil|no t a=>exact λh=>.no (a h)|so h t a=>exact λq=>.so (h.keep k λb c=>q b (zAd.mpr (.inl c))) (a λb c=>q b (zAd.mpr (.inr c)))
theorem Locs.same{n:List (Option V)}(r:Locs F H n ds A)(s:Same H H'):Locs F H' n ds A:=r.keep (Kp.same s) λ_ _=>id
theorem Locs.len{n:List (Option V)}(r:Locs F H n ds A):n.length=ds.length:=by induction r with|nil=>rfl|no t a=>simp[a]|so h t a=>simp[a]
theorem Locs.append{n:List (Option V)}(r:Locs F H n ds A)(t:Locs F H p es B):Locs F H (n++p) (ds++es) (A++B):=by induction r with|nil=>exact t|no _ a=>exact .no a|so h _ a=>rw[zAs];exact .so h a
inductive Kn(F:γ->Prop)(H:Hp):Option V->D->List γ->Prop
 |no:Kn F H none .u []
 |so {v:V} {d:D} {B:List γ} (h:Rj F H v d B):Kn F H (some v) d B
theorem Locs.cons{n:List (Option V)}(h:Kn F H o d B)(t:Locs F H n ds A):Locs F H (o::n) (d::ds) (B++A):=by cases h with|no=>exact .no t|so h=>exact .so h t
theorem Locs.split:∀{ds:List D}{n:List (Option V)}{A:List γ}{i:Nat}{d:D},Locs F H n ds A->ds[i]?=some d->∃σ1 o σ2 ds1 a A1 B A2,n=σ1++o::σ2/\ds=ds1++d::a/\σ1.length=i/\ds1.length=i/\A=A1++(B++A2)/\Locs F H σ1 ds1 A1/\Kn F H o d B/\Locs F H σ2 a A2:=by
 intro ds;induction ds with
 |nil=>intro n A i d _ h;simp at h|cons e r m=>
  intro n A i d L h;cases i with
  |zero=>
   have:e=d:=by simpa using h
   subst this;cases L with|no t=>exact⟨[],none,_,[],_,[],[],_,rfl,rfl,rfl,rfl,rfl,.nil,.no,t⟩|so q t=>exact⟨[],some _,_,[],_,[],_,_,rfl,rfl,rfl,rfl,rfl,.nil,.so q,t⟩
  |succ i=>
   have h:r[i]?=some d:=by simpa using h
   cases L with|no t=>obtain⟨σ1,o,σ2,ds1,a,A1,B,A2,b,e2,c,f,g,j,k,l⟩:=m t h;exact⟨none::σ1,o,σ2,_::ds1,a,A1,B,A2,by rw[b];rfl,by rw[e2];rfl,by simp[c],by simp[f],g,.no j,k,l⟩|@so v _ B0 _ _ A0 q t=>obtain⟨σ1,o,σ2,ds1,a,A1,B,A2,b,e2,c,f,g,j,k,l⟩:=m t h;exact⟨some v::σ1,o,σ2,_::ds1,a,B0++A1,B,A2,by rw[b];rfl,by rw[e2];rfl,by simp[c],by simp[f],by rw[g,zAs],.so q j,k,l⟩
end
theorem qp9{x:α}(h:a.length=i):(a++x::b).set i y=a++y::b:=by subst h;rw[O4 _ _ (zA3 _),Nat.sub_self];rfl
theorem qC8{x:α}(h:a.length=i):(a++x::b)[i]?=some x:=by subst h;simp
structure Ok(F:γ->Prop)(H:Hp)(A:List γ):Prop where
 sep:∀b,A.count b<=1
 fro:∀b,F b->A.count b=0
 ex:∀b,F b->∃o,H b=some o
structure Rl(F:γ->Prop)(H:Hp)(A:List γ)(F':γ->Prop)(H':Hp)(A':List γ):Prop where
 fr:∀b o,H b=some o->A.count b=0->H' b=some o
 sub:∀b o,H b=some o->A.count b=0->A'.count b=0
 mono:∀b,F b->F' b
 fnew:∀b o,H b=some o->A.count b=0->F' b->F b
section
variable{F j k:γ->Prop}{H g l:Hp}{A i A2 T:List γ}
theorem Rl.refl:Rl F H A F H A:=⟨λ_ _ e _=>e,λ_ _ _ e=>e,λ_ f=>f,λ_ _ _ _ f=>f⟩
theorem Rl.trans(s:Rl F H A j g i)(t:Rl j g i k l A2):Rl F H A k l A2:=⟨λb o e q=>t.fr b o (s.fr b o e q) (s.sub b o e q),λb o e q=>t.sub b o (s.fr b o e q) (s.sub b o e q),λb f=>t.mono b (s.mono b f),λb o e q f=>s.fnew b o e q (t.fnew b o (s.fr b o e q) (s.sub b o e q) f)⟩
theorem Rl.same(s:Same H g):Rl F H A F g A:=⟨λb o e _=>s b o e,λ_ _ _ e=>e,λ_ f=>f,λ_ _ _ _ f=>f⟩
theorem qb6{A:List γ}:b∈A↔A.count b≠0:=by grind
theorem Rl.kp(s:Rl F H A j g i)(o:Ok F H A)(c:∀b∈A,∃o,H b=some o/\G1 o=true):Kp F H (λb=>A.count b≠0) j g:=⟨λb u e w=>s.fr b u e ⋯,λb w=>c b (qb6.mpr w),λb w f=>w (o.fro b f),s.mono⟩
theorem Ok.left(o:Ok F H (T++A)):Ok F H T:=⟨λb=>by have:=o.sep b;rw[zA0] at this;lia,λb f=>by have:=o.fro b f;rw[zA0] at this;lia,o.ex⟩
theorem Ok.right(o:Ok F H (T++A)):Ok F H A:=⟨λb=>by have:=o.sep b;rw[zA0] at this;lia,λb f=>by have:=o.fro b f;rw[zA0] at this;lia,o.ex⟩
theorem Ok.count(o:Ok F H A)(h:∀b,i.count b<=A.count b):Ok F H i:=⟨λb=>zA7 (h b) (o.sep b),λb f=>by have:=o.fro b f;have:=h b;lia,o.ex⟩
theorem Rl.frame(s:Rl F H A j g i)(o:Ok F H (T++A))(c:∀b∈T,∃o,H b=some o/\G1 o=true)(o1:Ok j g i):Ok j g (T++i)/\Rl F H (T++A) j g (T++i):=by
 have a:∀b,T.count b≠0->∃u,H b=some u/\A.count b=0:=λb h=>by obtain⟨u,e,_⟩:=c b (qb6.mpr h);have:=o.sep b;grind
 refine⟨⟨λb=>?_,λb f=>?_,o1.ex⟩,λb u e q=>?_,λb u e q=>?_,s.mono,λb u e q f=>?_⟩;{rw[zA0];by_cases h:T.count b=0;{have:=o1.sep b;lia};obtain⟨u,e,q⟩:=a b h;have d:=s.sub b u e q;have:=o.sep b;grind};{rw[zA0,o1.fro b f];by_cases h:T.count b=0;{lia};obtain⟨u,e,q⟩:=a b h;have:=o.fro b (s.fnew b u e q f);grind};{rw[zA0] at q;exact s.fr b u e ⋯};{rw[zA0] at q ⊢;have:=s.sub b u e ⋯;lia};rw[zA0] at q;exact s.fnew b u e ⋯ f
theorem Rl.count(s:Rl F H A j g i)(h:∀b,A2.count b<=i.count b):Rl F H A j g A2:=⟨s.fr,λb o e q=>by have:=s.sub b o e q;have:=h b;lia,s.mono,s.fnew⟩
theorem Rl.pre(s:Rl F H A j g i)(h:∀b,A.count b=A2.count b):Rl F H A2 j g i:=⟨λb o e q=>s.fr b o e (by rw[h];exact q),λb o e q=>s.sub b o e (by rw[h];exact q),s.mono,λb o e q f=>s.fnew b o e (by rw[h];exact q) f⟩
end
structure New(H:Hp)(B:List γ):Prop where
 one:∀b,B.count b<=1
 new:∀b o,H b=some o->B.count b=0
section
variable{F:γ->Prop}{H H':Hp}{A B:List γ}
theorem New.nil:New H []:=⟨λb=>by simp,λb o _=>by simp⟩
theorem New.ok(n:New H B)(o:Ok F H A)(c:∀b∈A,∃o,H b=some o/\G1 o=true)(s:Same H H'):Ok F H' (B++A):=by refine⟨λb=>?_,λb f=>?_,λb f=>?_⟩;{rw[zA0];have a:=n.one b;have d:=o.sep b;by_cases h:A.count b=0;{lia};obtain⟨u,e,_⟩:=c b (qb6.mpr h);have:=n.new b u e;lia};{rw[zA0,o.fro b f];obtain⟨u,e⟩:=o.ex b f;rw[n.new b u e]};obtain⟨u,e⟩:=o.ex b f;exact⟨u,s b u e⟩
theorem New.append(n:New H B)(s:Same H H1)(c:∀b∈B,∃o,H1 b=some o/\G1 o=true)(a:New H1 B1):New H (B++B1):=by refine⟨λb=>?_,λb o e=>?_⟩;{rw[zA0];have d:=n.one b;have f:=a.one b;by_cases h:B.count b=0;{lia};obtain⟨u,e,_⟩:=c b (qb6.mpr h);have:=a.new b u e;lia};rw[zA0,n.new b o e,a.new b o (s b o e)]
theorem Ok.same(o:Ok F H A)(s:Same H H'):Ok F H' A:=⟨o.sep,o.fro,λb f=>let ⟨u,e⟩:=o.ex b f;⟨u,s b u e⟩⟩
theorem New.stp(n:New H B)(s:Same H H'):Rl F H A F H' (B++A):=⟨λb o e _=>s b o e,λb o e q=>by rw[zA0,n.new b o e,q],λ_ f=>f,λ_ _ _ _ f=>f⟩
end
structure Exn where
 C:γ
 fs:List (Str×D)
def RepX(F:γ->Prop)(H:Hp)(e:γ)(x:Exn):Prop:=∃b,H e=some (Be e x.C b false)/\(x.fs=[]∨∃dx a,b=some dx/\H dx=some (XD dx a)/\a.map (·.1)=x.fs.map (·.1)/\Rc F H (a.map (·.2)) (x.fs.map (·.2)) [])
abbrev Ds:=List D
abbrev DK:=D->Ds->Prop
abbrev XKd:=Exn->Ds->Prop
abbrev VT:=Ds->DK->XKd->Prop
abbrev VTT:=Ds->(Bool->Ds->Prop)->XKd->Prop
abbrev VTA:=Ds->(Ds->Ds->Prop)->XKd->Prop
abbrev FV:=Ds->Option D
structure Vc where
 E:St->XK
 W:Nat->Bool
 av:List (Option V)
 gv:List (Option V)
structure Rn(c:Vc)(F:γ->Prop)(H:Hp)(a:St)(ds:Ds)(A:List γ):Prop where
 loc:Locs F H (a++c.gv) ds A
 ok:Ok F H A
 len:c.av.length=(a++c.gv).length
 ag:∀i,c.W i=true->(a++c.gv)[i]?=c.av[i]?
theorem Rn.same(S:Rn c F H a ds A)(s:Same H H'):Rn c F H' a ds A:=⟨S.loc.same s,S.ok.same s,S.len,S.ag⟩
def Xc(c:Vc)(xe:XKd)(F:γ->Prop)(H:Hp)(A:List γ):Prop:=∀x a b' e H' F' A',xe x a->RepX F' H' e x->Rn c F' H' b' a A'->Rl F H A F' H' A'->c.E b' (.ref e) none H'
theorem Xc.step(x:Xc c xe F H A)(s:Rl F H A F1 H1 A1):Xc c xe F1 H1 A1:=λy a b' e H' F' A' h r S t=>x y a b' e H' F' A' h r S (s.trans t)
def kE(c:Vc)(b:St)(F:γ->Prop)(H:Hp)(A:List γ)(Q:VK):DK:=λd a=>∀v H' F' T A',Rj F' H' v d T->Rn c F' H' b a A'->Ok F' H' (T++A')->Rl F H A F' H' (T++A')->Q v H'
inductive LiftE(c:Vc)(t:VT)(a:St)(H:Hp)(Q:VK):Prop
 |mk (F:γ->Prop) (ds:Ds) (A:List γ) (xe:XKd) (S:Rn c F H a ds A) (x:Xc c xe F H A) (q:t ds (kE c a F H A Q) xe):LiftE c t a H Q
def Bh(c:Vc)(t:VT):TE:=LiftE c t
inductive LiftV(c:Vc)(own:Bool)(f:FV)(a:St)(H:Hp)(Q:VK):Prop
 |mk (F:γ->Prop) (ds:Ds) (A:List γ) (d:D) (S:Rn c F H a ds A) (e:f ds=some d) (q:∀v H' B,Rj F H' v d B->Same H H'->(own=true->New H B)->Q v H'):LiftV c own f a H Q
def liftV(c:Vc)(own:Bool)(f:FV):TE:=LiftV c own f
inductive qaV4(c:Vc)(own:Bool)(f:Ds->Option Ds)(a:St)(H:Hp)(Q:List V->Hp->Prop):Prop
 |mk (F:γ->Prop) (ds:Ds) (A:List γ) (xs:Ds) (S:Rn c F H a ds A) (e:f ds=some xs) (q:∀vs H' B,Rc F H' vs xs B->Same H H'->(own=true->New H B)->Q vs H'):qaV4 c own f a H Q
def qaQ2(c:Vc)(own:Bool)(f:Ds->Option Ds):TA:=qaV4 c own f
inductive qaV6(c:Vc)(t:VTA)(a:St)(H:Hp)(Q:List V->Hp->Prop):Prop
 |mk (F:γ->Prop) (ds:Ds) (A:List γ) (xe:XKd) (S:Rn c F H a ds A) (x:Xc c xe F H A) (q:t ds (λxs ds'=>∀vs H' F' T A',Rc F' H' vs xs T->Rn c F' H' a ds' A'->Rl F H A F' H' A'->Q vs H') xe):qaV6 c t a H Q
def qaE3(c:Vc)(t:VTA):TA:=qaV6 c t
inductive LiftT(c:Vc)(t:VTT)(a:St)(H:Hp)(Q:Bool->Hp->Prop):Prop
 |mk (F:γ->Prop) (ds:Ds) (A:List γ) (xe:XKd) (S:Rn c F H a ds A) (x:Xc c xe F H A) (q:t ds (λb ds'=>∀H' F' A',Rn c F' H' a ds' A'->Rl F H A F' H' A'->Q b H') xe):LiftT c t a H Q
def Hc(c:Vc)(t:VTT):TT:=LiftT c t
structure VE(c:Vc)(X:Cx)(e:Nx)(t:VT):Prop where
 h:PE X e (Bh c t)
 m:∀ds (Q Q':DK) (xe xe':XKd),(∀d ds',Q d ds'->Q' d ds')->(∀x ds',xe x ds'->xe' x ds')->t ds Q xe->t ds Q' xe'
structure VV(c:Vc)(X:Cx)(e:Nx)(own:Bool)(f:FV):Prop where
 h:PE X e (liftV c own f)
structure VVs(c:Vc)(X:Cx)(es:List Nx)(own:Bool)(f:Ds->Option Ds):Prop where
 h:PA X es (qaQ2 c own f)
structure VOs(c:Vc)(X:Cx)(es:List Nx)(t:VTA):Prop where
 h:PA X es (qaE3 c t)
 m:∀ds (Q Q':Ds->Ds->Prop) (xe xe':XKd),(∀d ds',Q d ds'->Q' d ds')->(∀x ds',xe x ds'->xe' x ds')->t ds Q xe->t ds Q' xe'
structure VTe(c:Vc)(X:Cx)(e:Nx)(t:VTT):Prop where
 h:PT X e (Hc c t)
 m:∀ds (Q Q':Bool->Ds->Prop) (xe xe':XKd),(∀d ds',Q d ds'->Q' d ds')->(∀x ds',xe x ds'->xe' x ds')->t ds Q xe->t ds Q' xe'
theorem PE.mono(h:PE X e t)(i:∀a H Q,t' a H Q->t a H Q):PE X e t':=λFx s a H Q I q=>h Fx s a H Q I (i a H Q q)
theorem PT.mono(h:PT X e t)(i:∀a H Q,t' a H Q->t a H Q):PT X e t':=λFx s a H Q I q=>h Fx s a H Q I (i a H Q q)
theorem PW.mono(h:PW X e t)(i:∀a H Q,t' a H Q->t a H Q):PW X e t':=λw Fx s a H Q I q=>h w Fx s a H Q I (i a H Q q)
theorem PA.mono(h:PA X es t)(i:∀a H Q,t' a H Q->t a H Q):PA X es t':=λp Fx s a H Q I q=>h p Fx s a H Q I (i a H Q q)
theorem PS.mono(h:PS X st t)(i:∀D a H,t' D a H->t D a H):PS X st t':=λFx s a H D I q=>h Fx s a H D I (i D a H q)
theorem PSs.mono(h:PSs X st t)(i:∀D a H,t' D a H->t D a H):PSs X st t':=λFx s a H D I q=>h Fx s a H D I (i D a H q)
def orF{α:Type}(o:Option α)(k:α->Prop):Prop:=match o with|some a=>k a|none=>False
theorem qa5(h:∀a,k a->k' a):orF o k->orF o k':=by cases o with|none=>exact id|some a=>exact h a
theorem qa8:orF o k↔∃a,o=some a/\k a:=by cases o with|none=>exact⟨λh=>h.elim,λ⟨_,e,_⟩=>by cases e⟩|some a=>exact⟨λh=>⟨a,rfl,h⟩,λ⟨b,e,h⟩=>by cases e;exact h⟩
section
variable{c:Vc}{X:Cx}{e:Nx}{F:γ->Prop}{H H':Hp}{t:St}{ds:Ds}{A:List γ}
theorem Rn.new(S:Rn c F H t ds A)(n:New H B)(s:Same H H'):Ok F H' (B++A):=n.ok S.ok S.loc.cells s
def Bs(f:FV):VT:=λds Q _=>orF (f ds) λd=>Q d ds
def Gq(f:FV):VT:=λds Q _=>orF (f ds) λd=>d.imm=true/\Q d ds
theorem qa3(h:VV c X e true f):VE c X e (Bs f):=by refine⟨PE.mono h.h λt H Q a=>?_,λb Q Q' g i j _=>qa5 λd=>j d b⟩;obtain⟨F,b,A,g,S,x,q⟩:=a;obtain⟨d,e,q⟩:=qa8.mp q;exact⟨F,b,A,d,S,e,λv H' B r s n=>q v H' F B A r (S.same s) (S.new (n rfl) s) ((n rfl).stp s)⟩
theorem qc4(h:VV c X e own f):VE c X e (Gq f):=by refine⟨PE.mono h.h λt H Q a=>?_,λb Q Q' g i j _=>qa5 λd=>Qb (j d b)⟩;obtain⟨F,b,A,g,S,x,q⟩:=a;obtain⟨d,e,k,q⟩:=qa8.mp q;refine⟨F,b,A,d,S,e,λv H' B r s _=>?_⟩;have:=r.imm k;subst this;exact q v H' F [] A r (S.same s) (S.ok.same s) (.same s)
theorem Jl(h:PE X e (tC v))(r:∀F H,Rj F H v d []):VV c X e true (λ_=>some d):=⟨PE.mono h λt H Q ⟨F,a,A,b,S,e,q⟩=>by cases e;exact q v H [] (r F H) (λ_ _ z=>z) λ_=>New.nil⟩
noncomputable def D.known:D->Bool|.u=>false|.hole _=>false|_=>true
def rdN(i:Nat):FV:=λds=>match ds[i]? with|some d=>if d.known=true then some d else none|none=>none
theorem ql3:rdN i ds=some d↔ds[i]?=some d/\d.known=true:=by unfold rdN;cases h:ds[i]? with|none=>simp|some x=>dsimp only;split;{rename_i hk;constructor;{intro e;grind};rintro⟨e,_⟩;exact e};grind
theorem Rn.at(S:Rn c F H t ds A)(hi:i<t.length)(h:ds[i]?=some d)(a:d.known=true):∃v B,t[i]?=some (some v)/\Rj F H v d B/\∀b,B.count b<=A.count b:=by
 obtain⟨σ1,o,σ2,e,f,A1,B,A2,g,e2,j,m,k,n,l,p⟩:=S.loc.split h;cases l with
 |no=>cases a|@so v _ _ r=>
  refine⟨v,B,?_,r,λb=>by rw[k];simp only[zA0];lia⟩;have:(t++c.gv)[i]?=some (some v):=by rw[g];exact qC8 j
  rwa[zAr hi] at this
theorem qaI8(h:PE X (.Name x pos) (Ja i))(hi:∀Fx t H s,Rk X Fx t H s->i<t.length):VV c X (.Name x pos) false (rdN i):=by refine⟨λFx s t H Q I a=>?_⟩;obtain⟨F,g,A,d,S,e,q⟩:=a;refine h Fx s t H Q I ?_;obtain⟨e,b⟩:=ql3.mp e;obtain⟨v,B,f,r,_⟩:=S.at (hi Fx t H s I) e b;exact⟨v,f,q v H B r (λ_ _ z=>z) λz=>by cases z⟩
theorem qp0{X:Cx}(a:X.N[i]?=some x):∀Fx t H s,Rk X Fx t H s->i<t.length:=λFx t H s I=>by
 rw[I.len];exact(zA5.mp a).1
end
def Sub(H:Hp)(B B':List γ):Prop:=∀b,B'.count b<=B.count b∨(B'.count b<=1/\H b=none)
theorem Sub.new(s:Sub H1 B B')(n:New H B)(q:Same H H1):New H B':=by refine⟨λb=>?_,λb o e=>?_⟩;{rcases s b with h|⟨h,_⟩;{have:=n.one b;lia};exact h};rcases s b with h|⟨_,h⟩;{have:=n.new b o e;lia};rw[q b o e] at h;cases h
def OpS(nw:Bool)(r:List V->Hp->VK->Prop)(g:Ds->Option D):Prop:=∀F H vs xs B d (Q:VK),Rc F H vs xs B->g xs=some d->(∀v H' B',Rj F H' v d B'->Same H H'->(if nw=true then New H B' else Sub H B B')->Q v H')->r vs H Q
def A7(nw:Bool)(r:R2)(g:D->D->Option D):Prop:=∀F H v w x y B d (Q:VK),Rc F H [v,w] [x,y] B->g x y=some d->(∀v H' B',Rj F H' v d B'->Same H H'->(if nw=true then New H B' else Sub H B B')->Q v H')->r v w H Q
noncomputable def f2(g:D->D->Option D)(fa fb:FV):FV:=λds=>(fa ds).bind λx=>(fb ds).bind λy=>g x y
theorem qaG2:f2 g fa fb ds=some d↔∃x y,fa ds=some x/\fb ds=some y/\g x y=some d:=by unfold f2;cases a:fa ds with|none=>simp|some x=>cases b:fb ds with|none=>simp|some y=>simp
noncomputable def f1(g:D->Option D)(fa:FV):FV:=λds=>(fa ds).bind g
theorem qaG3:f1 g fa ds=some d↔∃x,fa ds=some x/\g x=some d:=by unfold f1;cases a:fa ds with|none=>simp|some x=>simp
theorem Jc(r:Rj F H v d A)(s:Rj F H w e B):Rc F H [v,w] [d,e] (A++(B++[])):=.cons r (.cons s .nil)
section
variable{c:Vc}{X:Cx}{a b:Nx}{Y Z U:Bool}{fa fb:FV}{r:R2}{g:D->D->Option D}{O R:VT}
theorem op_vv(h:A7 U r g):∀N H Q,liftV c (U||(Y&&Z)) (f2 g fa fb) N H Q->tOp r (liftV c Y fa) (liftV c Z fb) N H Q:=by rintro N H Q ⟨F,k,A,d,S,e,q⟩;obtain⟨x,y,m,n,p⟩:=qaG2.mp e;refine⟨F,k,A,x,S,m,λv H1 B1 l a s=>⟨F,k,A,y,S.same a,n,λw H2 B2 t i z=>?_⟩⟩;refine h F H2 v w x y _ d Q (Jc (l.same i) t) p λu H3 B3 B C f=>?_;refine q u H3 B3 B ((a.trans i).trans C) λj=>?_;cases U with|true=>rw[if_pos rfl] at f;exact⟨f.one,λb o e=>f.new b o (i b o (a b o e))⟩|false=>rw[if_neg ∅] at f;have j:=zAh.mp j;have:=(s j.1).append a l.cells (z j.2);exact f.new (by rw[zAi];exact this) (a.trans i)
def t2(g:D->D->Option D)(O R:VT):VT:=λds Q xe=>O ds (λx ds1=>R ds1 (λy a=>orF (g x y) λd=>Q d a) xe) xe
theorem qat6(j:VE c X a O)(k:VE c X b R):∀ds (Q Q':DK) (xe f:XKd),(∀d e,Q d e->Q' d e)->(∀x e,xe x e->f x e)->t2 g O R ds Q xe->t2 g O R ds Q' f:=λds Q Q' xe f l i=>j.m _ _ _ _ _ (λd n=>k.m _ _ _ _ _ (λd h=>qa5 λz=>l z h) i) i
theorem op_ee(p:VE c X a O)(n:VE c X b R)(h:A7 true r g):∀N H Q,Bh c (t2 g O R) N H Q->tOp r (Bh c O) (Bh c R) N H Q:=by
 rintro N H Q ⟨F,s,A,o,S,x,q⟩;refine⟨F,s,A,o,S,x,p.m _ _ _ _ _ (λt i q v H1 F1 T A1 y S1 B C=>?_) (λ_ _ z=>z) q⟩;have e:Rl F H A F1 H1 A1:=C.count λb=>by rw[zA0];lia
 refine⟨F1,i,A1,o,S1,x.step e,n.m _ _ _ _ _ (λD E q w H2 F2 T2 A2 G S2 L I=>?_) (λ_ _ z=>z) q⟩;obtain⟨d,J,q⟩:=qa8.mp q;have f:Rl F1 H1 A1 F2 H2 A2:=I.count λb=>by rw[zA0];lia
 have j:=y.keep (f.kp S1.ok S1.loc.cells) λb n M=>by have:=B.sep b;grind
 refine h F2 H2 v w t D _ d Q (Jc j G) J λu H3 B3 K k l=>?_;rw[if_pos rfl] at l;exact q u H3 F2 B3 A2 K (S2.same k) (S2.new l k) ((e.trans f).trans (l.stp k))
def t2v(g:D->D->Option D)(O:VT)(fb:FV):VT:=λds Q xe=>O ds (λx ds1=>orF ((fb ds1).bind (g x)) λd=>Q d ds1) xe
theorem qaz1(h:VE c X a O):∀ds (Q Q':DK) (xe e:XKd),(∀d b,Q d b->Q' d b)->(∀x b,xe x b->e x b)->t2v g O fb ds Q xe->t2v g O fb ds Q' e:=λds Q Q' xe e i j=>h.m _ _ _ _ _ (λd f=>qa5 λz=>i z f) j
theorem op_ev(s:VE c X a O)(h:A7 true r g):∀N H Q,Bh c (t2v g O fb) N H Q->tOp r (Bh c O) (liftV c Z fb) N H Q:=by
 rintro N H Q ⟨F,t,A,B,S,x,q⟩;refine⟨F,t,A,B,S,x,s.m _ _ _ _ _ (λC j q v H1 F1 T A1 D S1 L E=>?_) (λ_ _ z=>z) q⟩;have k:Rl F H A F1 H1 A1:=E.count λb=>by rw[zA0];lia
 obtain⟨d,l,q⟩:=qa8.mp q;obtain⟨y,G,l⟩:=zA1.mp l;refine⟨F1,j,A1,y,S1,G,λw H2 B2 I n _=>?_⟩;refine h F1 H2 v w C y _ d Q (Jc (D.same n) I) l λu H3 B3 J K p=>?_;rw[if_pos rfl] at p;have f:=n.trans K;have i:New H1 B3:=⟨p.one,λb o e=>p.new b o (n b o e)⟩;exact q u H3 F1 B3 A1 J (S1.same f) (S1.new i f) (k.trans (i.stp f))
def OpS1(U:Bool)(r:V->Hp->VK->Prop)(g:D->Option D):Prop:=∀F H v x B d (Q:VK),Rj F H v x B->g x=some d->(∀v H' B',Rj F H' v d B'->Same H H'->(if U=true then New H B' else Sub H B B')->Q v H')->r v H Q
def t1(g:D->Option D)(O:VT):VT:=λds Q xe=>O ds (λx ds1=>orF (g x) λd=>Q d ds1) xe
variable{W:V->Hp->VK->Prop}{g1:D->Option D}
theorem op_v(h:OpS1 U W g1):∀N H Q,liftV c (U||Y) (f1 g1 fa) N H Q->liftV c Y fa N H (λx H1=>W x H1 Q):=by rintro N H Q ⟨F,g,A,d,S,e,q⟩;obtain⟨x,i,j⟩:=qaG3.mp e;refine⟨F,g,A,x,S,i,λv H1 B1 W f k=>?_⟩;refine h F H1 v x _ d Q W j λu H3 B3 l m a=>?_;refine q u H3 B3 l (f.trans m) λn=>?_;cases U with|true=>rw[if_pos rfl] at a;exact⟨a.one,λb o e=>a.new b o (f b o e)⟩|false=>rw[if_neg ∅] at a;exact a.new (k n) f
end
theorem qV4(o1:Ok F1 H1 (T++A1))(a:Rl F H A F1 H1 (T++A1))(i:∀b∈A1,∃o,H1 b=some o/\G1 o=true)(g:Same H1 H3)(d:Sub H1 T B):Ok F1 H3 (B++A1)/\Rl F H A F1 H3 (B++A1):=by refine⟨⟨λb=>?_,λb f=>?_,λb f=>let ⟨u,e⟩:=o1.ex b f;⟨u,g b u e⟩⟩,λb o e q=>g b o (a.fr b o e q),λb o e q=>?_,a.mono,a.fnew⟩;{have:=o1.sep b;rw[zA0] at this ⊢;rcases d b with h|⟨h,c⟩;{lia};by_cases j:A1.count b=0;{lia};obtain⟨o,e,_⟩:=i b (qb6.mpr j);grind};{have:=o1.fro b f;rw[zA0] at this ⊢;rcases d b with h|⟨h,c⟩;{lia};obtain⟨o,e⟩:=o1.ex b f;grind};have:=a.sub b o e q;rw[zA0] at this ⊢;rcases d b with h|⟨h,c⟩;{lia};rw[a.fr b o e q] at c;cases c
section
variable{c:Vc}{X:Cx}{a b:Nx}{oa ob Z:Bool}{fa fb:FV}{r:R2}{g:D->D->Option D}{U Y:VT}
theorem qba0(C:VE c X a U)(k:VE c X b Y)(h:A7 false r g):∀R H Q,Bh c (t2 g U Y) R H Q->tOp r (Bh c U) (Bh c Y) R H Q:=by
 rintro R H Q ⟨F,D,A,l,S,x,q⟩;refine⟨F,D,A,l,S,x,C.m _ _ _ _ _ (λE e q v H1 F1 T A1 n S1 o p=>?_) (λ_ _ z=>z) q⟩;have f:Rl F H A F1 H1 A1:=p.count λb=>by rw[zA0];lia
 refine⟨F1,e,A1,l,S1,x.step f,k.m _ _ _ _ _ (λG I q w H2 F2 T2 A2 J S2 K s=>?_) (λ_ _ z=>z) q⟩;obtain⟨d,L,q⟩:=qa8.mp q;have i:=n.keep (s.kp S1.ok S1.loc.cells) λb k P=>by have:=o.sep b;grind
 obtain⟨t,y⟩:=s.frame o n.cells K;refine h F2 H2 v w E G _ d Q (Jc i J) L λu H3 B3 M B j=>?_;rw[if_neg ∅] at j;rw[<-zAs] at t y;obtain⟨N,O⟩:=qV4 t (p.trans y) S2.loc.cells B (by rw[zAi] at j;exact j);exact q u H3 F2 B3 A2 M (S2.same B) N O
def L8(g:D->D->Option D)(U:VT)(fb:FV):VT:=λds Q xe=>U ds (λx ds1=>orF (fb ds1) λy=>y.imm=true/\orF (g x y) λd=>Q d ds1) xe
theorem qam4(h:VE c X a U):∀ds (Q Q':DK) (xe e:XKd),(∀d b,Q d b->Q' d b)->(∀x b,xe x b->e x b)->L8 g U fb ds Q xe->L8 g U fb ds Q' e:=λds Q Q' xe e i j=>h.m _ _ _ _ _ (λd f=>qa5 λy=>Qb (qa5 λz=>i z f)) j
theorem qaZ9(p:VE c X a U)(h:A7 false r g):∀R H Q,Bh c (L8 g U fb) R H Q->tOp r (Bh c U) (liftV c ob fb) R H Q:=by rintro R H Q ⟨F,s,A,t,S,x,q⟩;refine⟨F,s,A,t,S,x,p.m _ _ _ _ _ (λB i q v H1 F1 T A1 C S1 D E=>?_) (λ_ _ z=>z) q⟩;obtain⟨y,G,I,q⟩:=qa8.mp q;obtain⟨d,J,q⟩:=qa8.mp q;refine⟨F1,i,A1,y,S1,G,λw H2 B2 k j _=>?_⟩;have:=k.imm I;subst this;refine h F1 H2 v w B y _ d Q (Jc (C.same j) k) J λu H3 B3 K L l=>?_;rw[if_neg ∅,zAi,zAi] at l;have f:=j.trans L;have M:Sub H1 T B3:=λb=>(l b).imp id λ⟨N,n⟩=>⟨N,by cases e:H1 b with|none=>rfl|some o=>rw[j b o e] at n;cases n⟩;obtain⟨O,P⟩:=qV4 D E S1.loc.cells f M;exact q u H3 F1 B3 A1 K (S1.same f) O P
theorem qa6:VVs c X [] true (λ_=>some []):=⟨PA.mono qu3 λR H Q ⟨F,a,A,b,S,e,q⟩=>by cases e;exact q [] H [] .nil (λ_ _ z=>z) λ_=>New.nil⟩
noncomputable def Ay(fa:FV)(fr:Ds->Option Ds):Ds->Option Ds:=λds=>(fa ds).bind λx=>(fr ds).bind λxs=>some (x::xs)
theorem qar3{fa:FV}{fr:Ds->Option Ds}:Ay fa fr ds=some xs↔∃x r,fa ds=some x/\fr ds=some r/\xs=x::r:=by unfold Ay;cases a:fa ds with|none=>simp|some x=>cases b:fr ds with|none=>simp|some y=>simp[eq_comm]
theorem qa0(j:VV c X e oa fa)(k:VVs c X es own fr)(l:M8 (e::es) X.env=(false,eval e X.env)::M8 es X.env):VVs c X (e::es) (oa&&own) (Ay fa fr):=by refine⟨PA.mono (qf6 j.h k.h l) λR H Q b=>?_⟩;obtain⟨F,f,A,t,S,e,q⟩:=b;obtain⟨x,r,m,e2,rfl⟩:=qar3.mp e;refine⟨F,f,A,x,S,m,λv H1 B1 g d n=>⟨F,f,A,r,S.same d,e2,λo H2 B2 p i s=>?_⟩⟩;refine q (v::o) H2 (B1++B2) (.cons (g.same i) p) (d.trans i) λa=>?_;have a:=zAh.mp a;exact(n a.1).append d g.cells (s a.2)
variable{rc:List V->Hp->VK->Prop}{W:Ds->Option D}
theorem qaP0(h:OpS Z rc W):∀R H Q,liftV c (Z||own) (λds=>(f ds).bind W) R H Q->tCB rc (qaQ2 c own f) R H Q:=by rintro R H Q ⟨F,ds,A,d,S,e,q⟩;obtain⟨i,j,e2⟩:=zA1.mp e;refine⟨F,ds,A,i,S,j,λk H1 B1 l g m=>h F H1 k i B1 d Q l e2 λu H3 B3 n p a=>q u H3 B3 n (g.trans p) λr=>?_⟩;cases Z with|true=>rw[if_pos rfl] at a;exact⟨a.one,λb o e=>a.new b o (g b o e)⟩|false=>rw[if_neg ∅] at a;exact a.new (m r) g
def tcO(W:Ds->Option D)(t:VTA):VT:=λds Q xe=>t ds (λxs ds1=>orF (W xs) λd=>Q d ds1) xe
theorem qab7(f:VOs c X es t):∀ds (Q Q':DK) (xe b:XKd),(∀d a,Q d a->Q' d a)->(∀x a,xe x a->b x a)->tcO W t ds Q xe->tcO W t ds Q' b:=λds Q Q' xe b g h=>f.m _ _ _ _ _ (λd e=>qa5 λz=>g z e) h
theorem opc_o(e:VOs c X es t)(h:OpS true rc W):∀R H Q,Bh c (tcO W t) R H Q->tCB rc (qaE3 c t) R H Q:=by rintro R H Q ⟨F,f,A,g,S,x,q⟩;refine⟨F,f,A,g,S,x,e.m _ _ _ _ _ (λi j q k H1 F1 T A1 l S1 n=>?_) (λ_ _ z=>z) q⟩;obtain⟨d,o,q⟩:=qa8.mp q;refine h F1 H1 k i T d Q l o λu H3 B3 p a b=>?_;rw[if_pos rfl] at b;exact q u H3 F1 B3 A1 p (S1.same a) (S1.new b a) (n.trans (b.stp a))
end
def D.kids:D->List D|.q ds=>ds|.l false ds=>ds|.dct false kvs=>kvs.map (·.2)|.ins false _ fs=>fs.map (·.2)|_=>[]
noncomputable def K9{a:Type}:List (a×D)->Nat->D->List (a×D)|[],_,_=>[]|(k,_)::r,0,x=>(k,x)::r|p::r,n+1,x=>p::K9 r n x
theorem qO5{c:Type}:∀(l:List (c×D))(n:Nat)(x:D),(K9 l n x).map (·.1)=l.map (·.1)/\(K9 l n x).map (·.2)=(l.map (·.2)).set n x|[],_,_=>⟨rfl,rfl⟩|(k,_)::r,0,x=>⟨rfl,rfl⟩|p::r,n+1,x=>by obtain⟨a,b⟩:=qO5 r n x;simp only[K9,zAw,a,b,List.set_cons_succ,and_self]
def D.setK:D->Nat->D->D|.q ds,n,x=>.q (ds.set n x)|.l z ds,n,x=>.l z (ds.set n x)|.dct z kvs,n,x=>.dct z (K9 kvs n x)|.ins z C fs,n,x=>.ins z C (K9 fs n x)|d,_,_=>d
def Lnk(H:Hp)(u:V)(n:Nat)(w:V):Prop:=∃a,u=.ref a/\((∃vs,H a=some (.q vs)/\vs[n]?=some w)∨(∃vs,H a=some (.l vs)/\vs[n]?=some w)∨(∃kvs,H a=some (.dK kvs)/\(kvs.map (·.2))[n]?=some w)∨∃C dx fs,H a=some (.ins C dx fs)/\(fs.map (·.2))[n]?=some w)
section
variable{F F':γ->Prop}{H H':Hp}
theorem Rc.split:∀{ds:List D}{vs:List V}{A:List γ}{i:Nat}{d:D},Rc F H vs ds A->ds[i]?=some d->∃b v c ds1 a A1 B A2,vs=b++v::c/\ds=ds1++d::a/\b.length=i/\ds1.length=i/\A=A1++(B++A2)/\Rc F H b ds1 A1/\Rj F H v d B/\Rc F H c a A2:=by
 intro ds;induction ds with
 |nil=>intro K A i d _ h;simp at h|cons e r f=>
  intro K A i d L h;cases i with
  |zero=>
   have:e=d:=by simpa using h
   subst this;cases L with|cons q t=>exact⟨[],_,_,[],_,[],_,_,rfl,rfl,rfl,rfl,rfl,.nil,q,t⟩
  |succ i=>
   have h:r[i]?=some d:=by simpa using h
   cases L with|@cons v _ B0 _ _ A0 q t=>obtain⟨σ1,o,σ2,ds1,a,A1,B,A2,g,e2,j,k,l,m,n,p⟩:=f t h;exact⟨v::σ1,o,σ2,_::ds1,a,B0++A1,B,A2,by rw[g];rfl,by rw[e2];rfl,by simp[j],by simp[k],by rw[l,zAs],.cons q m,n,p⟩
theorem Rc.append(r:Rc F H vs ds A)(t:Rc F H a es B):Rc F H (vs++a) (ds++es) (A++B):=by induction vs generalizing ds A with|nil=>cases r;exact t|cons v vs b=>cases r with|cons h c=>rw[zAs];exact .cons h (b c)
theorem Rc.kid(r:Rc F H vs ds A)(h:ds[n]?=some d):∃(w:V)(B C:List γ),vs[n]?=some w/\Rj F H w d B/\(∀b,A.count b=B.count b+C.count b)/\∀{F':γ->Prop}{H':Hp}{W:γ->Prop}(d':D)(B':List γ),Kp F H W F' H'->(∀b∈C,¬W b)->Rj F' H' w d' B'->∃A':List γ,Rc F' H' vs (ds.set n d') A'/\∀b,A'.count b=B'.count b+C.count b:=by obtain⟨f,v,g,i,j,A1,B,A2,c,e2,l,m,o,p,q,s⟩:=r.split h;refine⟨v,B,A1++A2,by rw[c];exact qC8 l,q,λb=>by rw[o];simp only[zA0];lia,λ{F' H' W} d' B' k e t=>⟨A1++(B'++A2),?_,λb=>by simp only[zA0];lia⟩⟩;rw[c,e2,qp9 m];exact(p.keep k λb a=>e b (zAd.mpr (.inl a))).append (.cons t (s.keep k λb a=>e b (zAd.mpr (.inr a))))
theorem Rj.kid(r:Rj F H p d0 A)(h:d0.kids[n]?=some d):∃(w:V)(B C:List γ),Lnk H p n w/\Rj F H w d B/\(∀b,A.count b=B.count b+C.count b)/\∀{F':γ->Prop}{H':Hp}{W:γ->Prop}(d':D)(B':List γ),Kp F H W F' H'->(∀b∈C,¬W b)->Rj F' H' w d' B'->∃A':List γ,Rj F' H' p (d0.setK n d') A'/\∀b,A'.count b=B'.count b+C.count b:=by cases r with|@q a vs ds _ e r=>obtain⟨w,B,C,f,g,i,j⟩:=r.kid h;refine⟨w,B,C,⟨a,rfl,.inl ⟨vs,e,f⟩⟩,g,i,λ{F' H' W} d' B' k c l=>?_⟩;obtain⟨A',m,q2⟩:=j d' B' k c l;exact⟨A',.q (k.q e) m,q2⟩|@l a vs ds A e r=>obtain⟨w,B,C,f,g,i,j⟩:=r.kid h;refine⟨w,B,a::C,⟨a,rfl,.inr (.inl ⟨vs,e,f⟩)⟩,g,λb=>by rw[zAt,zAt,i];lia,λ{F' H' W} d' B' k c l=>?_⟩;obtain⟨A',m,q2⟩:=j d' B' k (λb o=>c b (zA6 _ o)) l;exact⟨a::A',.l (k.fr a _ e (c a zAb)) m,λb=>by rw[zAt,zAt,q2];lia⟩|@dct a kvs kds A e q r=>obtain⟨w,B,C,f,g,i,j⟩:=r.kid h;refine⟨w,B,a::C,⟨a,rfl,.inr (.inr (.inl ⟨kvs,e,f⟩))⟩,g,λb=>by rw[zAt,zAt,i];lia,λ{F' H' W} d' B' k c l=>?_⟩;obtain⟨A',m,q2⟩:=j d' B' k (λb o=>c b (zA6 _ o)) l;obtain⟨s,t⟩:=qO5 kds n d';exact⟨a::A',.dct (k.fr a _ e (c a zAb)) (q.trans s.symm) (by rw[t];exact m),λb=>by rw[zAt,zAt,q2];lia⟩|@ins a C0 dx fvs fds A e q r=>obtain⟨w,B,C,f,g,i,j⟩:=r.kid (n:=n) h;refine⟨w,B,a::C,⟨a,rfl,.inr (.inr (.inr ⟨C0,dx,fvs,e,f⟩))⟩,g,λb=>by rw[zAt,zAt,i];lia,λ{F' H' W} d' B' k c l=>?_⟩;obtain⟨A',m,q2⟩:=j d' B' k (λb o=>c b (zA6 _ o)) l;obtain⟨s,t⟩:=qO5 fds n d';exact⟨a::A',.ins (k.fr a _ e (c a zAb)) (q.trans s.symm) (by rw[t];exact m),λb=>by rw[zAt,zAt,q2];lia⟩|_=>cases (show (none:Option D)=some _ from h)
def D.getP:D->List Nat->Option D|d,[]=>some d|d,n::p=>match d.kids[n]? with|some e=>e.getP p|none=>none
def D.setP:D->List Nat->D->D|_,[],x=>x|d,n::p,x=>match d.kids[n]? with|some e=>d.setK n (e.setP p x)|none=>d
def Walk(H:Hp):V->List Nat->V->Prop|u,[],w=>u=w|u,n::p,w=>∃v,Lnk H u n v/\Walk H v p w
theorem Rj.path:∀{p:List Nat}{a:V}{d0 d:D}{A:List γ},Rj F H a d0 A->d0.getP p=some d->∃(w:V)(B C:List γ),Walk H a p w/\Rj F H w d B/\(∀b,A.count b=B.count b+C.count b)/\∀{F':γ->Prop}{H':Hp}{W:γ->Prop}(d':D)(B':List γ),Kp F H W F' H'->(∀b∈C,¬W b)->Rj F' H' w d' B'->∃A':List γ,Rj F' H' a (d0.setP p d') A'/\∀b,A'.count b=B'.count b+C.count b:=by intro p;induction p with|nil=>intro a d0 d A r h;cases h;exact⟨a,A,[],rfl,r,λb=>by simp,λ{F' H' W} d' B' k f g=>⟨B',g,λb=>by simp⟩⟩|cons n p j=>intro a d0 d A r h;unfold D.getP at h;cases c:d0.kids[n]? with|none=>rw[c] at h;cases h|some e=>rw[c] at h;obtain⟨l,B1,C1,m,o,q,s⟩:=r.kid c;obtain⟨w,B,C,t,u,v,x⟩:=j o h;refine⟨w,B,C++C1,⟨l,m,t⟩,u,λb=>by rw[q,v,zA0];lia,λ{F' H' W} d' B' k f g=>?_⟩;obtain⟨A1,y,q2⟩:=x d' B' k (λb i=>f b (zAd.mpr (.inl i))) g;obtain⟨A2,z,E⟩:=s (e.setP p d') A1 k (λb i=>f b (zAd.mpr (.inr i))) y;refine⟨A2,?_,λb=>by rw[E,q2,zA0];lia⟩;unfold D.setP;rw[c];exact z
def A9(ds:Ds)(i:Nat)(p:List Nat):Option D:=match ds[i]? with|some d=>d.getP p|none=>none
def Bi(ds:Ds)(i:Nat)(p:List Nat)(x:D):Ds:=match ds[i]? with|some d=>ds.set i (d.setP p x)|none=>ds
theorem qai1(h:D.getP .u p=some d):p=[]/\d=.u:=by cases p with|nil=>cases h;exact⟨rfl,rfl⟩|cons n p=>cases (show (none:Option D)=some _ from h)
theorem Locs.place(L:Locs F H K ds A)(h:A9 ds i p=some d)(g:d≠.u):∃(u w:V)(B C:List γ),K[i]?=some (some u)/\Walk H u p w/\Rj F H w d B/\(∀b,A.count b=B.count b+C.count b)/\∀{F':γ->Prop}{H':Hp}{W:γ->Prop}(d':D)(B':List γ),Kp F H W F' H'->(∀b∈C,¬W b)->Rj F' H' w d' B'->∃A':List γ,Locs F' H' K (Bi ds i p d') A'/\∀b,A'.count b=B'.count b+C.count b:=by unfold A9 at h;cases c:ds[i]? with|none=>rw[c] at h;cases h|some J=>rw[c] at h;obtain⟨σ1,o,σ2,j,l,A1,B0,A2,f,e2,m,n,q,s,t,v⟩:=L.split c;cases t with|no=>exact absurd (qai1 h).2 g|@so u _ _ r=>obtain⟨w,B,C,x,y,z,E⟩:=r.path h;refine⟨u,w,B,A1++(C++A2),by rw[f];exact qC8 m,x,y,λb=>by rw[q];simp only[zA0,z];lia,λ{F' H' W} d' B' k e G=>?_⟩;obtain⟨A',I,q2⟩:=E d' B' k (λb a=>e b (zAd.mpr (.inr (zAd.mpr (.inl a))))) G;refine⟨A1++(A'++A2),?_,λb=>by simp only[zA0,q2];lia⟩;unfold Bi;rw[c,f];dsimp only;rw[e2,qp9 n];exact(s.keep k λb a=>e b (zAd.mpr (.inl a))).append (.so I (v.keep k λb a=>e b (zAd.mpr (.inr (zAd.mpr (.inr a))))))
theorem Lnk.fn(h:Lnk H u n v)(h':Lnk H u n w):v=w:=by obtain⟨a,rfl,h⟩:=h;obtain⟨b,e,h'⟩:=h';cases e;rcases h with⟨vs,e,h⟩|⟨vs,e,h⟩|⟨vs,e,h⟩|⟨C,dx,vs,e,h⟩<;>rcases h' with⟨vs',e',h'⟩|⟨vs',e',h'⟩|⟨vs',e',h'⟩|⟨C',dx',vs',e',h'⟩<;>rw[e] at e'<;>cases e'<;>rw[h] at h'<;>exact Qc h'
theorem Walk.fn:∀{p:List Nat}{u v w:V},Walk H u p v->Walk H u p w->v=w|[],_,_,_,h,h'=>h.symm.trans h'|n::p,_,_,_,⟨x,h1,h2⟩,⟨y,h3,h4⟩=>by cases h1.fn h3;exact Walk.fn h2 h4
theorem Lnk.same(h:Lnk H u n v)(s:Same H H'):Lnk H' u n v:=by obtain⟨a,rfl,h⟩:=h;refine⟨a,rfl,?_⟩;rcases h with⟨vs,e,h⟩|⟨vs,e,h⟩|⟨vs,e,h⟩|⟨C,dx,vs,e,h⟩;{exact .inl ⟨vs,s _ _ e,h⟩};{exact .inr (.inl ⟨vs,s _ _ e,h⟩)};{exact .inr (.inr (.inl ⟨vs,s _ _ e,h⟩))};exact .inr (.inr (.inr ⟨C,dx,vs,s _ _ e,h⟩))
theorem Walk.same:∀{p:List Nat}{u v:V},Walk H u p v->Same H H'->Walk H' u p v|[],_,_,h,_=>h|n::p,_,_,⟨x,h1,h2⟩,s=>⟨x,h1.same s,h2.same s⟩
end
section
variable{c:Vc}{X:Cx}{b:Nx}{r:R2}{g:D->D->Option D}{R:VT}
def t2n(g:D->D->Option D)(i:Nat)(R:VT):VT:=λds Q xe=>(rdN i ds).isSome=true/\R ds (λy ds1=>orF ((rdN i ds1).bind λx=>g x y) λd=>Q d ds1) xe
theorem qaz2(h:VE c X b R):∀ds (Q Q':DK) (xe e:XKd),(∀d a,Q d a->Q' d a)->(∀x a,xe x a->e x a)->t2n g i R ds Q xe->t2n g i R ds Q' e:=λds Q Q' xe e j k=>Qb (h.m _ _ _ _ _ (λd f=>qa5 λz=>j z f) k)
theorem Rn.name(S:Rn c F H O ds A)(hi:i<O.length)(h:rdN i ds=some d):∃v B,O[i]?=some (some v)/\Rj F H v d B/\∀b,B.count b<=A.count b:=let ⟨e,k⟩:=ql3.mp h
 S.at hi e k
theorem op_ne(o:VE c X b R)(h:A7 true r g)(hi:i<O.length)(q:Bh c (t2n g i R) O H Q):tOp r (Ja i) (Bh c R) O H Q:=by
 obtain⟨F,p,A,s,S,x,t,q⟩:=q;obtain⟨L,e⟩:=zB4.mp t;obtain⟨v,B0,n,_,_⟩:=S.name hi e;refine⟨v,n,F,p,A,s,S,x,o.m _ _ _ _ _ (λC D q w H1 F1 T A1 E S1 M G=>?_) (λ_ _ z=>z) q⟩;have f:Rl F H A F1 H1 A1:=G.count λb=>by rw[zA0];lia
 obtain⟨d,j,q⟩:=qa8.mp q;obtain⟨y,I,j⟩:=zA1.mp j;obtain⟨N,B,a,J,_⟩:=S1.name hi I;rw[n] at a;cases a;refine h F1 H1 v w y C _ d Q (Jc J E) j λu H3 B3 K k l=>?_;rw[if_pos rfl] at l;exact q u H3 F1 B3 A1 K (S1.same k) (S1.new l k) (f.trans (l.stp k))
end
section
variable{F:γ->Prop}{H:Hp}{K:Qe}
theorem Rj.lst_inv(r:Rj F H v (.l z ds) B):∃a vs A,v=.ref a/\H a=some (.l vs)/\Rc F H vs ds A/\∀b,A.count b<=B.count b:=by cases r with|l h r=>exact⟨_,_,_,rfl,h,r,λb=>by rw[zAt];lia⟩|lstZ h f r=>exact⟨_,_,_,rfl,h,r,λb=>zA3 _⟩
theorem Rj.tup_inv(r:Rj F H v (.q ds) B):∃a vs,v=.ref a/\H a=some (.q vs)/\Rc F H vs ds B:=by cases r with|q h r=>exact⟨_,_,rfl,h,r⟩
theorem Rj.dct_inv(r:Rj F H v (.dct z kds) B):∃a kvs A,v=.ref a/\H a=some (.dK kvs)/\kvs.map (·.1)=kds.map (·.1)/\Rc F H (kvs.map (·.2)) (kds.map (·.2)) A/\∀b,A.count b<=B.count b:=by cases r with|dct h e r=>exact⟨_,_,_,rfl,h,e,r,λb=>by rw[zAt];lia⟩|dctZ h f e r=>exact⟨_,_,_,rfl,h,e,r,λb=>zA3 _⟩
theorem Rj.ins_inv(r:Rj F H v (.ins z C c) B):∃a dx d A,v=.ref a/\H a=some (.ins C dx d)/\d.map (·.1)=c.map (·.1)/\Rc F H (d.map (·.2)) (c.map (·.2)) A/\∀b,A.count b<=B.count b:=by cases r with|ins h e r=>exact⟨_,_,_,_,rfl,h,e,r,λb=>by rw[zAt];lia⟩|insZ h f e r=>exact⟨_,_,_,_,rfl,h,e,r,λb=>zA3 _⟩
noncomputable def D.elems:D->Option Ds|.l _ ds=>some ds|.q ds=>some ds|_=>none
theorem Rj.elems(r:Rj F H v d B)(h:d.elems=some ds):∃a vs A,v=.ref a/\(SqL K H a vs∨SqT K H a vs)/\Rc F H vs ds A/\∀b,A.count b<=B.count b:=by cases d with|l z c=>cases h;obtain⟨a,vs,A,e,h,r,q⟩:=r.lst_inv;exact⟨a,vs,A,e,.inl (.inl (.inl h)),r,q⟩|q c=>cases h;obtain⟨a,vs,e,h,r⟩:=r.tup_inv;exact⟨a,vs,_,e,.inr (.inl (.inl h)),r,λ_=>zA3 _⟩|_=>cases h
theorem Rc.len(r:Rc F H vs ds A):vs.length=ds.length:=by induction vs generalizing ds A with|nil=>cases r;rfl|cons v vs a=>cases r with|cons h t=>simp[a t]
theorem qg7(a:H p=none):New H [p]:=⟨λb=>by rw[zAt];simp;split<;>lia,λb o e=>by
 have:b≠p:=λz=>by rw[z,a] at e;cases e
 simp[zAt,Ne.symm this]⟩
theorem qx9(a:H p=none)(r:Rc F H vs ds []):Rj F (upd H p (.l vs)) (.ref p) (.l false ds) [p]:=.l qb1 (r.same (Same.new a))
theorem qK0(a:H p=none)(r:Rc F H vs ds A):Rj F (upd H p (.q vs)) (.ref p) (.q ds) A:=.q qb1 (r.same (Same.new a))
theorem Rc.get(r:Rc F H vs ds A)(h:ds[n]?=some d):∃w B,vs[n]?=some w/\Rj F H w d B/\∀b,B.count b<=A.count b:=by obtain⟨w,B,C,a,c,e,_⟩:=r.kid h;exact⟨w,B,a,c,λb=>by have:=e b;lia⟩
theorem Rc.atI{ds:List D}{A:List γ}{i:Int}{d:D}(r:Rc F H vs ds A)(h:L2.atI ds i=some d):∃w B,L2.atI vs i=some w/\Rj F H w d B/\∀b,B.count b<=A.count b:=by unfold L2.atI at h ⊢;rw[r.len];cases e:ixN ds.length i with|none=>rw[e] at h;cases h|some j=>rw[e] at h;exact r.get h
theorem Rc.sub(r:Rc F H vs ds A)(n m:Nat):∃B,Rc F H ((vs.drop n).take m) ((ds.drop n).take m) B/\∀b,B.count b<=A.count b:=by induction n generalizing vs ds A with|zero=>(induction m generalizing vs ds A with|zero=>exact⟨[],.nil,λb=>by simp⟩|succ m a=>cases r with|nil=>exact⟨[],.nil,λb=>by simp⟩|cons h t=>obtain⟨B,c,q2⟩:=a t;exact⟨_,.cons h (by simpa using c),λb=>by simp only[zA0];have:=q2 b;lia⟩)|succ n a=>cases r with|nil=>exact⟨[],by simpa using Rc.nil,λb=>by simp⟩|cons h t=>grind
noncomputable def D.flat:D->Option V|.non=>some .non|.bl b=>some (.bl b)|.int i=>some (.int i)|.str x=>some (.str x)|_=>none
theorem Rj.flat(r:Rj F H v d B)(h:d.flat=some w):v=w/\flatV v=true:=by cases r<;>cases h<;>exact⟨rfl,rfl⟩
end
noncomputable def big:Nat:=1000000
theorem qh1:big<=M9:=∅
section
variable{F:γ->Prop}{H:Hp}
theorem Rc.imms0(r:Rc F H vs ds A)(h:D.imms ds=true):Rc F H vs ds []:=by have:=r.imms h;subst this;exact r
theorem Rc.rep(r:Rc F H vs ds []):∀k:Nat,Rc F H (Oa k vs).flatten (Oa k ds).flatten []|0=>.nil|k+1=>by rw[zBt,zBt,zCb,zCb];exact r.append (B:=[]) (r.rep k)
end
noncomputable def gd(p:Prop)[Decidable p](d:D):Option D:=if p then some d else none
theorem qi3{p:Prop}[Decidable p](h:gd p d=some e):p/\d=e:=by unfold gd at h;grind
theorem qi2{p:Prop}[Decidable p](h:p):gd p d=some d:=if_pos h
def Jd:D->D->Option D|.int i,.int j=>some (.int (i+j))|.str a,.str b=>gd (a.length+b.length<=big) (.str (a++b))|.l _ xs,.l _ ys=>gd (D.imms xs=true/\D.imms ys=true/\xs.length+ys.length<=big) (.l false (xs++ys))|_,_=>none
def rAddA:R2:=λx y H Q=>rI0 (λi j=>.int (i+j)) x y H Q∨(∃i j,x=.str i/\y=.str j/\i.length+j.length<=M9/\Q (.str (i++j)) H)∨rCat x y H Q
theorem qe5:OpR X (Nq .Add) rAddA:=qba2.or (qaf0.or qba1)
theorem Rc.both{F:γ->Prop}{H:Hp}{x y:D}{B:List γ}(r:Rc F H [v,w] [x,y] B):∃A A2,Rj F H v x A/\Rj F H w y A2:=by cases r with|cons a t=>cases t with|cons b _=>exact⟨_,_,a,b⟩
theorem Rj.int_inv{F:γ->Prop}{H:Hp}{i:Int}{A:List γ}(r:Rj F H v (.int i) A):v=.int i:=by cases r;rfl
theorem Rj.bl_inv{F:γ->Prop}{H:Hp}{b:Bool}{A:List γ}(r:Rj F H v (.bl b) A):v=.bl b:=by cases r;rfl
theorem Rj.str_inv{F:γ->Prop}{H:Hp}{b:Str}{A:List γ}(r:Rj F H v (.str b) A):v=.str b:=by cases r;rfl
theorem qaG0{x y d:D}(h:Jd x y=some d):(∃i j,x=.int i/\y=.int j/\d=.int (i+j))∨(∃a b,x=.str a/\y=.str b/\a.length+b.length<=big/\d=.str (a++b))∨∃z z' xs ys,x=.l z xs/\y=.l z' ys/\(D.imms xs=true/\D.imms ys=true/\xs.length+ys.length<=big)/\d=.l false (xs++ys):=by unfold Jd at h;split at h;{exact .inl ⟨_,_,rfl,rfl,(Qc h).symm⟩};{exact .inr (.inl ⟨_,_,rfl,rfl,(qi3 h).1,(qi3 h).2.symm⟩)};{exact .inr (.inr ⟨_,_,_,_,rfl,rfl,(qi3 h).1,(qi3 h).2.symm⟩)};cases h
theorem qe4:A7 true rAddA Jd:=by intro F H v w x y B d Q r h q;obtain⟨A,A2,c,e⟩:=r.both;rcases qaG0 h with⟨i,j,rfl,rfl,rfl⟩|⟨a,b,rfl,rfl,hl,rfl⟩|⟨z,z2,xs,ys,rfl,rfl,hl,rfl⟩;{exact .inl ⟨i,j,c.int_inv,e.int_inv,q _ H [] (.int _) (λ_ _ z=>z) New.nil⟩};{exact .inr (.inl ⟨a,b,c.str_inv,e.str_inv,zA7 hl qh1,q _ H [] (.str _) (λ_ _ z=>z) New.nil⟩)};obtain⟨a,k,_,l,m,g,_⟩:=c.lst_inv;obtain⟨b,n,_,e2,o,q2,_⟩:=e.lst_inv;refine .inr (.inr ⟨a,b,k,n,l,e2,m,o,by rw[g.len,q2.len];exact zA7 hl.2.2 qh1,λp f=>?_⟩);exact q _ _ [p] (qx9 f ((g.imms0 hl.1).append (q2.imms0 hl.2.1))) (Same.new f) (qg7 f)
noncomputable def small(i:Int):Bool:=decide (-(2 ^ 64)<i)&&decide (i<2 ^ 64)
theorem qT6{i:Int}(h:small i=true):-(2 ^ 64)<i/\i<2 ^ 64:=by have:=zAh.mp h;exact⟨zAe this.1,zAe this.2⟩
def Jm:D->D->Option D|.int i,.int j=>gd ((small i||small j)=true) (.int (i*j))|.l _ xs,.int k=>gd (D.imms xs=true/\xs.length*k.toNat<=big/\k<1000000/\-1000000<k) (.l false (Oa k.toNat xs).flatten)|_,_=>none
def rMulA:R2:=λx y H Q=>rI CMul (λi j=>.int (i*j)) x y H Q∨rRep x y H Q
theorem qA8:OpR X (Nq .Mult) rMulA:=qaZ5.or qaZ3
theorem qaF8{x y d:D}(h:Jm x y=some d):(∃i j,x=.int i/\y=.int j/\(small i||small j)=true/\d=.int (i*j))∨∃z xs k,x=.l z xs/\y=.int k/\(D.imms xs=true/\xs.length*k.toNat<=big/\k<1000000/\-1000000<k)/\d=.l false (Oa k.toNat xs).flatten:=by unfold Jm at h;split at h;{exact .inl ⟨_,_,rfl,rfl,(qi3 h).1,(qi3 h).2.symm⟩};{exact .inr ⟨_,_,_,rfl,rfl,(qi3 h).1,(qi3 h).2.symm⟩};cases h
theorem qA7:A7 true rMulA Jm:=by intro F H v w x y B d Q r h q;obtain⟨A,A2,c,e⟩:=r.both;rcases qaF8 h with⟨i,j,rfl,rfl,hl,rfl⟩|⟨z,xs,k,rfl,rfl,hl,rfl⟩;{exact .inl ⟨i,j,c.int_inv,e.int_inv,(Bool.or_eq_true_iff.mp hl).imp qT6 qT6,q _ H [] (.int _) (λ_ _ z=>z) New.nil⟩};obtain⟨a,g,_,l,m,f,_⟩:=c.lst_inv;refine .inr ⟨a,k,g,l,e.int_inv,m,⋯,⋯,by rw[f.len];exact zA7 hl.2.1 qh1,λp b=>?_⟩;exact q _ _ [p] (qx9 b ((f.imms0 hl.1).rep _)) (Same.new b) (qg7 b)
def gI(p:Int->Int->Bool)(f:Int->Int->D):D->D->Option D|.int i,.int j=>gd (p i j=true) (f i j)|_,_=>none
theorem qaS6{p:Int->Int->Bool}{f:Int->Int->D}{x y d:D}(h:gI p f x y=some d):∃i j,x=.int i/\y=.int j/\p i j=true/\d=f i j:=by unfold gI at h;split at h;{exact⟨_,_,rfl,rfl,(qi3 h).1,(qi3 h).2.symm⟩};cases h
theorem os_I(b:∀i j,p i j=true->C i j)(c:∀F H i j,Rj F H (a i j) (f i j) []):A7 true (rI C a) (gI p f):=by intro F H v w x y B d Q r h q;obtain⟨A,A2,e,g⟩:=r.both;obtain⟨i,j,rfl,rfl,k,rfl⟩:=qaS6 h;exact⟨i,j,e.int_inv,g.int_inv,b i j k,q _ H [] (c F H i j) (λ_ _ z=>z) New.nil⟩
theorem Jn(b:∀F H i j,Rj F H (a i j) (f i j) []):A7 true (rI0 a) (gI (λ_ _=>true) f):=by intro F H v w x y B d Q r h q;obtain⟨i,j,c,e,_,g⟩:=os_I (λ_ _ _=>trivial) b F H v w x y B d Q r h q;exact⟨i,j,c,e,g⟩
def gSub:=gI (λ_ _=>true) λi j=>.int (i-j)
def gDiv:=gI (λ_ j=>decide (0<j)&&decide (j<2 ^ 200)) λi j=>.int (i/j)
def La:=gI (λ_ j=>decide (0<j)) λi j=>.int (i%j)
def gLt:=gI (λ_ _=>true) λi j=>.bl (decide (i<j))
def gLe:=gI (λ_ _=>true) λi j=>.bl (decide (i<=j))
def gGt:=gI (λ_ _=>true) λi j=>.bl (decide (j<i))
def gGe:=gI (λ_ _=>true) λi j=>.bl (decide (j<=i))
theorem qm2:A7 true (rI0 λi j=>.int (i-j)) gSub:=Jn λ_ _ _ _=>.int _
theorem qaC5:A7 true (rI CDivB λi j=>.int (i/j)) gDiv:=os_I (λi j h=>by
 have:=zAh.mp h
 exact⟨zAe this.1,zAe this.2⟩) λ_ _ _ _=>.int _
theorem ql5:A7 true (rI (λ_ j=>0<j) λi j=>.int (i%j)) La:=os_I (λi j h=>zAe h) λ_ _ _ _=>.int _
theorem os_lt:A7 true (rI0 λi j=>.bl (decide (i<j))) gLt:=Jn λ_ _ _ _=>.bl _
theorem Ij:A7 true (rI0 λi j=>.bl (decide (i<=j))) gLe:=Jn λ_ _ _ _=>.bl _
theorem Gj:A7 true (rI0 λi j=>.bl (decide (j<i))) gGt:=Jn λ_ _ _ _=>.bl _
theorem Ko:A7 true (rI0 λi j=>.bl (decide (j<=i))) gGe:=Jn λ_ _ _ _=>.bl _
noncomputable def D.isN:D->Option Bool|.non=>some true|.u=>none|.hole _=>none|_=>some false
theorem Rj.isN(r:Rj F H v d B)(h:d.isN=some b):decide (v=.non)=b:=by cases r<;>cases h<;>rfl
def gIs:D->D->Option D|x,.non=>x.isN.map .bl|.bl a,.bl b=>some (.bl (a==b))|_,_=>none
def rIs:R2:=λx y H Q=>(y=.non/\Q (.bl (decide (x=.non))) H)∨(∃b c,x=.bl b/\y=.bl c/\Q (.bl (b==c)) H)
theorem qaS5{x y d:D}(h:gIs x y=some d):(y=.non/\∃b,x.isN=some b/\d=.bl b)∨∃a b,x=.bl a/\y=.bl b/\d=.bl (a==b):=by unfold gIs at h;split at h;{obtain⟨b,e,h⟩:=zAc.mp h;exact .inl ⟨rfl,b,e,h.symm⟩};{exact .inr ⟨_,_,rfl,rfl,(Qc h).symm⟩};cases h
theorem Rj.non_inv{F:γ->Prop}{H:Hp}{A:List γ}(r:Rj F H v .non A):v=.non:=zAe (r.isN rfl)
theorem Gc:A7 true rIs gIs:=by intro F H v w x y B d Q r h q;obtain⟨A,A2,c,f⟩:=r.both;rcases qaS5 h with⟨rfl,b,e,rfl⟩|⟨a,b,rfl,rfl,rfl⟩;{refine .inl ⟨f.non_inv,?_⟩;rw[c.isN e];exact q _ H [] (.bl _) (λ_ _ z=>z) New.nil};exact .inr ⟨a,b,c.bl_inv,f.bl_inv,q _ H [] (.bl _) (λ_ _ z=>z) New.nil⟩
theorem Gd:OpR X (M' .Is) rIs:=qaZ6.or qaZ7
theorem qaP2:OpR X (M' .IsNot) (λx y H Q=>∃b c,x=.bl b/\y=.bl c/\Q (.bl (b != c)) H):=by intro Fx s f H x y v u Q I a d ⟨b,c,e,e2,q⟩;subst e;subst e2;cases a;cases d;exact PyProof.Rows.isnot_bool ⟨.bl (b != c),H,I,rfl,q⟩
def Lb:D->D->Option D|x,.non=>x.isN.map λb=>.bl (!b)|.bl a,.bl b=>some (.bl (a != b))|_,_=>none
def rIsn:R2:=λx y H Q=>(y=.non/\Q (.bl (!decide (x=.non))) H)∨(∃b c,x=.bl b/\y=.bl c/\Q (.bl (b != c)) H)
theorem qaF9{x y d:D}(h:Lb x y=some d):(y=.non/\∃b,x.isN=some b/\d=.bl !b)∨∃a b,x=.bl a/\y=.bl b/\d=.bl (a != b):=by unfold Lb at h;split at h;{obtain⟨b,e,h⟩:=zAc.mp h;exact .inl ⟨rfl,b,e,h.symm⟩};{exact .inr ⟨_,_,rfl,rfl,(Qc h).symm⟩};cases h
theorem qu4:A7 true rIsn Lb:=by intro F H v w x y B d Q r h q;obtain⟨A,A2,c,f⟩:=r.both;rcases qaF9 h with⟨rfl,b,e,rfl⟩|⟨a,b,rfl,rfl,rfl⟩;{refine .inl ⟨f.non_inv,?_⟩;rw[c.isN e];exact q _ H [] (.bl _) (λ_ _ z=>z) New.nil};exact .inr ⟨a,b,c.bl_inv,f.bl_inv,q _ H [] (.bl _) (λ_ _ z=>z) New.nil⟩
theorem qq1:OpR X (M' .IsNot) rIsn:=qaP1.or qaP2
noncomputable def Hm(f:D->D->Option Bool):List D->List D->Option Bool|[],[]=>some true|x::xs,y::ys=>(f x y).bind λa=>(Hm f xs ys).bind λb=>some (a&&b)|_,_=>some false
def eqF(x y:D):Option Bool:=match x.flat,y.flat with|some v,some w=>some (eqV v w)|_,_=>none
noncomputable def D.dk:D->Option (Option (Int×Int))|.dct _ []=>some none|.dct _ [(.inl k,.int j)]=>some (some (k,j))|_=>none
def eqZ(x y:D):Option Bool:=if (x.dk.isSome&&x.dk==y.dk)=true then some true else eqF x y
def eqN:Nat->D->D->Option Bool|0,x,y=>eqZ x y|n+1,.l _ xs,.l _ ys=>Hm (eqN n) xs ys|n+1,.q xs,.q ys=>Hm (eqN n) xs ys|_,x,y=>eqZ x y
theorem qz4{f:D->D->Option Bool}:∀{xs ys:List D}{b:Bool},Hm f xs ys=some b->∃e:Nat->Bool,(∀i x y,xs[i]?=some x->ys[i]?=some y->f x y=some (e i))/\b=((Ob (min xs.length ys.length)).all e&&xs.length==ys.length)
 |[],[],b,h=>by cases h;exact⟨λ_=>true,λi x y h=>by simp at h,by simp⟩|[],y::ys,b,h=>by cases h;exact⟨λ_=>true,λi x y h=>by simp at h,by simp⟩|x::xs,[],b,h=>by cases h;exact⟨λ_=>true,λi x y _ h=>by simp at h,by simp⟩|x::xs,y::ys,b,h=>by
  obtain⟨a,k,h⟩:=zA1.mp h;obtain⟨o,l,h⟩:=zA1.mp h;cases h;obtain⟨e,m,q2⟩:=qz4 l;refine⟨λi=>match i with|0=>a|i+1=>e i,λi c d g j=>?_,?_⟩
  .cases i with
   |zero=>
    have n:x=c:=by simpa using g
    have e2:y=d:=by simpa using j
    subst n;subst e2;exact k
   |succ i=>exact m i c d (by simpa using g) (by simpa using j)
  rw[q2,zAp,zAp,Nat.add_min_add_right,List.range_succ_eq_map,Oh,Py];have:(xs.length+1==ys.length+1)=(xs.length==ys.length):=by by_cases h:xs.length=ys.length;{simp[h]};simp[h]
  rw[this,<-Bool.and_assoc];rfl
section
variable{F:γ->Prop}{H:Hp}
theorem Rj.eqF(r1:Rj F H v x A)(c:Rj F H w y B)(h:LV.eqF x y=some b):flatV v=true/\flatV w=true/\eqV v w=b:=by unfold LV.eqF at h;cases a:x.flat with|none=>rw[a] at h;cases h|some d=>cases e2:y.flat with|none=>rw[a,e2] at h;cases h|some e=>rw[a,e2] at h;obtain⟨rfl,f1⟩:=r1.flat a;obtain⟨rfl,f2⟩:=c.flat e2;exact⟨f1,f2,Qc h⟩
theorem Rj.dk{x:D}{A:List γ}{o:Option (Int×Int)}(r:Rj F H v x A)(h:x.dk=some o):∃a,v=.ref a/\H a=some (.dK (kvO o)):=by unfold D.dk at h;split at h;{cases h;obtain⟨a,b,_,rfl,e,q,_⟩:=r.dct_inv;exact⟨a,rfl,by rw[e,List.map_eq_nil_iff.mp q];rfl⟩};{cases h;obtain⟨a,b,_,rfl,e,q,t,_⟩:=r.dct_inv;refine⟨a,rfl,e.trans (congrArg _ ?_)⟩;obtain _|⟨⟨k,w⟩,_|_⟩:=b;{cases q};{cases t with|cons p _=>cases p;cases q;rfl};cases q};cases h
theorem Rj.eqZ(r1:Rj F H v x A)(e:Rj F H w y B)(h:LV.eqZ x y=some b):(flatV v=true/\flatV w=true/\eqV v w=b)∨(b=true/\∃a c o,v=.ref a/\w=.ref c/\H a=some (.dK (kvO o))/\H c=some (.dK (kvO o))):=by unfold LV.eqZ at h;split at h;{rename_i hd;obtain⟨d,f⟩:=zAh.mp hd;obtain⟨o,d⟩:=zB4.mp d;obtain⟨a,g,i⟩:=r1.dk d;obtain⟨c,e2,q2⟩:=e.dk ((eq_of_beq f).symm.trans d);cases h;exact .inr ⟨rfl,a,c,o,g,e2,i,q2⟩};exact .inl (r1.eqF e h)
theorem qW8(n:Nat)(x y:D):(eqN (n+1) x y=LV.eqZ x y)∨(∃z xs z' ys,x=.l z xs/\y=.l z' ys)∨∃xs ys,x=.q xs/\y=.q ys:=by cases x with|l z xs=>(cases y with|l z' ys=>exact .inr (.inl ⟨_,_,_,_,rfl,rfl⟩)|_=>exact .inl rfl)|q xs=>(cases y with|q ys=>exact .inr (.inr ⟨_,_,rfl,rfl⟩)|_=>exact .inl rfl)|_=>exact .inl rfl
theorem qR9(x y:D):eqN 0 x y=LV.eqZ x y:=rfl
theorem qW9(f:∀{v:V}{x y:D}{A B:List γ}{b:Bool},Rj F H v x A->Rj F H v y B->eqN n x y=some b->b=true):∀{vs:List V}{xs ys:List D}{A B:List γ}{b:Bool},Rc F H vs xs A->Rc F H vs ys B->Hm (eqN n) xs ys=some b->b=true:=by
 intro vs;induction vs with
 |nil=>intro xs ys A B b c d h;cases c;cases d;cases h;rfl|cons v vs e=>
  intro xs ys A B b c d h;cases c with|cons p1 t1=>cases d with|cons g t2=>
  obtain⟨a,i,h⟩:=zA1.mp h;obtain⟨k,j,h⟩:=zA1.mp h;cases h;rw[f p1 g i,e t1 t2 j];rfl
theorem qaj6:∀{n:Nat}{v:V}{x y:D}{A B:List γ}{b:Bool},Rj F H v x A->Rj F H v y B->eqN n x y=some b->b=true:=by intro n;induction n with|zero=>intro v x y A B b c d h;rw[qR9] at h;rcases c.eqZ d h with⟨f1,f2,rfl⟩|⟨rfl,_⟩;{exact qz2 f1};rfl|succ n k=>intro v x y A B b c d h;rcases qW8 n x y with e|⟨z,l,q,m,rfl,rfl⟩|⟨l,m,rfl,rfl⟩;{rw[e] at h;rcases c.eqZ d h with⟨f1,f2,rfl⟩|⟨rfl,_⟩;{exact qz2 f1};rfl};{obtain⟨a,o,_,rfl,g,i,_⟩:=c.lst_inv;obtain⟨p,j,_,e,f,q2,_⟩:=d.lst_inv;cases e;rw[g] at f;cases f;exact qW9 k i q2 h};obtain⟨a,o,rfl,g,i⟩:=c.tup_inv;obtain⟨p,j,e,f,q2⟩:=d.tup_inv;cases e;rw[g] at f;cases f;exact qW9 k i q2 h
theorem Rc.getV(r:Rc F H vs ds A)(h:vs[n]?=some w):∃d B,ds[n]?=some d/\Rj F H w d B:=by have c:=r.len;have e:=(zA5.mp h).1;obtain⟨f,B,a,b,_⟩:=r.get (n:=n) (d:=ds[n]'⋯) (by simp);rw[h] at a;cases a;exact⟨_,B,by simp,b⟩
theorem qW6(r1:Rj F H v x A)(d:Rj F H w y B)(h:LV.eqZ x y=some b):EqD H n v w b:=by rcases r1.eqZ d h with⟨f1,f2,rfl⟩|⟨rfl,a,a',_,rfl,rfl,q1,q2⟩;{exact .flat f1 f2};by_cases c:a=a';{subst c;exact .same a};exact .dcts c q1 q2
theorem qW7:∀{n:Nat}{v w:V}{x y:D}{A B:List γ}{b:Bool},Rj F H v x A->Rj F H w y B->eqN n x y=some b->EqD H n v w b:=by
 intro n;induction n with
 |zero=>intro v w x y A B b c d h;rw[qR9] at h;exact qW6 c d h|succ n I=>
  intro v w x y A B b c d h;rcases qW8 n x y with e|⟨z,J,L,K,rfl,rfl⟩|⟨J,K,rfl,rfl⟩;{rw[e] at h;exact qW6 c d h}
  .obtain⟨a,m,_,rfl,k,g,_⟩:=c.lst_inv;obtain⟨o,r,_,rfl,l,q2,_⟩:=d.lst_inv;by_cases f:a=o;{subst f;cases qaj6 (n:=n+1) c d h;exact .same a};obtain⟨e,s,rfl⟩:=qz4 h;rw[<-g.len,<-q2.len];by_cases j:m.length=r.length;{rw[j,Nat.min_self,zB1,Bool.and_true,<-j];refine .lsts f k l j λi p q t e2=>?_;obtain⟨x,_,u,C⟩:=g.getV t;obtain⟨y,_,E,G⟩:=q2.getV e2;exact I C G (s i x y u E)};have:(m.length==r.length)=false:=by simpa using j
   rw[this,Bool.and_false];exact .lens f k l j
  obtain⟨a,m,rfl,k,g⟩:=c.tup_inv;obtain⟨o,r,rfl,l,q2⟩:=d.tup_inv;by_cases f:a=o;{subst f;cases qaj6 (n:=n+1) c d h;exact .same a};obtain⟨e,s,rfl⟩:=qz4 h;rw[<-g.len,<-q2.len];refine .tups f k l λi p q t e2=>?_;obtain⟨x,_,u,C⟩:=g.getV t;obtain⟨y,_,E,G⟩:=q2.getV e2;exact I C G (s i x y u E)
end
noncomputable def D.sq:D->Option (Bool×Ds)|.l _ xs=>some (false,xs)|.q xs=>some (true,xs)|_=>none
theorem L9{d:D}{xs:Ds}(h:d.sq=some (false,xs)):∃z,d=.l z xs:=by cases d with|l z a=>cases h;grind|_=>cases h
theorem Ma{d:D}{xs:Ds}(h:d.sq=some (true,xs)):d=.q xs:=by cases d with|q a=>cases h;rfl|_=>cases h
noncomputable def D.isD:D->Bool|.dct _ _=>true|_=>false
def eqT(x y:D):Option Bool:=match x.sq,y.sq with|some (false,xs),some (false,ys)=>Hm (eqN 20) xs ys|some (true,xs),some (true,ys)=>Hm (eqN 20) xs ys|some _,some _=>some false|some _,none=>y.flat.map λ_=>false|none,some (k,_)=>if (k&&x.isD)=true then some false else x.flat.map λ_=>false|none,none=>eqZ x y
theorem Rj.flatV(r:Rj F H v d B)(h:(d.flat.map λ_=>false)=some b):L2.flatV v=true/\b=false:=by cases e:d.flat with|none=>rw[e] at h;cases h|some w=>rw[e] at h;cases h;exact⟨(r.flat e).2,rfl⟩
theorem Rj.rc(r1:Rj F H v x A)(l:Rj F H w y B)(h:eqT x y=some b):RcD H v w b:=by
 unfold eqT at h;cases d:x.sq with
 |none=>cases e2:y.sq with|none=>rw[d,e2] at h;rcases r1.eqZ l h with⟨f1,f2,rfl⟩|⟨rfl,a,n,_,rfl,rfl,j,q2⟩;{exact .flat f1 f2};exact .dcts j q2|some p=>obtain⟨k,J⟩:=p;rw[d,e2] at h;cases k with|false=>obtain⟨z,rfl⟩:=L9 e2;obtain⟨f,rfl⟩:=r1.flatV h;obtain⟨n,m,_,rfl,c,q2,_⟩:=l.lst_inv;exact .fl c f|true=>obtain rfl:=Ma e2;obtain⟨n,m,rfl,c,q2⟩:=l.tup_inv;cases s:x.isD with|false=>rw[s] at h;obtain⟨f,rfl⟩:=r1.flatV h;exact .ft c f|true=>rw[s] at h;cases h;cases x with|dct z L=>obtain⟨a,K,_,rfl,e,_⟩:=r1.dct_inv;exact .dt e c|_=>cases s
 |some p=>
  obtain⟨k,M⟩:=p;cases e2:y.sq with
  |none=>
   rw[d,e2] at h;have h:(y.flat.map λ_=>false)=some b:=by cases k<;>exact h
   obtain⟨f,rfl⟩:=l.flatV h;cases k with|false=>obtain⟨z,rfl⟩:=L9 d;obtain⟨a,o,_,rfl,g,j,_⟩:=r1.lst_inv;exact .lf g f|true=>obtain rfl:=Ma d;obtain⟨a,o,rfl,g,j⟩:=r1.tup_inv;exact .tf g f
  |some p=>
   obtain⟨I,J⟩:=p;rw[d,e2] at h;cases k with
   |false=>
    obtain⟨z,rfl⟩:=L9 d;obtain⟨a,o,_,rfl,g,j,_⟩:=r1.lst_inv;cases I with
    |false=>
     obtain⟨z,rfl⟩:=L9 e2;obtain⟨n,m,_,rfl,c,q2,_⟩:=l.lst_inv;obtain⟨e,t,rfl⟩:=qz4 h;rw[<-j.len,<-q2.len];by_cases r:o.length=m.length;{rw[r,Nat.min_self,zB1,Bool.and_true,<-r];refine .lsts g c r λi p q d e2=>?_;obtain⟨x,_,u,C⟩:=j.getV d;obtain⟨y,_,E,G⟩:=q2.getV e2;exact qW7 C G (t i x y u E)};have:(o.length==m.length)=false:=by simpa using r
     rw[this,Bool.and_false];exact .lens g c r
    |true=>obtain rfl:=Ma e2;obtain⟨n,m,rfl,c,q2⟩:=l.tup_inv;cases h;exact .lt g c
   |true=>obtain rfl:=Ma d;obtain⟨a,o,rfl,g,j⟩:=r1.tup_inv;cases I with|true=>obtain rfl:=Ma e2;obtain⟨n,m,rfl,c,q2⟩:=l.tup_inv;obtain⟨e,t,rfl⟩:=qz4 h;rw[<-j.len,<-q2.len];refine .tups g c λi p q d e2=>?_;obtain⟨x,_,u,C⟩:=j.getV d;obtain⟨y,_,E,G⟩:=q2.getV e2;exact qW7 C G (t i x y u E)|false=>obtain⟨z,rfl⟩:=L9 e2;obtain⟨n,m,_,rfl,c,q2,_⟩:=l.lst_inv;cases h;exact .tl g c
def gEq(x y:D):Option D:=(eqT x y).map .bl
def gNe(x y:D):Option D:=(eqT x y).map λb=>.bl (!b)
theorem Bc:A7 true rEqD gEq:=by intro F H v w x y B d Q r h q;obtain⟨A,A2,a,c⟩:=r.both;obtain⟨b,e,rfl⟩:=zAc.mp h;exact⟨b,a.rc c e,q _ H [] (.bl _) (λ_ _ z=>z) New.nil⟩
theorem B8:A7 true rNeD gNe:=by intro F H v w x y B d Q r h q;obtain⟨A,A2,a,c⟩:=r.both;obtain⟨b,e,rfl⟩:=zAc.mp h;exact⟨b,a.rc c e,q _ H [] (.bl _) (λ_ _ z=>z) New.nil⟩
def flats:List D->Option (List V)|[]=>some []|d::r=>d.flat.bind λv=>(flats r).bind λvs=>some (v::vs)
theorem Rc.flats:∀{vs a:List V}{ds:List D}{A:List γ},Rc F H vs ds A->LV.flats ds=some a->vs=a/\vs.all L2.flatV=true|_,_,_,_,.nil,h=>by cases h;exact⟨rfl,rfl⟩|_,_,_,_,.cons r t,h=>by obtain⟨v,b,h⟩:=zA1.mp h;obtain⟨vs,c,h⟩:=zA1.mp h;cases h;obtain⟨rfl,f⟩:=r.flat b;obtain⟨rfl,g⟩:=t.flats c;exact⟨rfl,by rw[Oh,f,g];rfl⟩
def J1(neg:Bool)(x y:D):Option D:=x.flat.bind λv=>y.elems.bind λys=>(flats ys).bind λa=>some (.bl (if neg then !inV v a else inV v a))
theorem Ik:A7 true (rIn K neg) (J1 neg):=by intro F H v w x y B d Q r h q;obtain⟨A,A2,b,c⟩:=r.both;obtain⟨n,e,h⟩:=zA1.mp h;obtain⟨o,i,h⟩:=zA1.mp h;obtain⟨p,j,h⟩:=zA1.mp h;cases h;obtain⟨rfl,f⟩:=b.flat e;obtain⟨a,k,A3,rfl,l,m,_⟩:=c.elems (K:=K) i;obtain⟨rfl,g⟩:=m.flats j;exact⟨a,k,rfl,l,f,g,q _ H [] (.bl _) (λ_ _ z=>z) New.nil⟩
def gIx(x y:D):Option D:=match y with|.int i=>x.elems.bind λys=>atI ys i|_=>none
theorem qaS4{x y d:D}(h:gIx x y=some d):∃i ys,y=.int i/\x.elems=some ys/\atI ys i=some d:=by cases y with|int i=>obtain⟨ys,a,h⟩:=zA1.mp h;exact⟨i,ys,rfl,a,h⟩|_=>cases h
theorem Am:A7 false (rIx K) gIx:=by
 intro F H v w x y B d Q r h q;cases r with|@cons _ _ A _ _ _ l t=>cases t with|@cons _ _ A2 _ _ _ m _=>
 obtain⟨i,p,rfl,n,h⟩:=qaS4 h;obtain rfl:=m.int_inv;obtain⟨a,j,A3,rfl,c,o,s⟩:=l.elems n;obtain⟨f,B',k,g,u⟩:=o.atI h;have e:=q f H B' g (λ_ _ z=>z) (by rw[if_neg ∅];exact λb=>.inl (by grind));rcases c with c|c;{exact .inl ⟨a,j,i,f,rfl,rfl,c,k,e⟩};exact .inr (.inl ⟨a,j,i,f,rfl,rfl,c,k,e⟩)
section
variable{F:γ->Prop}{H:Hp}
theorem Rc.one_inv(r:Rc F H vs [x] B):∃v,vs=[v]/\Rj F H v x B:=by cases r with|cons h t=>cases t;exact⟨_,rfl,by rw[zAi];exact h⟩
theorem Rc.two_inv(r:Rc F H vs [x,y] B):∃v w A C,vs=[v,w]/\Rj F H v x A/\Rj F H w y C/\∀b,B.count b=A.count b+C.count b:=by cases r with|cons h t=>cases t with|cons a t=>cases t;exact⟨_,_,_,_,rfl,h,a,λb=>by simp[zA0]⟩
end
noncomputable def fx1(g:D->Option D):Ds->Option D|[x]=>g x|_=>none
noncomputable def fx2(g:D->D->Option D):Ds->Option D|[x,y]=>g x y|_=>none
def CS1(nw:Bool)(r:List V->Hp->VK->Prop)(g:D->Option D):Prop:=∀F H v x B d (Q:VK),Rj F H v x B->g x=some d->(∀v H' B',Rj F H' v d B'->Same H H'->(if nw=true then New H B' else Sub H B B')->Q v H')->r [v] H Q
theorem CS1.ops(h:CS1 nw r g):OpS nw r (fx1 g):=by intro F H c a B d Q r e q;match a,e with|[x],e=>obtain⟨v,rfl,b⟩:=r.one_inv;exact h F H v x B d Q b e q
def Ia(x:D):Option D:=match x with|.str z=>gd (z.length<=big) (.int z.length)|.dct _ kvs=>some (.int kvs.length)|x=>x.elems.map λys=>.int ys.length
def rLenA(K:Qe):List V->Hp->VK->Prop:=λxs H Q=>(∃p ys,xs=[.ref p]/\(SqL K H p ys∨SqT K H p ys)/\Q (.int ys.length) H)∨(∃z,xs=[.str z]/\z.length<=M9/\Q (.int z.length) H)∨(∃a kvs,xs=[V.ref a]/\H a=some (.dK kvs)/\Q (.int kvs.length) H)
theorem qu8:CallR X (.builtin "len") (rLenA X.K):=qS5.or (qS4.or qat1)
theorem qaQ7{x d:D}(h:Ia x=some d):(∃z,x=.str z/\z.length<=big/\d=.int z.length)∨(∃z kvs,x=.dct z kvs/\d=.int kvs.length)∨∃ys,x.elems=some ys/\d=.int ys.length:=by unfold Ia at h;split at h;{exact .inl ⟨_,rfl,(qi3 h).1,(qi3 h).2.symm⟩};{exact .inr (.inl ⟨_,_,rfl,(Qc h).symm⟩)};obtain⟨ys,e,h⟩:=zAc.mp h;exact .inr (.inr ⟨ys,e,h.symm⟩)
theorem qu7:CS1 true (rLenA K) Ia:=by
 intro F H v x B d Q r h q;rcases qaQ7 h with⟨z,rfl,hl,rfl⟩|⟨z,kds,rfl,rfl⟩|⟨ys,e,rfl⟩;{exact .inr (.inl ⟨z,by rw[r.str_inv],zA7 hl qh1,q _ H [] (.int _) (λ_ _ z=>z) New.nil⟩)}
 .obtain⟨a,b,A,rfl,c,e,f,_⟩:=r.dct_inv;refine .inr (.inr ⟨a,b,rfl,c,?_⟩);have:b.length=kds.length:=by have:=congrArg Of e;simpa using this
  rw[this];exact q _ H [] (.int _) (λ_ _ z=>z) New.nil
 obtain⟨a,g,A,rfl,c,f,_⟩:=r.elems e;refine .inl ⟨a,g,rfl,c,?_⟩;rw[f.len];exact q _ H [] (.int _) (λ_ _ z=>z) New.nil
noncomputable def gAbs:D->Option D|.int i=>some (.int (if i<0 then -i else i))|_=>none
noncomputable def gInt:D->Option D|.int i=>some (.int i)|.bl b=>some (.int (if b then 1 else 0))|_=>none
theorem qaT8:CS1 true (λxs H Q=>(∃i,xs=[.int i]/\Q (.int i) H)∨∃k,xs=[.bl k]/\Q (.int (if k then 1 else 0)) H) gInt:=by intro F H v x B d Q r h q;cases x with|int i=>cases h;cases r;exact .inl ⟨i,rfl,q _ H [] (.int _) (λ_ _ z=>z) New.nil⟩|bl i=>cases h;cases r;exact .inr ⟨i,rfl,q _ H [] (.int _) (λ_ _ z=>z) New.nil⟩|_=>cases h
def Jo(x:D):Option D:=x.elems.bind λys=>gd (D.imms ys=true) (.l false ys)
theorem qz6:CS1 true (λxs H Q=>∃p ys,xs=[.ref p]/\(SqL K H p ys∨SqT K H p ys)/\∀l,H l=none->Q (.ref l) (upd H l (.l ys))) Jo:=by intro F H v x B d Q r h q;obtain⟨ys,e,h⟩:=zA1.mp h;obtain⟨c,rfl⟩:=qi3 h;obtain⟨a,f,A,rfl,g,i,_⟩:=r.elems e;exact⟨a,f,rfl,g,λp b=>q _ _ [p] (qx9 b (i.imms0 c)) (Same.new b) (qg7 b)⟩
def qbc5(x:D):Option D:=match x with|.l _ ys=>gd (D.imms ys=true) (.q ys)|.q ys=>gd (D.imms ys=true) (.q ys)|_=>none
theorem qaH5{K:Qe}:CS1 true (λxs H Q=>∃p ys,xs=[.ref p]/\((SqL K H p ys/\∀l,H l=none->Q (.ref l) (upd H l (.q ys)))∨(SqT K H p ys/\Q (.ref p) H))) qbc5:=by intro F H v x B d Q r h q;cases x with|l z ys=>obtain⟨c,rfl⟩:=qi3 h;obtain⟨a,e,A,rfl,b,f,_⟩:=r.lst_inv;exact⟨a,e,rfl,.inl ⟨.inl (.inl b),λp g=>q _ _ [] (qK0 g (f.imms0 c)) (Same.new g) New.nil⟩⟩|q ys=>obtain⟨c,rfl⟩:=qi3 h;obtain⟨a,e,rfl,b,f⟩:=r.tup_inv;exact⟨a,e,rfl,.inr ⟨.inl (.inl b),q _ _ [] (.q b (f.imms0 c)) (λ_ _ z=>z) New.nil⟩⟩|_=>cases h
noncomputable def D.intO:D->Option Int|.int k=>some k|_=>none
def pairK:D->Option (Key×D)|.q [a,x]=>a.intO.bind λk=>if x.imm=true then some (.inl k,x) else none|_=>none
def qZ5:List D->Option (List (Key×D))|[]=>some []|d::r=>(pairK d).bind λp=>(qZ5 r).bind λps=>some (p::ps)
noncomputable def Hn(kvs:List (Key×D))(k:Key)(v:D):List (Key×D):=if (kvs.any λa=>decide (a.1=k))=true then kvs.map (λa=>if a.1=k then (a.1,v) else a) else kvs++[(k,v)]
def qt3(kvs more:List (Key×D)):List (Key×D):=more.foldl (λacc a=>Hn acc a.1 a.2) kvs
abbrev KP(F:γ->Prop)(H:Hp)(kvs:List (Key×V))(kds:List (Key×D)):Prop:=Paired (λ(p:Key×V)(q:Key×D)=>p.1=q.1/\Rj F H p.2 q.2 []) kvs kds
section
variable{F:γ->Prop}{H:Hp}
theorem KP.maps(h:KP F H kvs kds):kvs.map (·.1)=kds.map (·.1)/\Rc F H (kvs.map (·.2)) (kds.map (·.2)) []:=by induction h with|nil=>exact⟨rfl,.nil⟩|cons a _ b=>exact⟨by rw[zAw,zAw,a.1,b.1],.cons a.2 b.2⟩
theorem KP.any(h:KP F H kvs kds)(k:Key):(kvs.any λb=>decide (b.1=k))=kds.any λb=>decide (b.1=k):=by induction h with|nil=>rfl|cons a _ c=>rw[zCp,zCp,a.1,c]
theorem KP.append(h:KP F H kvs kds)(h':KP F H kvs' kds'):KP F H (kvs++kvs') (kds++kds'):=by induction h with|nil=>exact h'|cons a _ b=>exact .cons a b
theorem KP.mapk(h:KP F H kvs kds)(r:Rj F H v d []):KP F H (kvs.map λb=>if b.1=k then (b.1,v) else b) (kds.map λb=>if b.1=k then (b.1,d) else b):=by induction h with|nil=>exact .nil|@cons p q _ _ a _ ih=>refine .cons ?_ ih;show (if p.1=k then (p.1,v) else p).1=(if q.1=k then (q.1,d) else q).1/\Rj F H (if p.1=k then (p.1,v) else p).2 (if q.1=k then (q.1,d) else q).2 [];rw[<-a.1];split;{exact⟨rfl,r⟩};exact a
theorem KP.put(h:KP F H kvs kds)(r:Rj F H v d []):KP F H (putK kvs k v) (Hn kds k d):=by unfold putK Hn;rw[h.any k];split;{exact h.mapk r};exact h.append (.cons ⟨rfl,r⟩ .nil)
theorem KP.merge(h:KP F H more mored):∀{kvs:List (Key×V)}{kds:List (Key×D)},KP F H kvs kds->KP F H (qs7 kvs more) (qt3 kds mored):=by induction h with|nil=>exact λh=>h|@cons p q _ _ a _ ih=>intro kvs kds h;have:=ih (h.put (k:=p.1) a.2);rw[a.1] at this;show KP F H (qs7 (putK kvs p.1 p.2) _) (qt3 (Hn kds q.1 q.2) _);rw[a.1];exact this
theorem qaF2{x:D}{i:Int}(h:x.intO=some i):x=.int i:=by cases x with|int k=>cases h;rfl|_=>cases h
theorem qaC2(r:Rc F H vs ds A)(h:qZ5 ds=some ps):∃kvs,qax9 H vs kvs/\KP F H kvs ps:=by induction ds generalizing vs A ps with|nil=>cases r;cases h;exact⟨[],.nil,.nil⟩|cons d ds g=>cases r with|cons j t=>obtain⟨p,b,h⟩:=zA1.mp h;obtain⟨ps,l,h⟩:=zA1.mp h;cases h;obtain⟨kvs,m,q2⟩:=g t l;unfold pairK at b;split at b;{rename_i k x;obtain⟨i,n,b⟩:=zA1.mp b;obtain rfl:=qaF2 n;split at b;{rename_i hm;cases b;obtain⟨a,s,rfl,o,e⟩:=j.tup_inv;obtain⟨u,q,A1,A2,rfl,f,c,_⟩:=e.two_inv;obtain rfl:=f.int_inv;have:=c.imm hm;subst this;exact⟨(.inl i,q)::kvs,.cons ⟨a,rfl,o⟩ m,.cons ⟨rfl,c⟩ q2⟩};cases b};cases b
theorem qaP8(a:H p=none)(r:KP F H kvs kds):Rj F (upd H p (.dK kvs)) (.ref p) (.dct false kds) [p]:=.dct qb1 r.maps.1 (r.maps.2.same (Same.new a))
end
def Kq(x:D):Option D:=match x with|.l _ ys=>(qZ5 ys).map λps=>.dct false (qt3 [] ps)|_=>none
theorem qax2:CS1 true qaL4 Kq:=by intro F H v x B d Q r h q;cases x with|l z k=>obtain⟨l,e,rfl⟩:=zAc.mp h;obtain⟨a,f,A,rfl,g,i,_⟩:=r.lst_inv;obtain⟨b,j,q2⟩:=qaC2 i e;exact⟨a,f,b,rfl,g,j,λp c=>q _ _ [p] (qaP8 c (q2.merge .nil)) (Same.new c) (qg7 c)⟩|_=>cases h
noncomputable def D.kind:D->Option String|.non=>some "NoneType" | .bl _=>some "bool" | .int _=>some "int" | .str _=>some "str" | .l _ _=>some "list" | .q _=>some "tuple" | .dct _ _=>some "dict"|_=>none
theorem Rj.kind(r:Rj F H v d B)(h:d.kind=some t):Gi H v=some t:=by cases r with|q e _=>cases h;exact qaE8 e|l e _=>cases h;exact qag7 e|lstZ e _ _=>cases h;exact qag7 e|dct e _ _=>cases h;exact qav9 e|dctZ e _ _ _=>cases h;exact qav9 e|_=>cases h<;>rfl
noncomputable def Lc(n:String):Bool:=n=="bool" || n=="int" || n=="str" || n=="list" || n=="tuple" || n=="dict"
def Jp(x y:D):Option D:=match y with|.ty n=>if Lc n=true then x.kind.map λt=>.bl (Hh t n) else none|_=>none
def CS2(nw:Bool)(r:List V->Hp->VK->Prop)(g:D->D->Option D):Prop:=∀F H v w x y A B d (Q:VK),Rj F H v x A->Rj F H w y B->g x y=some d->(∀v H' B',Rj F H' v d B'->Same H H'->(if nw=true then New H B' else Sub H (A++B) B')->Q v H')->r [v,w] H Q
theorem CS2.ops(h:CS2 nw r g):OpS nw r (fx2 g):=by intro F H l c B d Q r e q;match c,e with|[x,y],e=>obtain⟨v,w,A,C,rfl,f,i,j⟩:=r.two_inv;refine h F H v w x y A C d Q f i e λu H' B' k s a=>q u H' B' k s ?_;cases nw with|true=>exact a|false=>rw[if_neg ∅] at a ⊢;exact λb=>(a b).imp (λz=>by rw[zA0] at z;have:=j b;lia) id
theorem qB7:CS2 true rIsi Jp:=by intro F H v w x y A B d Q b c e q;cases y with|ty n=>cases c;have e:(if Lc n=true then x.kind.map λt=>D.bl (Hh t n) else none)=some d:=e;by_cases a:Lc n=true;{rw[if_pos a] at e;obtain⟨t,f,rfl⟩:=zAc.mp e;refine⟨v,n,t,rfl,b.kind f,?_,q _ H [] (.bl _) (λ_ _ z=>z) New.nil⟩;simp only[Lc,Bool.or_eq_true,zBl] at a;simp only[zAl,zB0,or_false];rcases a with ((((h|h)|h)|h)|h)|h;{exact .inl h};{exact .inr (.inl h)};{exact .inr (.inr (.inl h))};{exact .inr (.inr (.inr (.inl h)))};{exact .inr (.inr (.inr (.inr (.inl h))))};exact .inr (.inr (.inr (.inr (.inr h))))};grind|_=>cases e
def D.isC(C:γ)(x:D):Option D:=match x with|.ins _ C' _=>if C'=C then some (.bl true) else none|x=>x.kind.map λ_=>.bl false
def Ib(C:γ)(x y:D):Option D:=match y with|.adr a=>if a=C then x.isC C else none|_=>none
theorem qaR4{C:γ}{x y d:D}(h:Ib C x y=some d):y=.adr C/\((∃z fs,x=.ins z C fs/\d=.bl true)∨∃t,x.kind=some t/\d=.bl false):=by
 cases y with
 |adr a=>
  have h:(if a=C then x.isC C else none)=some d:=h;by_cases b:a=C
  .rw[if_pos b] at h;subst b;refine⟨rfl,?_⟩;have k:(x.kind.map λ_=>D.bl false)=some d->∃t,x.kind=some t/\d=.bl false:=λe=>by obtain⟨t,c,e⟩:=zAc.mp e;exact⟨t,c,e.symm⟩
   cases x with|ins z C' fs=>have h:(if C'=a then some (D.bl true) else none)=some d:=h;by_cases b:C'=a;{rw[if_pos b] at h;exact .inl ⟨z,fs,by rw[b],(Qc h).symm⟩};grind|_=>exact .inr (k h)
  rw[if_neg b] at h;cases h
 |_=>cases h
theorem qbd3:CS2 true (rIsO C) (Ib C):=by intro F H v w x y A B d Q b c e q;obtain⟨rfl,h⟩:=qaR4 e;cases c;rcases h with⟨z,fs,rfl,rfl⟩|⟨t,ht,rfl⟩;{obtain⟨p,f,a,_,rfl,h,_,_,_⟩:=b.ins_inv;exact⟨_,rfl,.inl ⟨p,f,a,rfl,h,q _ H [] (.bl _) (λ_ _ z=>z) New.nil⟩⟩};exact⟨_,rfl,.inr ⟨t,b.kind ht,q _ H [] (.bl _) (λ_ _ z=>z) New.nil⟩⟩
def gMax2:=gI (λ_ _=>true) λi j=>.int (if j>i then j else i)
def gMin2:=gI (λ_ _=>true) λi j=>.int (if j<i then j else i)
theorem cs_I2{f:Int->Int->Int}:CS2 true (λxs H Q=>∃i j,xs=[.int i,.int j]/\Q (.int (f i j)) H) (gI (λ_ _=>true) λi j=>.int (f i j)):=by intro F H v w x y A B d Q a b e q;obtain⟨i,j,rfl,rfl,_,rfl⟩:=qaS6 e;exact⟨i,j,by rw[a.int_inv,b.int_inv],q _ H [] (.int _) (λ_ _ z=>z) New.nil⟩
theorem qax1:CS2 true (λxs H Q=>∃i j,xs=[.int i,.int j]/\Q (.int (if j>i then j else i)) H) gMax2:=cs_I2
theorem qaj9:CS2 true (λxs H Q=>∃i j,xs=[.int i,.int j]/\Q (.int (if j<i then j else i)) H) gMin2:=cs_I2
noncomputable def bools:List D->Option (List Bool)|[]=>some []|.bl b::r=>(bools r).map λbs=>b::bs|_=>none
theorem Rc.bools:∀{vs:List V}{ds:List D}{A:List γ}{bs:List Bool},Rc F H vs ds A->LV.bools ds=some bs->vs=bs.map V.bl:=by intro vs ds;induction ds generalizing vs with|nil=>intro A bs r h;cases r;cases h;rfl|cons d ds a=>intro A bs r h;cases r with|cons c t=>cases d with|bl b=>obtain⟨e,f,rfl⟩:=zAc.mp h;cases c;rw[a t f];rfl|_=>cases h
def gAll(x:D):Option D:=match x with|.l _ ys=>(bools ys).map λbs=>.bl (bs.all id)|_=>none
theorem qaT9:CS1 true (λxs H Q=>∃(a:γ)(bs:List Bool),xs=[.ref a]/\SqL K H a (bs.map V.bl)/\Q (.bl (bs.all id)) H) gAll:=by intro F H v x B d Q r h q;cases x with|l z f=>obtain⟨bs,b,rfl⟩:=zAc.mp h;obtain⟨a,g,A,rfl,c,e,_⟩:=r.lst_inv;cases e.bools b;exact⟨a,bs,rfl,.inl (.inl c),q _ H [] (.bl _) (λ_ _ z=>z) New.nil⟩|_=>cases h
noncomputable def intsD:List D->Option (List Int)|[]=>some []|.int i::r=>(intsD r).map λis=>i::is|_=>none
theorem Rc.intsD:∀{vs:List V}{ds:List D}{A:List γ}{bs:List Int},Rc F H vs ds A->LV.intsD ds=some bs->vs=bs.map V.int:=by intro vs ds;induction ds generalizing vs with|nil=>intro A bs r h;cases r;cases h;rfl|cons d ds a=>intro A bs r h;cases r with|cons c t=>cases d with|int b=>obtain⟨e,f,rfl⟩:=zAc.mp h;cases c;rw[a t f];rfl|_=>cases h
def Bz(xs:List D)(lo hi:Option Int):List D:=(xs.drop (HT.sIx xs.length 0 lo)).take (HT.sIx xs.length xs.length hi-HT.sIx xs.length 0 lo)
def gSl(x:D)(lo hi:Option Int):Option D:=match x with|.l _ ys=>gd (D.imms (Bz ys lo hi)=true) (.l false (Bz ys lo hi))|.scr ns=>some (.l false ((ns.drop (HT.sIx ns.length 0 lo)).take (HT.sIx ns.length ns.length hi-HT.sIx ns.length 0 lo) |>.map .int))|.q ys=>gd (D.imms (Bz ys lo hi)=true/\(Bz ys lo hi).length<ys.length) (.q (Bz ys lo hi))|_=>none
theorem qF2{F:γ->Prop}{H:Hp}:∀ns:List Int,Rc F H (ns.map V.int) (ns.map D.int) []|[]=>.nil|n::r=>.cons (A:=[]) (B:=[]) (.int n) (qF2 r)
theorem os_sl{lo:Option Int}(r:Rj F H v x B)(h:gSl x lo hi=some d)(f:∀ys,x≠.q ys)(q:∀v H' B',Rj F H' v d B'->Same H H'->New H B'->Q v H'):rSlL K v lo hi H Q:=by cases x with|l z ys=>obtain⟨g,rfl⟩:=qi3 h;obtain⟨a,i,A,rfl,j,c,_⟩:=r.lst_inv;refine⟨a,i,rfl,.inl (.inl j),λp b=>q _ _ [p] (qx9 b ?_) (Same.new b) (qg7 b)⟩;obtain⟨B',k,l⟩:=c.sub (HT.sIx ys.length 0 lo) (HT.sIx ys.length ys.length hi-HT.sIx ys.length 0 lo);unfold J0;rw[c.len];exact k.imms0 g|scr m=>(cases h;cases r with|scr e=>refine⟨_,_,rfl,.inl (.inr ⟨_,e⟩),λp b=>q _ _ [p] (qx9 b ?_) (Same.new b) (qg7 b)⟩;unfold J0;rw[<-List.map_drop,<-O8,zAk];exact qF2 _)|q ys=>exact absurd rfl (f ys)|_=>cases h
def D.fld(C:γ)(f:Str):D->Option D|.ins _ C' fs=>if C'=C then fs.lookup f else none|_=>none
theorem qag1:∀{c:List (Str×V)}{a:List (Str×D)}{A:List γ}{f:Str}{d:D},c.map (·.1)=a.map (·.1)->Rc F H (c.map (·.2)) (a.map (·.2)) A->a.lookup f=some d->∃v B,c.lookup f=some v/\Rj F H v d B/\∀b,B.count b<=A.count b:=by
 intro c;induction c with
 |nil=>intro a A f d e r h;cases a with|nil=>cases h|cons _ _=>simp at e
 |cons p c i=>
  intro a A f d e r h;cases a with
  |nil=>simp at e|cons q a=>
   obtain⟨k,v⟩:=p;obtain⟨g,j⟩:=q;have l:k=g:=by simp at e;exact e.1
   have e2:c.map (·.1)=a.map (·.1):=by simp at e;simpa using e.2
   cases r with|@cons _ _ A1 _ _ A2 r1 t=>grind
theorem qaZ1(c:Cls K C)(n:qd1 K C f):OpS1 false (λx H Q=>∃a C dx fs v,x=.ref a/\H a=some (.ins C dx fs)/\Cls K C/\qd1 K C f/\fs.lookup f=some v/\Q v H) (D.fld C f):=by intro F H v x B d Q r h q;cases x with|ins z C' fs=>have g:(if C'=C then fs.lookup f else none)=some d:=h;by_cases i:C'=C;{rw[if_pos i] at g;subst i;obtain⟨a,dx,j,A,rfl,l,e,m,k⟩:=r.ins_inv;obtain⟨w,B',o,p,s⟩:=qag1 e m g;refine⟨a,C',dx,j,w,rfl,l,c,n,o,q w H B' p (λ_ _ z=>z) ?_⟩;rw[if_neg ∅];exact λb=>.inl (by grind)};rw[if_neg i] at g;cases g|_=>cases h
noncomputable def D.key:D->Option Key|.int i=>some (.inl i)|.str x=>some (.inr x)|_=>none
noncomputable def Gm(kds:List (Key×D))(k:Key):Option D:=(kds.find? λa=>decide (a.1=k)).map (·.2)
theorem Rj.key(r:Rj F H v x B)(h:x.key=some k):v=kV k:=by cases r<;>cases h<;>rfl
theorem qaI9:∀{kvs:List (Key×V)}{kds:List (Key×D)}{A:List γ}(k:Key),kvs.map (·.1)=kds.map (·.1)->Rc F H (kvs.map (·.2)) (kds.map (·.2)) A->(Gm kds k=none/\Hf kvs k=none)∨∃v d B,Gm kds k=some d/\Hf kvs k=some v/\Rj F H v d B/\∀b,B.count b<=A.count b:=by
 intro kvs;induction kvs with
 |nil=>intro kds A k e r;cases kds with|nil=>exact .inl ⟨rfl,rfl⟩|cons _ _=>simp at e
 |cons p kvs f=>
  intro kds A k e r;cases kds with
  |nil=>simp at e|cons q kds=>
   obtain⟨c,v⟩:=p;obtain⟨g,d⟩:=q;have i:c=g:=by simp at e;exact e.1
   have e2:kvs.map (·.1)=kds.map (·.1):=by simp at e;simpa using e.2
   subst i;cases r with
   |@cons _ _ A1 _ _ A2 r1 t=>
    by_cases a:c=k;{exact .inr ⟨v,d,A1,by simp[Gm,a],qN2 a,r1,λb=>by rw[zA0];lia⟩};have j:Gm ((c,d)::kds) k=Gm kds k:=by simp[Gm,zC0,a]
    rw[j,qN3 a];rcases f k e2 t with h|⟨w,l,B,m,n,o,s⟩;{exact .inl h};exact .inr ⟨w,l,B,m,n,o,λb=>by rw[zA0];have:=s b;lia⟩
section
variable{c:Vc}{X:Cx}{a b e:Nx}{L G own O:Bool}{fa fb f:FV}{r:R2}{g:D->D->Option D}{w E t:VT}{pos:Pos}
theorem vnm(i:Nat)(b:X.N[i]?=some x:=by rfl)(d:Vis X.env.scope x:=by first|exact Q8 rfl|exact Q7 (Q8 rfl)|exact Q7 (Q7 rfl))(e:N' x:=by decide)(a:(x==("__classdict__" : Str))=false:=by decide):VV c X (.Name x pos) false (rdN i):=qaI8 (qq0 b d e a) (qp0 b)
noncomputable def kC(d:D):FV:=λ_=>some d
theorem Ad{i:Int}:VV c X (.Constant (.int i) j pos) true (kC (.int i)):=Jl qF4 λ_ _=>.int _
theorem vbl{i:Bool}:VV c X (.Constant (.bool i) j pos) true (kC (.bl i)):=Jl pe_bl λ_ _=>.bl _
theorem Ax:VV c X (.Constant .none j pos) true (kC .non):=Jl qaY8 λ_ _=>.non
theorem A4{i:Str}:VV c X (.Constant (.str i) j pos) true (kC (.str i)):=Jl qaY5 λ_ _=>.str _
theorem vgi{x:Str}{n:Int}{k:Tok}(hm:X.mg x=some (.int n k))(a:Gl X x:=by rfl)(b:N' x:=by decide):VV c X (.Name x pos) true (kC (.int n)):=Jl (qaN7 hm a b) λ_ _=>.int _
theorem vcls(C:γ)(hm:X.mg x=some (.ref C))(a:Gl X x:=by rfl)(b:N' x:=by decide):VV c X (.Name x pos) true (kC (.adr C)):=Jl (qaY6 C hm a b) λ_ _=>.adr _
theorem vty(n:String)(hm:X.mg x=none)(a:Gl X x:=by rfl)(b:Nc x=some (.type n):=by rfl)(d:x ≠ "__name__" := by decide)(e:N' x:=by decide):VV c X (.Name x pos) true (kC (.ty n)):=Jl (qaO2 n hm a b d e) λ_ _=>.ty _
theorem Ka{i j:Int}(k:Int)(a:i ^ j.toNat=k:=by decide)(b:0<=j:=by decide)(h1:j<=1000000:=by decide)(h2:i.natAbs<2 ^ 64:=by decide):VV c X (.BinOp (.Constant (.int i) m p) .Pow (.Constant (.int j) n q) pos) true (kC (.int k)):=Jl (qaN3 k a b h1 h2) λ_ _=>.int _
def P2(X:Cx)(e a b:Nx)(r:R2):Prop:=∀w E,PE X a w->PE X b E->PE X e (tOp r w E)
def T2(X:Cx)(e a b:Nx)(r:R2):Prop:=∀w E,PE X a w->PE X b E->PT X e (Lq (tOp r w E))
theorem Aj{op:Operator}(c:OpR X (Nq op) r):P2 X (.BinOp a op b pos) a b r:=λ_ _ d e=>pe_op c d e
theorem A5(c:OpR X (M' op) r)(hm:behindInMarks op b=false):P2 X (.Compare a [op] [b] pos) a b r:=λ_ _ d e=>qaO1 c d e hm
theorem Al(c:OpR X (M' op) r)(hm:behindInMarks op b=false):T2 X (.Compare a [op] [b] pos) a b r:=λ_ _ d e=>qaL8 c d e hm
theorem Av(c:IxR X r)(d:qal3 b:=by exact λ_ _=>rfl):P2 X (.Subscript a b pos) a b r:=λ_ _ e f=>pe_ix c e f d
theorem v2(p:P2 X e a b r)(h:A7 O r g)(d:VV c X a L fa)(f:VV c X b G fb):VV c X e (O||(L&&G)) (f2 g fa fb):=⟨PE.mono (p _ _ d.h f.h) (op_vv h)⟩
theorem e2(p:P2 X e a b r)(h:A7 true r g)(d:VE c X a w)(f:VE c X b E):VE c X e (t2 g w E):=⟨PE.mono (p _ _ d.h f.h) (op_ee d f h),qat6 d f⟩
theorem e2v(p:P2 X e a b r)(h:A7 true r g)(d:VE c X a w)(f:VV c X b G fb):VE c X e (t2v g w fb):=⟨PE.mono (p _ _ d.h f.h) (op_ev d h),qaz1 d⟩
theorem e2P(p:P2 X e a b r)(h:A7 false r g)(d:VE c X a w)(f:VE c X b E):VE c X e (t2 g w E):=⟨PE.mono (p _ _ d.h f.h) (qba0 d f h),qat6 d f⟩
theorem e2vP(p:P2 X e a b r)(h:A7 false r g)(d:VE c X a w)(f:VV c X b G fb):VE c X e (L8 g w fb):=⟨PE.mono (p _ _ d.h f.h) (qaZ9 d h),qam4 d⟩
theorem e2n(i:Nat)(p:P2 X e (.Name x p0) b r)(h:A7 true r g)(a:VE c X b E)(f:X.N[i]?=some x:=by rfl)(j:Vis X.env.scope x:=by first|exact Q8 rfl|exact Q7 (Q8 rfl)|exact Q7 (Q7 rfl))(k:N' x:=by decide)(d:(x==("__classdict__" : Str))=false:=by decide):VE c X e (t2n g i E):=⟨λFx s o H Q I q=>p _ _ (qq0 f j k d) a.h Fx s o H Q I (op_ne a h (qp0 f Fx o H s I) q),qaz2 a⟩
noncomputable def D.asB:D->Option Bool|.bl b=>some b|_=>none
theorem Rj.asB(r:Rj F H v d B)(h:d.asB=some k):v=.bl k:=by cases r<;>cases h<;>rfl
def ttV(f:FV):VTT:=λds Q _=>orF ((f ds).bind D.asB) λb=>Q b ds
def ttE(t:VT):VTT:=λds Q xe=>t ds (λd a=>orF d.asB λb=>Q b a) xe
theorem qay6:∀o H Q,Hc c (ttV f) o H Q->liftV c own f o H (λx H'=>∃k,x=.bl k/\Q k H'):=by rintro o H Q ⟨F,a,A,h,S,x,q⟩;obtain⟨b,e,q⟩:=qa8.mp q;obtain⟨d,g,e2⟩:=zA1.mp e;exact⟨F,a,A,d,S,g,λv H' B r s _=>⟨b,r.asB e2,q H' F A (S.same s) (.same s)⟩⟩
theorem qay7(h:VE c X e t):∀o H Q,Hc c (ttE t) o H Q->Bh c t o H (λx H'=>∃k,x=.bl k/\Q k H'):=by rintro o H Q ⟨F,a,A,f,S,x,q⟩;refine⟨F,a,A,f,S,x,h.m _ _ _ _ _ (λd g q v H1 F1 T A1 i S1 l j=>?_) (λ_ _ z=>z) q⟩;obtain⟨b,e,q⟩:=qa8.mp q;exact⟨b,i.asB e,q H1 F1 A1 S1 (j.count λb=>by rw[zA0];lia)⟩
theorem qN4:∀ds (Q Q':Bool->Ds->Prop) (xe b:XKd),(∀d a,Q d a->Q' d a)->(∀x a,xe x a->b x a)->ttV f ds Q xe->ttV f ds Q' b:=λds Q Q' xe b c _=>qa5 λd=>c d ds
theorem qN5(h:VE c X e t):∀ds (Q Q':Bool->Ds->Prop) (xe b:XKd),(∀d a,Q d a->Q' d a)->(∀x a,xe x a->b x a)->ttE t ds Q xe->ttE t ds Q' b:=λds Q Q' xe b f g=>h.m _ _ _ _ _ (λd a=>qa5 λz=>f z a) g
theorem tv(h:VV c X e own f)(a:∀whole,isTrue e X.env whole=(do let v<-whole;standAt e.pos;holding [v] (truthy v)):=by intro _;rfl):VTe c X e (ttV f):=⟨PT.mono (qaL7 h.h a) qay6,qN4⟩
theorem te(h:VE c X e t)(a:∀whole,isTrue e X.env whole=(do let v<-whole;standAt e.pos;holding [v] (truthy v)):=by intro _;rfl):VTe c X e (ttE t):=⟨PT.mono (qaL7 h.h a) (qay7 h),qN5 h⟩
theorem q2(p:T2 X e a b r)(h:A7 O r g)(d:VV c X a L fa)(f:VV c X b G fb):VTe c X e (ttV (f2 g fa fb)):=⟨PT.mono (p _ _ d.h f.h) λo H Q q=>op_vv h o H _ (qay6 o H Q q),qN4⟩
theorem q2e(p:P2 X e a b r)(i:T2 X e a b r)(h:A7 true r g)(d:VE c X a w)(f:VE c X b E):VTe c X e (ttE (t2 g w E)):=⟨PT.mono (i _ _ d.h f.h) λo H Q q=>op_ee d f h o H _ (qay7 (e2 p h d f) o H Q q),qN5 (e2 p h d f)⟩
theorem q2v(p:P2 X e a b r)(i:T2 X e a b r)(h:A7 true r g)(d:VE c X a w)(f:VV c X b G fb):VTe c X e (ttE (t2v g w fb)):=⟨PT.mono (i _ _ d.h f.h) λo H Q q=>op_ev d h o H _ (qay7 (e2v p h d f) o H Q q),qN5 (e2v p h d f)⟩
variable{y J:VTT}{rest:List Nx}
def Gr(t:VTT):VTT:=λds Q xe=>t ds (λb a=>Q (!b) a) xe
theorem Bn(h:VTe c X a y):VTe c X (.UnaryOp .Not a pos) (Gr y):=by refine⟨PT.mono (qaX4 h.h) λo H Q ⟨F,e,A,f,S,x,q⟩=>⟨F,e,A,f,S,x,q⟩,λe Q Q' f g i j=>h.m _ _ _ _ _ (λb d=>i _ d) j⟩
structure VTw(c:Vc)(X:Cx)(e:Nx)(t:VTT):Prop where
 h:PW X e (Hc c t)
 m:∀ds (Q Q':Bool->Ds->Prop) (xe xe':XKd),(∀d ds',Q d ds'->Q' d ds')->(∀x ds',xe x ds'->xe' x ds')->t ds Q xe->t ds Q' xe'
theorem VTw.te(h:VTw c X e y):VTe c X e y:=⟨h.h.pt,h.m⟩
theorem Kr(h:VTe c X a y):VTw c X (.BoolOp .And [a] pos) y:=⟨qaL6 h.h,h.m⟩
theorem Ho(h:VTe c X a y):VTw c X (.BoolOp .Or [a] pos) y:=⟨qaX2 h.h,h.m⟩
def ttAnd(t u:VTT):VTT:=λds Q xe=>t ds (λk ds1=>if k=true then u ds1 Q xe else Q false ds1) xe
def ttOr(t u:VTT):VTT:=λds Q xe=>t ds (λk ds1=>if k=true then Q true ds1 else u ds1 Q xe) xe
theorem qV1{k:Bool->St->Hp->(Bool->Hp->Prop)->Prop}{K:Bool->Ds->(Bool->Ds->Prop)->XKd->Prop}(h:VTe c X a y)(i:∀(b:Bool) F ds A xe o H (Q:Bool->Hp->Prop),Rn c F H o ds A->Xc c xe F H A->K b ds (λf e=>∀H' F' A',Rn c F' H' o e A'->Rl F H A F' H' A'->Q f H') xe->k b o H Q)(hm:∀(b:Bool) ds (Q Q':Bool->Ds->Prop) (xe:XKd),(∀d e,Q d e->Q' d e)->K b ds Q xe->K b ds Q' xe):∀o H Q,Hc c (λds Q xe=>y ds (λb ds1=>K b ds1 Q xe) xe) o H Q->Hc c y o H (λb H1=>k b o H1 Q):=by rintro o H Q ⟨F,ds,A,xe,S,x,q⟩;exact⟨F,ds,A,xe,S,x,h.m _ _ _ _ _ (λb ds1 q H1 F1 A1 S1 g=>(i b F1 ds1 A1 xe o H1 Q S1 (x.step g) (hm b ds1 _ _ xe (λf e q H' F' A' S' j=>q H' F' A' S' (g.trans j)) q))) (λ_ _ z=>z) q⟩
theorem tand(e:VTe c X a y)(f:VTw c X (.BoolOp .And (b::rest) pos) J):VTw c X (.BoolOp .And (a::b::rest) pos) (ttAnd y J):=by refine⟨PW.mono (qaX3 e.h f.h) ?_,λg Q Q' i l d j=>e.m _ _ _ _ _ (λk n q=>?_) j⟩;{refine qV1 e ?_ ?_;{intro b F g A i o H Q S x q;cases b with|true=>rw[if_pos rfl] at q ⊢;exact⟨F,g,A,i,S,x,q⟩|false=>rw[if_neg ∅] at q ⊢;exact q H F A S Rl.refl};intro b g Q Q' i d;cases b with|true=>rw[if_pos rfl,if_pos rfl];exact f.m _ _ _ _ _ d λ_ _ z=>z|false=>rw[if_neg ∅,if_neg ∅];exact d _ _};cases k with|true=>rw[if_pos rfl] at q ⊢;exact f.m _ _ _ _ _ d j q|false=>rw[if_neg ∅] at q ⊢;exact d _ _ q
theorem tor(e:VTe c X a y)(f:VTw c X (.BoolOp .Or (b::rest) pos) J):VTw c X (.BoolOp .Or (a::b::rest) pos) (ttOr y J):=by refine⟨PW.mono (pw_or e.h f.h) ?_,λg Q Q' i l d j=>e.m _ _ _ _ _ (λk n q=>?_) j⟩;{refine qV1 e ?_ ?_;{intro b F g A i o H Q S x q;cases b with|false=>rw[if_neg ∅] at q ⊢;exact⟨F,g,A,i,S,x,q⟩|true=>rw[if_pos rfl] at q ⊢;exact q H F A S Rl.refl};intro b g Q Q' i d;cases b with|false=>rw[if_neg ∅,if_neg ∅];exact f.m _ _ _ _ _ d λ_ _ z=>z|true=>rw[if_pos rfl,if_pos rfl];exact d _ _};cases k with|false=>rw[if_neg ∅] at q ⊢;exact f.m _ _ _ _ _ d j q|true=>rw[if_pos rfl] at q ⊢;exact d _ _ q
end
section
variable{c:Vc}{X:Cx}{a b e:Nx}{oa ob own nw:Bool}{fa fb f:FV}{ta tb t:VT}{Y:Pos}{rest:List Nx}
def tSeqE(ta:VT)(k:D->VT):VT:=λds Q xe=>ta ds (λx ds1=>k x ds1 Q xe) xe
theorem qaE2{k:V->St->Hp->VK->Prop}(i:VE c X a ta)(hm:∀x ds (Q Q':DK) (xe f:XKd),(∀d e,Q d e->Q' d e)->(∀x e,xe x e->f x e)->K x ds Q xe->K x ds Q' f)(j:∀F H W v x T,Rj F H v x T->∀Q,(∃ds A xe,Rn c F H W ds A/\Xc c xe F H A/\K x ds (λd e=>∀v H' F' T A',Rj F' H' v d T->Rn c F' H' W e A'->Ok F' H' (T++A')->Rl F H A F' H' (T++A')->Q v H') xe)->k v W H Q):∀W H Q,Bh c (tSeqE ta K) W H Q->Bh c ta W H (λx H1=>k x W H1 Q):=by
 rintro W H Q ⟨F,ds,A,xe,S,x,q⟩;refine⟨F,ds,A,xe,S,x,i.m _ _ _ _ _ (λd g q v H1 F1 T A1 l S1 p n=>?_) (λ_ _ z=>z) q⟩;have h:Rl F H A F1 H1 A1:=n.count λb=>by rw[zA0];lia
 exact j F1 H1 W v d T l Q ⟨g,A1,xe,S1,x.step h,hm d g _ _ _ _ (λt e q w H' F' T' A' r S' o s=>q w H' F' T' A' r S' o (h.trans s)) (λ_ _ z=>z) q⟩
def Ks(ta tb:VT):VT:=tSeqE ta λx ds Q xe=>orF x.asB λk=>if k=true then tb ds Q xe else Q (.bl false) ds
theorem qC5{p q a b:Prop}(h1:p->a)(h2:q->b):(if k=true then p else q)->(if k=true then a else b):=by grind
theorem qal1(g:VE c X e tb):∀(x:D) ds (Q Q':DK) (xe b:XKd),(∀d a,Q d a->Q' d a)->(∀x a,xe x a->b x a)->(orF x.asB λk=>if k=true then tb ds Q xe else Q (.bl false) ds)->(orF x.asB λk=>if k=true then tb ds Q' b else Q' (.bl false) ds):=λx ds Q Q' xe b f h=>qa5 λk=>qC5 (g.m _ _ _ _ _ f h) (f _ _)
theorem Ld{op:PySem.BoolOp}(h:VE c X a ta):VE c X (.BoolOp op [a] Y) ta:=⟨qaN4 h.h,h.m⟩
theorem Jq(e:VE c X a ta)(f:VE c X (.BoolOp .And (b::rest) Y) tb):VE c X (.BoolOp .And (a::b::rest) Y) (Ks ta tb):=by refine⟨PE.mono (qaO4 e.h f.h) ?_,λl Q Q' g i o n=>e.m _ _ _ _ _ (λd j=>qal1 f d j Q Q' g i o n) n⟩;refine qaE2 e (qal1 f) ?_;rintro F H W v x T r Q ⟨l,A,g,S,p,q⟩;obtain⟨k,s,q⟩:=qa8.mp q;refine⟨k,r.asB s,?_⟩;cases k with|true=>rw[if_pos rfl] at q ⊢;exact⟨F,l,A,g,S,p,q⟩|false=>rw[if_neg ∅] at q ⊢;exact q _ H F [] A (.bl _) S S.ok Rl.refl
variable{qc:VTT}
def tIfE(qc:VTT)(ta tb:VT):VT:=λds Q xe=>qc ds (λk ds1=>if k=true then ta ds1 Q xe else tb ds1 Q xe) xe
theorem eif(i:VTe c X cd qc)(j:VE c X a ta)(l:VE c X b tb):VE c X (.IfExp cd a b Y) (tIfE qc ta tb):=by refine⟨PE.mono (qaB7 i.h j.h l.h) ?_,λt Q Q' f w u n=>i.m _ _ _ _ _ (λk e=>qC5 (j.m _ _ _ _ _ u n) (l.m _ _ _ _ _ u n)) n⟩;rintro W H Q ⟨F,t,A,f,S,x,q⟩;refine⟨F,t,A,f,S,x,i.m _ _ _ _ _ (λk e q H1 F1 A1 S1 g=>?_) (λ_ _ z=>z) q⟩;cases k with|true=>rw[if_pos rfl] at q ⊢;exact⟨F1,e,A1,f,S1,x.step g,j.m _ _ _ _ _ (λd p q v H' F' T A' r S' o s=>q v H' F' T A' r S' o (g.trans s)) (λ_ _ z=>z) q⟩|false=>rw[if_neg ∅] at q ⊢;exact⟨F1,e,A1,f,S1,x.step g,l.m _ _ _ _ _ (λd p q v H' F' T A' r S' o s=>q v H' F' T A' r S' o (g.trans s)) (λ_ _ z=>z) q⟩
def fAnd(fa fb:FV):FV:=λds=>(fa ds).bind λx=>x.asB.bind λk=>if k=true then fb ds else some (.bl false)
def fOr(fa fb:FV):FV:=λds=>(fa ds).bind λx=>x.asB.bind λk=>if k=true then some (.bl true) else fb ds
def fNot(fa:FV):FV:=λds=>(fa ds).bind λx=>x.asB.map λk=>.bl (!k)
theorem Lf{op:PySem.BoolOp}(h:VV c X a oa fa):VV c X (.BoolOp op [a] Y) oa fa:=⟨qaN4 h.h⟩
theorem vand(m:VV c X a oa fa)(n:VV c X (.BoolOp .And (b::rest) Y) ob fb):VV c X (.BoolOp .And (a::b::rest) Y) ob (fAnd fa fb):=by refine⟨PE.mono (qaO4 m.h n.h) λW H Q g=>?_⟩;obtain⟨F,i,A,d,S,e,q⟩:=g;obtain⟨x,p,e⟩:=zA1.mp e;obtain⟨k,r,e⟩:=zA1.mp e;refine⟨F,i,A,x,S,p,λv H1 B1 s f y=>⟨k,s.asB r,?_⟩⟩;cases k with|true=>rw[if_pos rfl] at e ⊢;exact⟨F,i,A,d,S.same f,e,λw H2 B2 t u j=>q w H2 B2 t (f.trans u) λl=>⟨(j l).one,λb o e=>(j l).new b o (f b o e)⟩⟩|false=>rw[if_neg ∅] at e ⊢;cases e;exact q _ H1 [] (.bl _) f λ_=>New.nil
theorem vor(m:VV c X a oa fa)(n:VV c X (.BoolOp .Or (b::rest) Y) ob fb):VV c X (.BoolOp .Or (a::b::rest) Y) ob (fOr fa fb):=by refine⟨PE.mono (pe_or m.h n.h) λW H Q g=>?_⟩;obtain⟨F,i,A,d,S,e,q⟩:=g;obtain⟨x,p,e⟩:=zA1.mp e;obtain⟨k,r,e⟩:=zA1.mp e;refine⟨F,i,A,x,S,p,λv H1 B1 s f y=>⟨k,s.asB r,?_⟩⟩;cases k with|false=>rw[if_neg ∅] at e ⊢;exact⟨F,i,A,d,S.same f,e,λw H2 B2 t u j=>q w H2 B2 t (f.trans u) λl=>⟨(j l).one,λb o e=>(j l).new b o (f b o e)⟩⟩|true=>rw[if_pos rfl] at e ⊢;cases e;exact q _ H1 [] (.bl _) f λ_=>New.nil
theorem vnot(f:VV c X a oa fa):VV c X (.UnaryOp .Not a Y) true (fNot fa):=by refine⟨PE.mono (qaY7 f.h) λW H Q b=>?_⟩;obtain⟨F,g,A,d,S,e,q⟩:=b;obtain⟨x,i,e⟩:=zA1.mp e;obtain⟨k,j,rfl⟩:=zAc.mp e;exact⟨F,g,A,x,S,i,λv H1 B1 l m n=>⟨k,l.asB j,q _ H1 [] (.bl _) m λ_=>New.nil⟩⟩
noncomputable def gNeg:D->Option D|.int i=>some (.int (-i))|_=>none
theorem qaY9:OpS1 true (rU λi=>.int (-i)) gNeg:=by intro F H v x B d Q r h q;cases x with|int i=>cases h;cases r;exact⟨i,rfl,q _ H [] (.int _) (λ_ _ z=>z) New.nil⟩|_=>cases h
theorem vneg(b:VV c X a oa fa):VV c X (.UnaryOp .USub a Y) true (f1 gNeg fa):=⟨PE.mono (pe_un qaV9 b.h) (op_v qaY9)⟩
theorem Bq{f:Str}(b:X.K=K)(d:VV c X a oa fa)(e:Cls K C)(n:qd1 K C f)(g:Nf a f X.env (eval a X.env)=eval a X.env:=by rfl):VV c X (.Attribute a f Y) oa (f1 (D.fld C f) fa):=by subst b;exact⟨PE.mono (qaN8 d.h g) (op_v (qaZ1 e n))⟩
variable{rc:List V->Hp->VK->Prop}{gc:Ds->Option D}{x:Str}{p:Pos}{Z:List Nx}{fs:Ds->Option Ds}{tos:VTA}
def A8(gc:Ds->Option D)(fs:Ds->Option Ds):FV:=λds=>(fs ds).bind gc
theorem vbi{id:String}(d:CallR X (.builtin id) rc)(h:OpS nw rc gc)(hm:X.mg x=none)(f:VVs c X (e::Z) own fs)(g:Gl X x:=by rfl)(i:Nc x=some (.builtin id):=by rfl)(j:x ≠ "__name__" := by decide)(a:N' x:=by decide)(k:M8 (e::Z) X.env=(false,eval e X.env)::M8 Z X.env:=by rfl)(b:((backTo Y (M8 Z X.env)).any λx=>x.1)=false:=by rfl):VV c X (.Call (.Name x p) (e::Z) [] Y) (nw||own) (A8 gc fs):=⟨PE.mono (cbi d hm f.h g i j a k b) (qaP0 h)⟩
theorem Hq{id:String}(d:CallR X (.type id) rc)(h:OpS nw rc gc)(hm:X.mg x=none)(f:VVs c X (e::Z) own fs)(g:Gl X x:=by rfl)(i:Nc x=some (.type id):=by rfl)(j:x ≠ "__name__" := by decide)(a:N' x:=by decide)(k:M8 (e::Z) X.env=(false,eval e X.env)::M8 Z X.env:=by rfl)(b:((backTo Y (M8 Z X.env)).any λx=>x.1)=false:=by rfl):VV c X (.Call (.Name x p) (e::Z) [] Y) (nw||own) (A8 gc fs):=⟨PE.mono (cty d hm f.h g i j a k b) (qaP0 h)⟩
theorem ebi{id:String}(f:CallR X (.builtin id) rc)(h:OpS true rc gc)(hm:X.mg x=none)(a:VOs c X (e::Z) tos)(g:Gl X x:=by rfl)(i:Nc x=some (.builtin id):=by rfl)(j:x ≠ "__name__" := by decide)(b:N' x:=by decide)(k:M8 (e::Z) X.env=(false,eval e X.env)::M8 Z X.env:=by rfl)(d:((backTo Y (M8 Z X.env)).any λx=>x.1)=false:=by rfl):VE c X (.Call (.Name x p) (e::Z) [] Y) (tcO gc tos):=⟨PE.mono (cbi f hm a.h g i j b k d) (opc_o a h),qab7 a⟩
theorem ecty{id:String}(f:CallR X (.type id) rc)(h:OpS true rc gc)(hm:X.mg x=none)(a:VOs c X (e::Z) tos)(g:Gl X x:=by rfl)(i:Nc x=some (.type id):=by rfl)(j:x ≠ "__name__" := by decide)(b:N' x:=by decide)(k:M8 (e::Z) X.env=(false,eval e X.env)::M8 Z X.env:=by rfl)(d:((backTo Y (M8 Z X.env)).any λx=>x.1)=false:=by rfl):VE c X (.Call (.Name x p) (e::Z) [] Y) (tcO gc tos):=⟨PE.mono (cty f hm a.h g i j b k d) (opc_o a h),qab7 a⟩
def gLst(xs:Ds):Option D:=gd (D.imms xs=true/\xs.length<=big) (.l false xs)
def gTup(xs:Ds):Option D:=gd (D.imms xs=true/\xs.length<=big) (.q xs)
theorem Bj(k:VVs c X Z own fs):VV c X (.List Z Y) true (A8 gLst fs):=by refine⟨PE.mono (qaB6 k.h) λW H Q f=>?_⟩;obtain⟨F,l,A,d,S,e,q⟩:=f;obtain⟨m,n,e2⟩:=zA1.mp e;obtain⟨g,rfl⟩:=qi3 e2;refine⟨F,l,A,m,S,n,λr H1 B1 i j s=>⟨by rw[i.len];exact zA7 g.2 qh1,λp a=>?_⟩⟩;exact q _ _ [p] (qx9 a (i.imms0 g.1)) (j.trans (Same.new a)) λ_=>⟨(qg7 a).one,λb o e=>(qg7 a).new b o (j b o e)⟩
theorem Bk(i:VVs c X Z own fs):VV c X (.Tuple Z k Y) true (A8 gTup fs):=by refine⟨PE.mono (qaN2 i.h) λW H Q a=>?_⟩;obtain⟨F,j,A,d,S,e,q⟩:=a;obtain⟨l,m,e2⟩:=zA1.mp e;obtain⟨b,rfl⟩:=qi3 e2;refine⟨F,j,A,l,S,m,λo H1 B1 f n r=>⟨by rw[f.len];exact zA7 b.2 qh1,λp g=>?_⟩⟩;exact q _ _ [] (qK0 g (f.imms0 b.1)) (n.trans (Same.new g)) λ_=>New.nil
def FO:=Ds->Option (Option Int)
inductive qaV5(c:Vc)(f:FO)(W:St)(H:Hp)(Q:Option Int->Hp->Prop):Prop
 |mk (F:γ->Prop) (ds:Ds) (A:List γ) (i:Option Int) (S:Rn c F H W ds A) (e:f ds=some i) (q:∀H',Same H H'->Q i H'):qaV5 c f W H Q
def qba8(c:Vc)(f:FO):TO:=qaV5 c f
structure VPO(c:Vc)(X:Cx)(e:Option Nx)(f:FO):Prop where
 h:PO X e (qba8 c f)
theorem PO.mono{X:Cx}{e:Option Nx}{t t':TO}(h:PO X e t)(i:∀W H Q,t' W H Q->t W H Q):PO X e t':=λFx s W H Q I q=>h Fx s W H Q I (i W H Q q)
noncomputable def foN:FO:=λ_=>some none
noncomputable def D.asI:D->Option Int|.int i=>some i|_=>none
theorem Rj.asI(r:Rj F H v d B)(h:d.asI=some k):v=.int k:=by cases r<;>cases h<;>rfl
def foS(f:FV):FO:=λds=>(f ds).bind λd=>d.asI.map some
theorem G2:VPO c X none foN:=⟨PO.mono qau9 λW H Q ⟨F,a,A,i,S,e,q⟩=>by cases e;exact q H λ_ _ z=>z⟩
theorem G3(h:VV c X e own f):VPO c X (some e) (foS f):=by refine⟨PO.mono (qau8 h.h) λW H Q a=>?_⟩;obtain⟨F,b,A,i,S,e,q⟩:=a;obtain⟨d,g,e2⟩:=zA1.mp e;obtain⟨j,k,rfl⟩:=zAc.mp e2;exact⟨F,b,A,d,S,g,λv H' B r s _=>⟨j,r.asI k,q H' s⟩⟩
noncomputable def noT:D->Bool|.q _=>false|_=>true
def fsl(fa:FV)(lo hi:FO):FV:=λds=>(fa ds).bind λx=>(lo ds).bind λl=>(hi ds).bind λh=>if noT x=true then gSl x l h else none
theorem vsl{lo hi:Option Nx}{fl m:FO}(s:VV c X a oa fa)(t:VPO c X lo fl)(u:VPO c X hi m):VV c X (.Subscript a (.Slice lo hi none p2) Y) true (fsl fa fl m):=by refine⟨PE.mono (qae4 qat8 s.h t.h u.h) λW H Q g=>?_⟩;obtain⟨F,i,A,d,S,e,q⟩:=g;obtain⟨x,y,e⟩:=zA1.mp e;obtain⟨l,e2,e⟩:=zA1.mp e;obtain⟨h,B,e⟩:=zA1.mp e;by_cases n:noT x=true;{rw[if_pos n] at e;refine⟨F,i,A,x,S,y,λv H1 B1 C j _=>⟨F,i,A,l,S.same j,e2,λH2 k=>⟨F,i,A,h,(S.same j).same k,B,λH3 p=>?_⟩⟩⟩;have f:=(j.trans k).trans p;refine os_sl ((C.same k).same p) e (λG z=>by subst z;cases n) λw H' B' D E r=>q w H' B' D (f.trans E) λ_=>⟨r.one,λb o e=>r.new b o (f b o e)⟩};grind
def fget(fa a b:FV):FV:=λds=>(fa ds).bind λx=>(a ds).bind λy=>(b ds).bind λz=>match x with|.dct _ kvs=>y.key.bind λk=>gd (((Gm kvs k).getD z).imm=true) ((Gm kvs k).getD z)|_=>none
theorem vget{z:Nx}{D:Bool}{t:FV}(G:X.A.units+1<cLine)(I:VV c X a oa fa)(J:VV c X k D s)(hz:VV c X z E t)(m:M2 X a "get" apos k z cpos):VV c X (.Call (.Attribute a "get" apos) [k,z] [] cpos) true (fget fa s t):=by refine⟨PE.mono (qaB9 G I.h J.h hz.h m) λW H Q j=>?_⟩;obtain⟨F,l,A,d,S,e,q⟩:=j;obtain⟨x,K,e⟩:=zA1.mp e;obtain⟨y,e2,e⟩:=zA1.mp e;obtain⟨w,L,e⟩:=zA1.mp e;cases x with|dct z M=>obtain⟨n,N,e⟩:=zA1.mp e;obtain⟨g,rfl⟩:=qi3 e;refine⟨F,l,A,_,S,K,λv H1 B1 O o _=>?_⟩;obtain⟨a,b,A2,rfl,B,P,R,_⟩:=O.dct_inv;refine⟨a,rfl,.inl ⟨b,.inl B⟩,F,l,A,y,S.same o,e2,λu H2 B2 T i _=>⟨F,l,A,w,(S.same o).same i,L,λU H3 B3 C p _=>?_⟩⟩;have r:=p _ _ (i _ _ B);refine⟨Hf b n,.inl ⟨b,n,.inl r,(T.key N),rfl⟩,?_⟩;have f:=(o.trans i).trans p;rcases qaI9 n P R with⟨n1,n2⟩|⟨vv,dd,BB,n1,n2,n3,n4⟩;{rw[n1] at g q;rw[n2];have:=C.imm g;subst this;exact q _ H3 [] C f λ_=>New.nil};rw[n1] at g q;rw[n2];have:=n3.imm g;subst this;exact q _ H3 [] ((n3.same i).same p) f λ_=>New.nil|_=>cases e
end
section
variable{c:Vc}{X:Cx}{a b e:Nx}{pos:Pos}{F F':γ->Prop}{H H':Hp}{σ:St}{ds:Ds}{A:List γ}
theorem Rn.put1(S:Rn c F H σ ds A)(h:ds[i]?=some d)(e:d≠.u):∃(v:V)(B C:List γ),(σ++c.gv)[i]?=some (some v)/\Rj F H v d B/\(∀b,A.count b=B.count b+C.count b)/\∀{F':γ->Prop}{H':Hp}{W:γ->Prop}(d':D)(B':List γ),Kp F H W F' H'->(∀b∈C,¬W b)->Rj F' H' v d' B'->∃A':List γ,Locs F' H' (σ++c.gv) (ds.set i d') A'/\∀b,A'.count b=B'.count b+C.count b:=by
 have f:A9 ds i []=some d:=by unfold A9;rw[h];rfl
 obtain⟨u,w,B,C,g,j,l,m,n⟩:=S.loc.place f e;cases j;refine⟨u,B,C,g,l,m,λ{F' H' W} d' B' k o r=>?_⟩;obtain⟨A',a,q2⟩:=n d' B' k o r;refine⟨A',?_,q2⟩;unfold Bi at a;rw[h] at a;exact a
theorem qp4{d:D}(h:d.known=true):d≠.u:=λz=>by subst z;cases h
def tMv(i:Nat):VT:=λds Q _=>orF (rdN i ds) λd=>Q d (ds.set i .u)
theorem emv(i:Nat)(k:X.N[i]?=some x:=by rfl)(m:Vis X.env.scope x:=by first|exact Q8 rfl|exact Q7 (Q8 rfl)|exact Q7 (Q7 rfl))(n:N' x:=by decide)(a:(x==("__classdict__" : Str))=false:=by decide):VE c X (.Name x pos) (tMv i):=by refine⟨λFx s σ H Q I g=>?_,λp Q Q' r t u _=>qa5 λd=>u _ _⟩;obtain⟨F,p,A,r,S,x,q⟩:=g;refine qq0 k m n a Fx s σ H Q I ?_;obtain⟨d,h,q⟩:=qa8.mp q;obtain⟨h,w⟩:=ql3.mp h;obtain⟨v,B,C,l,y,j,D⟩:=S.put1 h (qp4 w);rw[zAr (qp0 k Fx σ H s I)] at l;obtain⟨A',E,q2⟩:=D .u [] (Kp.same (λ_ _ z=>z)) (λ_ _ z=>z) (.u v);refine⟨v,l,q v H F B A' y ⟨E,S.ok.count λb=>by rw[q2,j];simp,S.len,S.ag⟩ (S.ok.count λb=>by rw[zA0,q2,j];simp) ?_⟩;exact⟨λ_ _ e _=>e,λb o e z=>by rw[zA0,q2];have:=j b;simp;lia,λ_ f=>f,λ_ _ _ _ f=>f⟩
def tFz(i:Nat):VT:=λds Q _=>orF (rdN i ds) λd=>Q d.fz (ds.set i d.fz)
theorem share{B C:List γ}(o:Ok F H A)(a:∀b,A.count b=B.count b+C.count b)(d:∀b∈B,∃o,H b=some o/\G1 o=true)(c:∀b,A'.count b=C.count b):Ok (λb=>F b∨b∈B) H A'/\Rl F H A (λb=>F b∨b∈B) H A':=by refine⟨⟨λb=>by rw[c];have:=o.sep b;have:=a b;lia,λb f=>?_,λb f=>?_⟩,λ_ _ e _=>e,λb o e z=>by rw[c];have:=a b;lia,λb f=>.inl f,λb u e z f=>?_⟩;{rw[c];rcases f with f|f;{have:=o.fro b f;have:=a b;lia};have:=qb6.mp f;have:=o.sep b;grind};{rcases f with f|f;{exact o.ex b f};exact let ⟨u,e,_⟩:=d b f;⟨u,e⟩};grind
theorem efz(i:Nat)(h:X.N[i]?=some x:=by rfl)(n:Vis X.env.scope x:=by first|exact Q8 rfl|exact Q7 (Q8 rfl)|exact Q7 (Q7 rfl))(o:N' x:=by decide)(a:(x==("__classdict__" : Str))=false:=by decide):VE c X (.Name x pos) (tFz i):=by refine⟨λFx s σ H Q I e=>?_,λp Q Q' r t u _=>qa5 λd=>u _ _⟩;obtain⟨F,p,A,r,S,x,q⟩:=e;refine qq0 h n o a Fx s σ H Q I ?_;obtain⟨d,g,q⟩:=qa8.mp q;obtain⟨g,w⟩:=ql3.mp g;obtain⟨v,B,C,j,k,y,D⟩:=S.put1 g (qp4 w);rw[zAr (qp0 h Fx σ H s I)] at j;have l:=k.fz (F':=λb=>F b∨b∈B) (λb f=>.inl f) λb E=>.inr E;obtain⟨A',G,q2⟩:=D d.fz [] (Kp.more λb f=>Q8 f) (λ_ _ z=>z) l;obtain⟨m,J⟩:=share S.ok y k.cells (λb=>by rw[q2];simp);exact⟨v,j,q v H _ [] A' l ⟨G,m,S.len,S.ag⟩ m J⟩
abbrev PF:=Ds->Option (Nat×List Nat)
inductive LiftP(c:Vc)(pf:PF)(σ:St)(H:Hp)(Q:VK):Prop
 |mk (F:γ->Prop) (ds:Ds) (A:List γ) (i:Nat) (p:List Nat) (d:D) (S:Rn c F H σ ds A) (e:pf ds=some (i,p)) (g:A9 ds i p=some d) (n:d≠.u) (q:∀u w H',(σ++c.gv)[i]?=some (some u)->Walk H' u p w->Same H H'->Q w H'):LiftP c pf σ H Q
def Kt(c:Vc)(pf:PF):TE:=LiftP c pf
structure VP(c:Vc)(X:Cx)(e:Nx)(pf:PF):Prop where
 h:PE X e (Kt c pf)
theorem vpn(i:Nat)(h:X.N[i]?=some x:=by rfl)(l:Vis X.env.scope x:=by first|exact Q8 rfl|exact Q7 (Q8 rfl)|exact Q7 (Q7 rfl))(m:N' x:=by decide)(b:(x==("__classdict__" : Str))=false:=by decide):VP c X (.Name x pos) (λ_=>some (i,[])):=by refine⟨λFx s σ H Q I f=>?_⟩;obtain⟨F,r,A,j,p,d,S,e,n,g,q⟩:=f;refine qq0 h l m b Fx s σ H Q I ?_;cases e;obtain⟨u,w,B,C,k,o,t,v,y⟩:=S.loc.place n g;cases o;have a:=k;rw[zAr (qp0 h Fx σ H s I)] at a;exact⟨u,a,q u u H k rfl λ_ _ z=>z⟩
theorem qL2:∀{p:List Nat}{d x:D}{q:List Nat},d.getP (p++q)=some x->∃e,d.getP p=some e/\e.getP q=some x|[],d,x,q,h=>⟨d,rfl,h⟩|n::p,d,x,q,h=>by have h:D.getP d (n::(p++q))=some x:=h;unfold D.getP at h;cases a:d.kids[n]? with|none=>rw[a] at h;cases h|some y=>rw[a] at h;obtain⟨e,b,c⟩:=qL2 h;exact⟨e,by unfold D.getP;rw[a];exact b,c⟩
theorem qai2(h:A9 ds i (p++q)=some x):∃e,A9 ds i p=some e/\e.getP q=some x:=by unfold A9 at h ⊢;cases a:ds[i]? with|none=>rw[a] at h;cases h|some d=>rw[a] at h;exact qL2 h
theorem Walk.snoc:∀{p:List Nat}{u v w:V}{n:Nat},Walk H u p v->Lnk H v n w->Walk H u (p++[n]) w|[],_,_,w,n,h,l=>by cases h;exact⟨w,l,rfl⟩|m::p,_,_,_,_,⟨x,h1,h2⟩,l=>⟨x,h1,h2.snoc l⟩
theorem qbb0{d e:D}(h:d.getP [n]=some e):d≠.u:=λz=>by subst z;cases (show (none:Option D)=some _ from h)
theorem Rn.place(S:Rn c F H σ ds A)(h:A9 ds i p=some d)(e:d≠.u)(f:(σ++c.gv)[i]?=some (some u))(g:Walk H u p w):∃(B C:List γ),Rj F H w d B/\(∀b,A.count b=B.count b+C.count b)/\∀{F':γ->Prop}{H':Hp}{W:γ->Prop}(d':D)(B':List γ),Kp F H W F' H'->(∀b∈C,¬W b)->Rj F' H' w d' B'->∃A':List γ,Locs F' H' (σ++c.gv) (Bi ds i p d') A'/\∀b,A'.count b=B'.count b+C.count b:=by obtain⟨n,o,B,C,a,j,k,l,m⟩:=S.loc.place h e;rw[f] at a;cases a;cases g.fn j;exact⟨B,C,k,l,m⟩
def D.fidx(C:γ)(f:Str):D->Option Nat|.ins _ C' fs=>if C'=C then fs.findIdx? (λq=>f==q.1) else none|_=>none
theorem qD1{α:Type}:∀{fs:List (Str×α)}{f:Str}{n:Nat},fs.findIdx? (λq=>f==q.1)=some n->∃v,fs.lookup f=some v/\(fs.map (·.2))[n]?=some v|[],f,n,h=>by simp at h|(k,v)::r,f,n,h=>by rw[zCk] at h;rw[zAu];cases a:f==k with|true=>simp[a] at h;subst h;exact⟨v,rfl,rfl⟩|false=>simp[a] at h;obtain⟨m,b,rfl⟩:=h;obtain⟨w,c,d⟩:=qD1 b;exact⟨w,c,by simpa using d⟩
theorem qW3{α β:Type}:∀{fs:List (Str×α)}{a:List (Str×β)}{f:Str},fs.map (·.1)=a.map (·.1)->fs.findIdx? (λq=>f==q.1)=a.findIdx? (λq=>f==q.1)
 |[],[],_,_=>rfl|[],_::_,_,h=>by simp at h|_::_,[],_,h=>by simp at h|(k,_)::r,(k',_)::r',f,h=>by
  have b:k=k':=by simp at h;exact h.1
  have c:r.map (·.1)=r'.map (·.1):=by simp at h;simpa using h.2
  subst b;rw[zCk,zCk,qW3 c]
def pfFld(C:γ)(f:Str)(pf:PF):PF:=λds=>(pf ds).bind λq=>(A9 ds q.1 q.2).bind λd=>(d.fidx C f).map λn=>(q.1,q.2++[n])
theorem Mb(G:X.K=K)(l:VP c X a pf)(I:Cls K C)(J:qd1 K C f)(L:Nf a f X.env (eval a X.env)=eval a X.env:=by rfl):VP c X (.Attribute a f pos) (pfFld C f pf):=by subst G;refine⟨PE.mono (qaN8 l.h L) λσ H Q m=>?_⟩;obtain⟨F,M,A,i,p,d,S,e,N,Z,q⟩:=m;obtain⟨⟨j,O⟩,P,e⟩:=zA1.mp e;obtain⟨t,e2,e⟩:=zA1.mp e;obtain⟨n,x,e⟩:=zAc.mp e;cases e;obtain⟨R,g1,g2⟩:=qai2 N;rw[e2] at g1;cases g1;have b:=qbb0 g2;refine⟨F,M,A,j,O,t,S,P,e2,b,λu w H' y D s=>?_⟩;obtain⟨B,C0,r,_,_⟩:=(S.same s).place e2 b y D;cases t with|ins z C' T=>have g:(if C'=C then T.findIdx? (λq=>f==q.1) else none)=some n:=x;by_cases o:C'=C;{rw[if_pos o] at g;obtain⟨a,E,k,_,rfl,l,U,rs,_⟩:=r.ins_inv;rw[<-qW3 U] at g;obtain⟨v,V,Y⟩:=qD1 g;subst o;exact⟨a,C',E,k,v,rfl,l,I,J,V,q u v H' y (D.snoc ⟨a,rfl,.inr (.inr (.inr ⟨C',E,k,l,Y⟩))⟩) s⟩};rw[if_neg o] at g;cases g|_=>cases x
end
inductive Pl where
 |no
 |sl (i:Nat)
 |pl (i:Nat) (p:List Nat) (w:V)
abbrev VTB:=Ds->(Ds->List Pl->Ds->Prop)->XKd->Prop
inductive Ic(a:List (Option V)):List V->List Pl->Prop
 |nil:Ic a [] []
 |no {v:V} {vs:List V} {ps:List Pl} (t:Ic a vs ps):Ic a (v::vs) (.no::ps)
 |sl {v:V} {vs:List V} {ps:List Pl} {i:Nat} (h:a[i]?=some (some v)) (t:Ic a vs ps):Ic a (v::vs) (.sl i::ps)
 |so {v:V} {vs:List V} {ps:List Pl} {i:Nat} {p:List Nat} (t:Ic a vs ps):Ic a (v::vs) (.pl i p v::ps)
inductive LiftA(c:Vc)(t:VTB)(a:St)(H:Hp)(Q:List V->Hp->Prop):Prop
 |mk (F:γ->Prop) (ds:Ds) (A:List γ) (xe:XKd) (S:Rn c F H a ds A) (x:Xc c xe F H A) (q:t ds (λxs pls ds'=>∀vs H' F' T A',Rc F' H' vs xs T->Ic (a++c.gv) vs pls->Rn c F' H' a ds' A'->Ok F' H' (T++A')->Rl F H A F' H' (T++A')->Q vs H') xe):LiftA c t a H Q
def Il(c:Vc)(t:VTB):TA:=LiftA c t
structure VAs(c:Vc)(X:Cx)(es:List Nx)(t:VTB):Prop where
 h:PA X es (Il c t)
 m:∀ds (Q Q':Ds->List Pl->Ds->Prop) (xe xe':XKd),(∀d p ds',Q d p ds'->Q' d p ds')->(∀x ds',xe x ds'->xe' x ds')->t ds Q xe->t ds Q' xe'
section
variable{c:Vc}{X:Cx}{e:Nx}{es:List Nx}{ta:VT}{tr:VTB}{pf:PF}{F F':γ->Prop}{H H':Hp}{σ:St}{ds:Ds}{A:List γ}
def A6:VTB:=λds Q _=>Q [] [] ds
theorem Ab:VAs c X [] A6:=⟨PA.mono qu3 λσ H Q ⟨F,a,A,b,S,x,q⟩=>q [] H F [] A .nil .nil S S.ok Rl.refl,λa Q Q' b d e _=>e _ _ _⟩
def tbV(ta:VT)(tr:VTB):VTB:=λds Q xe=>ta ds (λx ds1=>tr ds1 (λxs ps a=>Q (x::xs) (.no::ps) a) xe) xe
theorem vaV(f:VE c X e ta)(g:VAs c X es tr)(w:M8 (e::es) X.env=(false,eval e X.env)::M8 es X.env:=by rfl):VAs c X (e::es) (tbV ta tr):=by
 refine⟨PA.mono (qf6 f.h g.h w) λσ H Q i=>?_,λo Q Q' j y B p=>f.m _ _ _ _ _ (λd a=>g.m _ _ _ _ _ (λC D k=>B _ _ _) p) p⟩;obtain⟨F,o,A,j,S,x,q⟩:=i;refine⟨F,o,A,j,S,x,f.m _ _ _ _ _ (λM a q v H1 F1 T A1 r S1 s t=>?_) (λ_ _ z=>z) q⟩;have l:Rl F H A F1 H1 A1:=t.count λb=>by rw[zA0];lia
 refine⟨F1,a,A1,j,S1,x.step l,g.m _ _ _ _ _ (λC D k q E H2 F2 T2 A2 G I S2 J u=>?_) (λ_ _ z=>z) q⟩;have n:=r.keep (u.kp S1.ok S1.loc.cells) λb N O=>by have:=s.sep b;grind
 obtain⟨K,L⟩:=u.frame s r.cells J;exact q (v::E) H2 F2 (T++T2) A2 (.cons n G) (.no I) S2 (by rw[zAs];exact K) (by rw[zAs];exact t.trans L)
def tbB(pf:PF)(tr:VTB):VTB:=λds Q xe=>orF (pf ds) λq=>orF (A9 ds q.1 q.2) λd=>d.known=true/\∀w,tr (Bi ds q.1 q.2 (.hole w)) (λxs ps a=>Q (d::xs) (.pl q.1 q.2 w::ps) a) xe
theorem vaB(I:VP c X e pf)(a:VAs c X es tr)(J:M8 (e::es) X.env=(false,eval e X.env)::M8 es X.env:=by rfl):VAs c X (e::es) (tbB pf tr):=by
 refine⟨PA.mono (qf6 I.h a.h J) λσ H Q g=>?_,λj Q Q' v K L M=>qa5 λz=>qa5 λd=>Qb λh w=>a.m _ _ _ _ _ (λN O k=>L _ _ _) M (h w)⟩;obtain⟨F,j,A,v,S,x,q⟩:=g;obtain⟨⟨i,p⟩,P,q⟩:=qa8.mp q;obtain⟨d,e2,y,q⟩:=qa8.mp q;refine⟨F,j,A,i,p,d,S,P,e2,qp4 y,λu w H1 R T s=>?_⟩;obtain⟨B,C,r,D,U⟩:=(S.same s).place e2 (qp4 y) R T;obtain⟨A1,V,q2⟩:=U (.hole w) [] (Kp.same λ_ _ z=>z) (λ_ _ z=>z) (.hole w);have l:Ok F H1 (B++A1):=(S.same s).ok.count λb=>by rw[zA0,q2,D];simp
 have E:Rl F H A F H1 (B++A1):=⟨λb o e _=>s b o e,λb o e z=>by rw[zA0,q2];have:=D b;simp;lia,λ_ f=>f,λ_ _ _ _ f=>f⟩;have S1:Rn c F H1 σ (Bi j i p (.hole w)) A1:=⟨V,l.right,S.len,S.ag⟩;have n:Rl F H A F H1 A1:=E.count λb=>by rw[zA0];lia
 refine⟨F,_,A1,v,S1,x.step n,a.m _ _ _ _ _ (λN O k q W H2 F2 T2 A2 Y Z S2 o2 G=>?_) (λ_ _ z=>z) (q w)⟩;have t:=r.keep (G.kp S1.ok S1.loc.cells) λb hb hc=>by have:=l.sep b;rw[zA0] at this;have:=qb6.mp hb;lia
 obtain⟨o3,s3⟩:=G.frame l r.cells o2;exact q (w::W) H2 F2 (B++T2) A2 (.cons t Y) (.so Z) S2 (by rw[zAs];exact o3) (by rw[zAs];exact E.trans s3)
def tbN(i:Nat)(tr:VTB):VTB:=λds Q xe=>(rdN i ds).isSome=true/\tr ds (λxs ps ds1=>orF (rdN i ds1) λd=>Q (d::xs) (.sl i::ps) (ds1.set i .u)) xe
theorem vaN(i:Nat)(e:VAs c X es tr)(E:M8 (.Name x p::es) X.env=(false,eval (.Name x p) X.env)::M8 es X.env:=by rfl)(t:X.N[i]?=some x:=by rfl)(G:Vis X.env.scope x:=by first|exact Q8 rfl|exact Q7 (Q8 rfl)|exact Q7 (Q7 rfl))(J:N' x:=by decide)(f:(x==("__classdict__" : Str))=false:=by decide):VAs c X (.Name x p::es) (tbN i tr):=by
 refine⟨λpos Fx s σ H Q I g=>?_,λu Q Q' w K L M=>Qb (e.m _ _ _ _ _ (λO P j=>qa5 λd=>L _ _ _) M)⟩;obtain⟨F,u,A,w,S,x,k,q⟩:=g;refine qf6 (qq0 t G J f) e.h E pos Fx s σ H Q I ?_;have y:=qp0 t Fx σ H s I;obtain⟨d0,R⟩:=zB4.mp k;obtain⟨v,B0,a,_,_⟩:=S.name y R;refine⟨v,a,F,u,A,w,S,x,e.m _ _ _ _ _ (λO P j q T H2 F2 T2 A2 U V S2 D W=>?_) (λ_ _ z=>z) q⟩;obtain⟨d,l,q⟩:=qa8.mp q;obtain⟨l,Y⟩:=ql3.mp l;obtain⟨v',B,C,n,Z,h3,h4⟩:=S2.put1 l (qp4 Y);have o:=n;rw[zAr y,a] at n;cases n;obtain⟨A3,q1,q2⟩:=h4 .u [] (Kp.same λ_ _ z=>z) (λ_ _ z=>z) (.u v);have r:∀b,((B++T2)++A3).count b<=(T2++A2).count b:=λb=>by simp only[zA0,q2,h3];simp;lia
 exact q (v::T) H2 F2 (B++T2) A3 (.cons Z U) (.sl o V) ⟨q1,(D.count r).right,S.len,S.ag⟩ (D.count r) (W.count r)
def Au:List Pl->Ds->Ds->Option Ds
 |[],_,ds=>some ds|.no::ps,_::ys,ds=>Au ps ys ds|.sl i::ps,y::ys,ds=>Au ps ys (ds.set i y)|.pl i p v::ps,y::ys,ds=>match A9 ds i p with|some (.hole w)=>if w=v then Au ps ys (Bi ds i p y) else none|_=>none
 |_::_,[],_=>none
theorem qD9{ds:Ds}(L:Locs F H τ ds C)(hi:τ[i]?=some (some v))(r:Rj F H v y B):∃A':List γ,Locs F H τ (ds.set i y) A'/\∀b,A'.count b<=B.count b+C.count b:=by
 have s:=L.len;have g:=(zA5.mp hi).1;obtain⟨d,h⟩:∃d,ds[i]?=some d:=⟨_,zBa ⋯⟩;obtain⟨σ1,o,σ2,a,c,A1,B0,A2,e,e2,j,k,m,n,t,p⟩:=L.split h;have f:τ[i]?=some o:=by rw[e];exact qC8 j
 rw[hi] at f;cases f;have q:ds.set i y=a++y::c:=by have:=congrArg (λl=>l.set i y) e2;rw[this,qp9 k]
 exact⟨A1++(B++A2),by rw[e,q];exact n.append (.so r p),λb=>by rw[m];simp only[zA0];lia⟩
theorem qt7{c:List Pl}{ds:Ds}{σ:List (Option V)}(e:Ic σ vs c)(r:Rc F H (vs++more) ys B)(L:Locs F H σ ds C)(h:Au c ys ds=some a):∃A':List γ,Locs F H σ a A'/\∀b,A'.count b<=B.count b+C.count b:=by
 induction e generalizing ys ds B C with
 |nil=>
  have h:some ds=some a:=by cases ys<;>exact h
  cases h;exact⟨C,L,λb=>⋯⟩
 |no e d=>cases r with|@cons _ _ A1 _ _ B1 r1 t=>obtain⟨A',f,q2⟩:=d t L h;grind
 |sl l e d=>cases r with|@cons _ _ A1 _ _ B1 r1 t=>obtain⟨A2,f,q2⟩:=qD9 L l r1;obtain⟨A',j,k⟩:=d t f h;exact⟨A',j,λb=>by rw[zA0];have:=k b;have:=q2 b;lia⟩
 |@so v _ _ i p e d=>cases r with|@cons _ y A1 _ _ B1 r1 t=>unfold Au at h;split at h;{rename_i w hg;by_cases g:w=v;{rw[if_pos g] at h;subst g;obtain⟨u,o,B2,C2,q,s,m,x,n⟩:=L.place hg (by grind);cases m;obtain⟨A2,f,q2⟩:=n y A1 (Kp.same λ_ _ z=>z) (λ_ _ z=>z) r1;obtain⟨A',j,k⟩:=d t f h;grind};rw[if_neg g] at h;cases h};cases h
abbrev VSp:=Ds->DK->XKd->Prop
inductive LiftF(s:VSp)(vs:List V)(H:Hp)(Q:VK)(E:XK):Prop
 |mk (F:γ->Prop) (ds:Ds) (A:List γ) (r:Rc F H vs ds A) (o:Ok F H A) (q:s ds (λd ys=>∀v H' F' T A',Rj F' H' v d T->Rc F' H' vs ys A'->Ok F' H' (T++A')->Rl F H A F' H' (T++A')->Q v H')
   (λx ys=>∀e H' F' A',RepX F' H' e x->Rc F' H' vs ys A'->Ok F' H' A'->Rl F H A F' H' A'->E (.ref e) none H')):LiftF s vs H Q E
def Jr(s:VSp):Sp:=LiftF s
def B9(s:VSp):Prop:=∀ds (Q Q':DK) (xe xe':XKd),(∀d a,Q d a->Q' d a)->(∀x a,xe x a->xe' x a)->s ds Q xe->s ds Q' xe'
def qj2(s:VSp)(dv:Ds)(tr:VTB):VT:=λds Q xe=>tr ds (λxs ps ds1=>s (xs++dv) (λd ys=>orF (Au ps ys ds1) λa=>Q d a) (λx ys=>orF (Au ps ys ds1) λa=>xe x a)) xe
theorem qas9(f:B9 s)(g:VAs c X es tr):∀ds (Q Q':DK) (xe b:XKd),(∀d a,Q d a->Q' d a)->(∀x a,xe x a->b x a)->qj2 s dv tr ds Q xe->qj2 s dv tr ds Q' b:=λds Q Q' xe b h e=>g.m _ _ _ _ _ (λk l i=>f _ _ _ _ _ (λd j=>qa5 λz=>h _ _) (λx j=>qa5 λz=>e _ _)) e
def Mc(dvs:List V)(dv:Ds):Prop:=∀F H,Rc F H dvs dv []
theorem qz5:Mc [] []:=λ_ _=>.nil
theorem qaU2(C:Mc dvs dv)(D:B9 s)(G:VAs c X es tr):∀σ H Q,Bh c (qj2 s dv tr) σ H Q->Ls (Jr s) dvs c.E (Il c tr) σ H Q:=by
 rintro σ H Q ⟨F,I,A,J,S,x,q⟩;refine⟨F,I,A,J,S,x,G.m _ _ _ _ _ (λK R L q U H1 F1 T A1 M u S1 a w=>?_) (λ_ _ z=>z) q⟩;have rall:=M.append (C F1 H1);rw[zAi] at rall;refine⟨F1,K++dv,T,rall,a.left,D _ _ _ _ _ (λd N q v H2 F2 T2 A2 O j k h=>?_) (λy N q e H2 F2 A2 P j k h=>?_) q⟩
 .obtain⟨i,l,q⟩:=qa8.mp q;have f:Ok F1 H1 (A1++T):=a.count λb=>by simp only[zA0];lia
  obtain⟨n,o⟩:=h.frame f S1.loc.cells k;have L1:=S1.loc.keep (h.kp a.left rall.cells) λb p g=>by have:=a.sep b;rw[zA0] at this;have:=qb6.mp p;lia
  obtain⟨A3,r,q2⟩:=qt7 u j L1 l;have g:∀b,(T2++A3).count b<=(A1++(T2++A2)).count b:=λb=>by simp only[zA0];have:=q2 b;lia
  have B:=n.count g;have t:=(w.trans (o.pre λb=>by simp only[zA0];lia)).count g;exact q v H2 F2 T2 A3 O ⟨r,B.right,S.len,S.ag⟩ B t
 obtain⟨i,l,q⟩:=qa8.mp q;have f:Ok F1 H1 (A1++T):=a.count λb=>by simp only[zA0];lia
 obtain⟨n,o⟩:=h.frame f S1.loc.cells k;have L1:=S1.loc.keep (h.kp a.left rall.cells) λb p g=>by have:=a.sep b;rw[zA0] at this;have:=qb6.mp p;lia
 obtain⟨A3,r,q2⟩:=qt7 u j L1 l;have g:∀b,A3.count b<=(A1++A2).count b:=λb=>by simp only[zA0];have:=q2 b;lia
 have t:Rl F H A F2 H2 A3:=(w.trans (o.pre λb=>by simp only[zA0];lia)).count g;exact x y i σ e H2 F2 A3 q P ⟨r,(n.count g),S.len,S.ag⟩ t
end
structure Hr(cm:Bool)(P:Nu)(w:Nw)(K:Qe)(mg:Str->Option V')(base:Heap)(k:Nat)(f:γ)(fd:δ)(ps:List Str)(s:VSp):Prop where
 ok:Go cm P w K mg base (CX1 P w) k f fd ps (Jr s)
 m:B9 s
abbrev VFn:=Hr true
section
variable{c:Vc}{X:Cx}{a e:Nx}{es:List Nx}{tr:VTB}{F F1:γ->Prop}{H H1:Hp}{σ:St}{ds ds1:Ds}{A A1 T:List γ}{pos p apos:Pos}{x qual m:Str}{st:Ny}{f C:γ}{fd:δ}{ps:List Str}{k:Nat}{s:VSp}{dvs:List V}{dv:Ds}
theorem Ah(D:Df X.K X.mg x qual st f fd ps)(G:Hr cm X.prog X.w X.K X.mg X.base k f fd ps s)(i:Lands X c.E)(j:Ro cm k X.A)(a:VAs c X (e::es) tr)(l:Gl X x:=by rfl)(d:N' x:=by decide)(n:M8 (e::es) X.env=(false,eval e X.env)::M8 es X.env:=by rfl)(g:(backTo pos (M8 es X.env)).any (·.1)=false:=by rfl):VE c X (.Call (.Name x p) (e::es) [] pos) (qj2 s [] tr):=⟨PE.mono (qav2 G.ok j l D.m D.F.kp D.b .nil i.passes a.h d n g) (qaU2 qz5 G.m a),qas9 G.m a⟩
theorem qaU3{f:List Pl}{K:DK}(B:Mc dvs dv)(C:B9 s)(S:Rn c F H σ ds A)(x:Xc c xe F H A)(r1:Rc F1 H1 vs xs T)(u:Ic (σ++c.gv) vs f)(S1:Rn c F1 H1 σ ds1 A1)(o1:Ok F1 H1 (T++A1))(w:Rl F H A F1 H1 (T++A1))(D:∀d i,K d i->∀v H' F' T A',Rj F' H' v d T->Rn c F' H' σ i A'->Ok F' H' (T++A')->Rl F H A F' H' (T++A')->Q v H')(q:s (xs++dv) (λd ys=>orF (Au f ys ds1) λa=>K d a) (λx ys=>orF (Au f ys ds1) λa=>xe x a)):Jr s (vs++dvs) H1 Q (c.E σ):=by
 have rall:=r1.append (B F1 H1);rw[zAi] at rall;refine⟨F1,xs++dv,T,rall,o1.left,C _ _ _ _ _ (λd ys q v H2 F2 T2 A2 G k l j=>?_) (λy ys q e H2 F2 A2 I k l j=>?_) q⟩
 .obtain⟨a,m,q⟩:=qa8.mp q;have g:Ok F1 H1 (A1++T):=o1.count λb=>by simp only[zA0];lia
  obtain⟨n,o⟩:=j.frame g S1.loc.cells l;have L1:=S1.loc.keep (j.kp o1.left rall.cells) λb p h=>by have:=o1.sep b;rw[zA0] at this;have:=qb6.mp p;lia
  obtain⟨A3,r,q2⟩:=qt7 u k L1 m;have h:∀b,(T2++A3).count b<=(A1++(T2++A2)).count b:=λb=>by simp only[zA0];have:=q2 b;lia
  have z:Ok F2 H2 (T2++A3):=n.count h;have t:=(w.trans (o.pre λb=>by simp only[zA0];lia)).count h;exact D d a q v H2 F2 T2 A3 G ⟨r,z.right,S.len,S.ag⟩ z t
 obtain⟨a,m,q⟩:=qa8.mp q;have g:Ok F1 H1 (A1++T):=o1.count λb=>by simp only[zA0];lia
 obtain⟨n,o⟩:=j.frame g S1.loc.cells l;have L1:=S1.loc.keep (j.kp o1.left rall.cells) λb p h=>by have:=o1.sep b;rw[zA0] at this;have:=qb6.mp p;lia
 obtain⟨A3,r,q2⟩:=qt7 u k L1 m;have h:∀b,A3.count b<=(A1++A2).count b:=λb=>by simp only[zA0];have:=q2 b;lia
 have t:Rl F H A F2 H2 A3:=(w.trans (o.pre λb=>by simp only[zA0];lia)).count h;exact x y a σ e H2 F2 A3 q I ⟨r,(n.count h),S.len,S.ag⟩ t
def D.isM(C:γ)(m:Str):D->Bool|.ins _ C' fs=>decide (C'=C)&&(fs.lookup m).isNone|_=>false
theorem qC4{α β:Type}:∀{fs:List (Str×α)}{a:List (Str×β)}{f:Str},fs.map (·.1)=a.map (·.1)->(fs.lookup f).isNone=(a.lookup f).isNone
 |[],[],_,_=>rfl|[],_::_,_,h=>by simp at h|_::_,[],_,h=>by simp at h|(k,_)::r,(k',_)::r',f,h=>by
  have b:k=k':=by simp at h;exact h.1
  have c:r.map (·.1)=r'.map (·.1):=by simp at h;simpa using h.2
  subst b;rw[zAu,zAu];cases f==k with|true=>rfl|false=>exact qC4 c
theorem Rj.isM(r:Rj F H v d B)(h:d.isM C m=true):∃a dx fs,v=.ref a/\H a=some (.ins C dx fs)/\fs.lookup m=none:=by cases d with|ins z C' f=>have h:=zAh.mp h;obtain⟨a,dx,b,A,rfl,g,e,i,_⟩:=r.ins_inv;have:=zAe h.1;subst this;refine⟨a,dx,b,rfl,g,?_⟩;have c:=h.2;rw[<-qC4 e] at c;exact Option.isNone_iff_eq_none.mp c|_=>cases h
def qz8(C:γ)(m:Str)(s:VSp)(dv:Ds)(i:Nat)(tr:VTB):VT:=λds Q xe=>(orF (rdN i ds) λd=>d.isM C m=true)/\tr ds (λxs ps ds1=>orF (rdN i ds1) λd=>s (d::(xs++dv)) (λr ys=>orF (Au (.sl i::ps) ys (ds1.set i .u)) λa=>Q r a) (λx ys=>orF (Au (.sl i::ps) ys (ds1.set i .u)) λa=>xe x a)) xe
theorem qK2(f:B9 s)(g:VAs c X es tr):∀ds (Q Q':DK) (xe b:XKd),(∀d a,Q d a->Q' d a)->(∀x a,xe x a->b x a)->qz8 C m s dv i tr ds Q xe->qz8 C m s dv i tr ds Q' b:=λds Q Q' xe b h e=>Qb (g.m _ _ _ _ _ (λl n j=>qa5 λd=>f _ _ _ _ _ (λd k=>qa5 λz=>h _ _) (λx k=>qa5 λz=>e _ _)) e)
theorem qaf6{σ:St}{H:Hp}(t:Mc dvs dv)(u:B9 s)(w:VAs c X es tr)(hi:i<σ.length)(q:Bh c (qz8 C m s dv i tr) σ H Q):Lu C m (Jr s) dvs c.E (Ja i) (Il c tr) σ H Q:=by
 obtain⟨F,y,A,D,S,x,f,q⟩:=q;obtain⟨W,G,f⟩:=qa8.mp f;obtain⟨v,B0,e,I,_⟩:=S.name hi G;obtain⟨a,J,K,rfl,g,j⟩:=I.isM f;refine⟨.ref a,e,a,J,K,rfl,g,j,F,y,A,D,S,x,w.m _ _ _ _ _ (λY Z L q vs H2 F2 T2 A2 M N S2 r O=>?_) (λ_ _ z=>z) q⟩;obtain⟨d,k,q⟩:=qa8.mp q;obtain⟨k,l⟩:=ql3.mp k;obtain⟨v',B,C0,n,P,R,T⟩:=S2.put1 k (qp4 l);have o:=n;rw[zAr hi,e] at n;cases n;obtain⟨A3,U,q2⟩:=T .u [] (Kp.same λ_ _ z=>z) (λ_ _ z=>z) (.u _);have p:∀b,((B++T2)++A3).count b<=(T2++A2).count b:=λb=>by simp only[zA0,q2,R];simp;lia
 exact qaU3 t u S x (.cons P M) (.sl o N) ⟨U,(r.count p).right,S.len,S.ag⟩ (r.count p) (O.count p) (λd V h=>h) q
theorem qj5{pl:Sem Bool}(i:Nat){xn:Str}{p0:Pos}(D:Md X.K C m qual st f fd ps)(n:Cls X.K C)(G:Hr cm X.prog X.w X.K X.mg X.base k f fd ps s)(o:Lands X c.E)(p:Ro cm k X.A)(a:VAs c X (e::es) tr)(l:X.N[i]?=some xn:=by rfl)(r:Vis X.env.scope xn:=by first|exact Q8 rfl|exact Q7 (Q8 rfl)|exact Q7 (Q7 rfl))(t:N' xn:=by decide)(d:(xn==("__classdict__" : Str))=false:=by decide)(g:M8 (e::es) X.env=(false,eval e X.env)::M8 es X.env:=by rfl)(j:(backTo pos (M8 es X.env)).any (·.1)=false:=by rfl)(u:eval (.Call (.Attribute (.Name xn p0) m apos) (e::es) [] pos) X.env=(do
     let ov<-eval (.Name xn p0) X.env
     standAt apos.atName
     let (f,first)<-holding [ov] (getMethod ov m pl)
     callWith pos f first (backTo pos (M8 (e::es) X.env)) (backToKw pos (Nk [] X.env))):=by rfl):VE c X (.Call (.Attribute (.Name xn p0) m apos) (e::es) [] pos) (qz8 C m s [] i tr):=⟨λFx s σ H Q I q=>qaN5 (qq0 l r t d) n D.me G.ok p D.b .nil o.passes a.h g j u Fx s σ H Q I (qaf6 qz5 G.m a (qp0 l Fx σ H s I) q),qK2 G.m a⟩
theorem qL7{pl:Sem Bool}(i:Nat){xn:Str}{p0:Pos}(D:Md X.K C m qual st f fd ps)(j:Cls X.K C)(G:Hr cm X.prog X.w X.K X.mg X.base k f fd ps s)(l:Lands X c.E)(n:Ro cm k X.A)(g:X.N[i]?=some xn:=by rfl)(d:Vis X.env.scope xn:=by first|exact Q8 rfl|exact Q7 (Q8 rfl)|exact Q7 (Q7 rfl))(o:N' xn:=by decide)(e:(xn==("__classdict__" : Str))=false:=by decide)(p:eval (.Call (.Attribute (.Name xn p0) m apos) [] [] pos) X.env=(do
     let ov<-eval (.Name xn p0) X.env
     standAt apos.atName
     let (f,first)<-holding [ov] (getMethod ov m pl)
     callWith pos f first (backTo pos (M8 [] X.env)) (backToKw pos (Nk [] X.env))):=by rfl):VE c X (.Call (.Attribute (.Name xn p0) m apos) [] [] pos) (qz8 C m s [] i A6):=⟨λFx h σ H Q I q=>qaB5 (qq0 g d o e) j D.me G.ok n D.b .nil l.passes p Fx h σ H Q I (by
   obtain⟨v,d,a,r,t,u,x,y,F2,z,A2,B,S2,F,q2⟩:=qaf6 (X:=X) qz5 G.m Ab (qp0 g Fx σ H h I) q;exact⟨v,d,a,r,t,u,x,y,q2 [] H F2 [] A2 .nil .nil S2 S2.ok Rl.refl⟩),qK2 (c:=c) G.m (X:=X) Ab⟩
def qY3(C:γ)(s:VSp)(dv:Ds)(tr:VTB):VT:=λds Q xe=>tr ds (λxs ps ds1=>s (.ins false C []::(xs++dv)) (λd ys=>d.isN=some true/\orF ys.head? λself=>orF (Au ps ys.tail ds1) λa=>Q self a) (λx ys=>orF (Au ps ys.tail ds1) λa=>xe x a)) xe
theorem qV0(f:B9 s)(g:VAs c X es tr):∀ds (Q Q':DK) (xe b:XKd),(∀d a,Q d a->Q' d a)->(∀x a,xe x a->b x a)->qY3 C s dv tr ds Q xe->qY3 C s dv tr ds Q' b:=λds Q Q' xe b h e=>g.m _ _ _ _ _ (λk l i=>f _ _ _ _ _ (λd j=>Qb (qa5 λz=>qa5 λw=>h _ _)) (λx j=>qa5 λz=>e _ _)) e
theorem qav7(N:Mc dvs dv)(O:B9 s)(P:VAs c X es tr):∀σ H Q,Bh c (qY3 C s dv tr) σ H Q->tMake C (Jr s) dvs c.E (Il c tr) σ H Q:=by
 rintro σ H Q ⟨F,R,A,U,S,x,q⟩;refine⟨F,R,A,U,S,x,P.m _ _ _ _ _ (λV ps h q W H1 F1 T A1 K L S1 Y Z=>?_) (λ_ _ z=>z) q⟩;intro y dy n o p;have same:Same H1 (upd (upd H1 dy (.own y)) y (.ins C dy [])):=(Same.new o).trans (Same.new (by rw[qb2 (Ne.symm p)];exact n));have rall:Rc F1 (upd (upd H1 dy (.own y)) y (.ins C dy [])) (.ref y::(W++dvs)) (.ins false C []::(V++dv)) ([y]++(T++[])) :=
  .cons (.ins qb1 rfl .nil) ((K.append (N F1 H1)).same same)
 rw[zAi] at rall;have i:=(qg7 n).ok Y (λb a=>by rcases zAd.mp a with a|a;{exact K.cells b a};exact S1.loc.cells b a) same;have r:Ok F1 (upd (upd H1 dy (.own y)) y (.ins C dy [])) ([y]++T):=i.count λb=>by simp only[zA0];lia
 have M:=Z.trans ((qg7 n).stp same);have S1':=S1.same same;refine⟨F1,_,[y]++T,rall,r,O _ _ _ _ _ (λd ys q v H2 F2 T2 A2 r2 t u j=>?_) (λex ys q e H2 F2 A2 rx t u j=>?_) q⟩
 .obtain⟨hn,q⟩:=q;have hv:v=.non:=by cases d with|non=>cases r2;rfl|_=>cases hn
  refine⟨hv,?_⟩;obtain⟨self,eh,q⟩:=qa8.mp q;obtain⟨k,w,B⟩:=qa8.mp q;have g:Ok F1 _ (A1++([y]++T)):=i.count λb=>by simp only[zA0];lia
  obtain⟨D,G⟩:=j.frame g S1'.loc.cells u;have L1:Locs F2 H2 (σ++c.gv) h A1:=S1'.loc.keep (j.kp r rall.cells) λb a f=>by have:=i.sep b;simp only[zA0] at this f;have:=qb6.mp a;lia
  cases t with
  |@cons _ d0 Aself _ ys' B' rself rrest=>
   cases eh;obtain⟨A3,I,q2⟩:=qt7 L rrest L1 w;have f:∀b,(Aself++A3).count b<=(A1++(T2++(Aself++B'))).count b:=λb=>by simp only[zA0];have:=q2 b;lia
   have l:=D.count f;have J:Rl F H A F2 H2 (Aself++A3):=(M.trans (G.pre λb=>by simp only[zA0];lia)).count f;exact B (.ref y) H2 F2 Aself A3 rself ⟨I,l.right,S.len,S.ag⟩ l J
 obtain⟨k,w,B⟩:=qa8.mp q;have g:Ok F1 _ (A1++([y]++T)):=i.count λb=>by simp only[zA0];lia
 obtain⟨D,G⟩:=j.frame g S1'.loc.cells u;have L1:Locs F2 H2 (σ++c.gv) h A1:=S1'.loc.keep (j.kp r rall.cells) λb a f=>by have:=i.sep b;simp only[zA0] at this f;have:=qb6.mp a;lia
 cases t with
 |@cons _ d0 Aself _ ys' B' rself rrest=>
  obtain⟨A3,I,q2⟩:=qt7 L rrest L1 w;have f:∀b,A3.count b<=(A1++(Aself++B')).count b:=λb=>by simp only[zA0];have:=q2 b;lia
  have l:=D.count f;have J:Rl F H A F2 H2 A3:=(M.trans (G.pre λb=>by simp only[zA0];lia)).count f;exact x ex k σ e H2 F2 A3 B rx ⟨I,l,S.len,S.ag⟩ J
theorem emake(i:Cl X.K X.mg x C)(M:Mk X.K C f)(D:Md X.K C m qual st f fd ps)(G:Hr cm X.prog X.w X.K X.mg X.base k f fd ps s)(j:Lands X c.E)(l:Ro cm (k+1) X.A)(a:VAs c X (e::es) tr)(n:Gl X x:=by rfl)(d:N' x:=by decide)(o:M8 (e::es) X.env=(false,eval e X.env)::M8 es X.env:=by rfl)(g:(backTo pos (M8 es X.env)).any (·.1)=false:=by rfl):VE c X (.Call (.Name x p) (e::es) [] pos) (qY3 C s [] tr):=⟨PE.mono (qav1 M G.ok l n i.m D.b .nil j.passes a.h d o g) (qav7 qz5 G.m a),qV0 G.m a⟩
def tLstV(tr:VTB):VT:=λds Q xe=>tr ds (λxs ps ds1=>xs.length<=big/\Q (.l false xs) ds1) xe
def Js(tr:VTB):VT:=λds Q xe=>tr ds (λxs ps ds1=>xs.length<=big/\Q (.q xs) ds1) xe
theorem Ie(d:VAs c X es tr):VE c X (.List es pos) (tLstV tr):=by refine⟨PE.mono (qaB6 d.h) λσ H Q e=>?_,λj Q Q' k l n o=>d.m _ _ _ _ _ (λp r f=>Qb (n _ _)) o⟩;obtain⟨F,j,A,k,S,x,q⟩:=e;refine⟨F,j,A,k,S,x,d.m _ _ _ _ _ (λp r f q s H1 F1 T A1 g B S1 t v=>⟨by rw[g.len];exact zA7 q.1 qh1,λy i=>?_⟩) (λ_ _ z=>z) q⟩;have same:=Same.new (u:=.l s) i;have w:=(qg7 i).ok t (λb a=>by rcases zAd.mp a with a|a;{exact g.cells b a};exact S1.loc.cells b a) same;exact q.2 (.ref y) _ F1 (y::T) A1 (.l qb1 (g.same same)) (S1.same same) w (v.trans ((qg7 i).stp same))
theorem Je(a:VAs c X es tr):VE c X (.Tuple es n pos) (Js tr):=by refine⟨PE.mono (qaN2 a.h) λσ H Q b=>?_,λe Q Q' f j k l=>a.m _ _ _ _ _ (λo p d=>Qb (k _ _)) l⟩;obtain⟨F,e,A,f,S,x,q⟩:=b;refine⟨F,e,A,f,S,x,a.m _ _ _ _ _ (λo p d q r H1 F1 T A1 g v S1 s t=>⟨by rw[g.len];exact zA7 q.1 qh1,λy i=>?_⟩) (λ_ _ z=>z) q⟩;have same:=Same.new (u:=.q r) i;exact q.2 (.ref y) _ F1 T A1 (qK0 i g) (S1.same same) (s.same same) (t.trans (.same same))
end
structure VEnds where
 nx:Ds->Prop
 rt:DK
 bk:Ds->Prop
 ct:Ds->Prop
 xe:XKd
abbrev VTS:=VEnds->Ds->Prop
structure VEnds.Le(e e':VEnds):Prop where
 nx:∀ds,e.nx ds->e'.nx ds
 rt:∀d ds,e.rt d ds->e'.rt d ds
 bk:∀ds,e.bk ds->e'.bk ds
 ct:∀ds,e.ct ds->e'.ct ds
 xe:∀x ds,e.xe x ds->e'.xe x ds
structure Lk(c:Vc)(E:By)(F:γ->Prop)(H:Hp)(A:List γ)(e:VEnds):Prop where
 nx:∀ds' a' H' F' A',e.nx ds'->Rn c F' H' a' ds' A'->Rl F H A F' H' A'->E.nx a' H'
 rt:∀d ds' v a' H' F' T A',e.rt d ds'->Rj F' H' v d T->Rn c F' H' a' ds' A'->Ok F' H' (T++A')->Rl F H A F' H' (T++A')->E.rt v H'
 bk:∀ds' a' H' F' A',e.bk ds'->Rn c F' H' a' ds' A'->Rl F H A F' H' A'->E.bk a' H'
 ct:∀ds' a' H' F' A',e.ct ds'->Rn c F' H' a' ds' A'->Rl F H A F' H' A'->E.ct a' H'
 xe:Xc c e.xe F H A
theorem Lk.step(l:Lk c E F H A e)(s:Rl F H A F1 H1 A1):Lk c E F1 H1 A1 e:=⟨λa b' H' F' A' h S t=>l.nx a b' H' F' A' h S (s.trans t),λd a v b' H' F' T A' h r S o t=>l.rt d a v b' H' F' T A' h r S o (s.trans t),λa b' H' F' A' h S t=>l.bk a b' H' F' A' h S (s.trans t),λa b' H' F' A' h S t=>l.ct a b' H' F' A' h S (s.trans t),l.xe.step s⟩
inductive LiftS(c:Vc)(t:VTS)(E:By)(a:St)(H:Hp):Prop
 |mk (F:γ->Prop) (ds:Ds) (A:List γ) (e:VEnds) (S:Rn c F H a ds A) (l:Lk c E F H A e) (q:t e ds):LiftS c t E a H
def Hd(c:Vc)(t:VTS):TS:=LiftS c t
structure VS(c:Vc)(X:Cx)(st:Ny)(t:VTS):Prop where
 h:PS X st (Hd c t)
 m:∀(e e':VEnds) ds,e.Le e'->t e ds->t e' ds
structure VSs(c:Vc)(X:Cx)(st:List Ny)(t:VTS):Prop where
 h:PSs X st (Hd c t)
 m:∀(e e':VEnds) ds,e.Le e'->t e ds->t e' ds
section
variable{c:Vc}{X:Cx}{a b e:Nx}{G:Ny}{rest:List Ny}{t u:VTS}{te:VT}{pos:Pos}
def Jt:VTS:=λe ds=>e.nx ds
def Ig(t u:VTS):VTS:=λe ds=>t {e with nx:=u e} ds
theorem As:VSs c X [] Jt:=⟨PSs.mono qaL9 λE C H ⟨F,a,A,e,S,l,q⟩=>l.nx a C H F A q S Rl.refl,λe b a h=>h.nx a⟩
theorem Aa(h1:VS c X G t)(h2:VSs c X rest u):VSs c X (G::rest) (Ig t u):=by exact⟨PSs.mono (qQ0 h1.h h2.h) λE C H ⟨F,a,A,e,S,l,q⟩=>(⟨F,a,A,{e with nx:=u e},S,⟨λb C' H' F' A' q S' s=>⟨F',b,A',e,S',l.step s,q⟩,l.rt,l.bk,l.ct,l.xe⟩,q⟩),λe d a h=>h1.m _ _ _ ⟨λa=>h2.m _ _ _ h,h.rt,h.bk,h.ct,h.xe⟩⟩
theorem Ag(h1:VS c X G t):VSs c X [G] t:=⟨qJ1 h1.h,h1.m⟩
def Me(te:VT):VTS:=λe ds=>te ds e.rt e.xe
theorem An(h:VE c X e te):VS c X (.Return (some e) pos) (Me te):=by refine⟨PS.mono (qaM1 h.h) λE C H ⟨F,b,A,e,S,l,q⟩=>⟨F,b,A,e.xe,S,l.xe,h.m _ _ _ _ _ (λd a q v H' F' T A' r S' o s=>l.rt d a v C H' F' T A' q r S' o s) (λ_ _ z=>z) q⟩,λe g b f=>h.m _ _ _ _ _ f.rt f.xe⟩
def sExpr(te:VT):VTS:=λe ds=>te ds (λ_ a=>e.nx a) e.xe
theorem Fy(h:VE c X e te)(i:swapsWith e none pos.line X.env=pure false:=by rfl):VS c X (.Expr e pos) (sExpr te):=by refine⟨PS.mono (qaM2 h.h i) λE C H ⟨F,f,A,e,S,l,q⟩=>⟨F,f,A,e.xe,S,l.xe,h.m _ _ _ _ _ (λd a q v H' F' T A' r S' o s=>l.nx a C H' F' A' q S' (s.count λb=>by rw[zA0];lia)) (λ_ _ z=>z) q⟩,λe j f g=>h.m _ _ _ _ _ (λ_=>g.nx) g.xe⟩
def sIf(qc:VTT)(t u:VTS):VTS:=λe ds=>qc ds (λk a=>if k=true then t e a else u e a) e.xe
theorem sif(b:VTe c X cd qc)(g:VSs c X x t)(i:VSs c X y u):VS c X (.If cd x y pos) (sIf qc t u):=by refine⟨PS.mono (ps_if b.h g.h i.h) λE C H d=>?_,λe n j f=>b.m _ _ _ _ _ (λk a=>qC5 (g.m _ _ _ f) (i.m _ _ _ f)) f.xe⟩;obtain⟨F,j,A,e,S,l,q⟩:=d;refine⟨F,j,A,e.xe,S,l.xe,b.m _ _ _ _ _ (λk a q H' F' A' S' s=>?_) (λ_ _ z=>z) q⟩;cases k with|true=>rw[if_pos rfl] at q ⊢;exact⟨F',a,A',e,S',l.step s,q⟩|false=>rw[if_neg ∅] at q ⊢;exact⟨F',a,A',e,S',l.step s,q⟩
def qaX0:VTS:=λ_ _=>False
theorem qan4:VS c X G qaX0:=⟨λ_ _ _ _ _ _ ⟨_,_,_,_,_,_,q⟩=>q.elim,λ_ _ _ _ q=>q.elim⟩
abbrev VTG:=D->Ds->(Ds->Prop)->Prop
inductive LiftG(c:Vc)(g:VTG)(v:V)(C:St)(H:Hp)(Q:St->Hp->Prop):Prop
 |mk (F:γ->Prop) (ds:Ds) (A T:List γ) (d:D) (r:Rj F H v d T) (S:Rn c F H C ds A) (o:Ok F H (T++A)) (q:g d ds (λds'=>∀C' H' F' A',Rn c F' H' C' ds' A'->Rl F H (T++A) F' H' A'->Q C' H')):LiftG c g v C H Q
def Im(c:Vc)(g:VTG):TG:=LiftG c g
structure VG(c:Vc)(X:Cx)(e:Nx)(g:VTG):Prop where
 h:PG X e (Im c g)
 m:∀d ds (Q Q':Ds->Prop),(∀ds',Q ds'->Q' ds')->g d ds Q->g d ds Q'
theorem PG.mono(h:PG X e g)(i:∀v C H Q,g' v C H Q->g v C H Q):PG X e g':=λFx s C H v u Q I r q=>h Fx s C H v u Q I r (i v C H Q q)
theorem Rn.store(S:Rn c F H C ds A)(m:c.W i=false)(hi:i<C.length)(r:Rj F H v d T)(o:Ok F H (T++A)):∃A',Rn c F H (C.set i (some v)) (ds.set i d) A'/\Rl F H (T++A) F H A':=by
 have n:=S.loc.len;rw[zAf] at n;obtain⟨σ1,x,σ2,e,f,A1,B,A2,p,e2,q,s,t,u,y,w⟩:=S.loc.split (i:=i) (d:=ds[i]'⋯) (by simp);have hσ:C.set i (some v)++c.gv=σ1++some v::σ2:=by rw[<-O6 _ _ hi,p,qp9 q]
 have g:ds.set i d=e++d::f:=by have:=congrArg (λl=>l.set i d) e2;rw[this,qp9 s]
 have a:∀b,(A1++(T++A2)).count b<=(T++A).count b:=λb=>by rw[t];simp only[zA0];lia
 refine⟨A1++(T++A2),⟨by rw[hσ,g];exact u.append (.so r w),o.count a,?_,λj h=>?_⟩,Rl.refl.count a⟩;{rw[S.len,zAf,zAf,zCo]};have k:i≠j:=λz=>by subst z;rw[m] at h;cases h
 rw[<-S.ag j h,<-O6 _ _ hi,zBi k]
def gNm(i:Nat):VTG:=λd ds Q=>Q (ds.set i d)
theorem Bf(i:Nat)(b:X.N.Nodup)(e:c.W i=false:=by rfl)(hi:X.N[i]?=some x:=by rfl)(f:Loc X.env.scope x:=by first|exact Q8 rfl|exact Q7 rfl)(g:X.fn x=true∨X.env.scope.names.lookup x=some .local:=by first|exact .inl rfl|exact .inr rfl|assumption):VG c X (.Name x pos) (gNm i):=by refine⟨λFx s C H v h Q I j a=>?_,λd k Q Q' l=>l _⟩;obtain⟨F,k,A,T,d,r,S,o,q⟩:=a;refine qav0 b hi f g Fx s C H v h Q I j ?_;obtain⟨A',S',m⟩:=S.store e (qp0 hi Fx C H s I) r o;exact q _ H F A' S' m
def Gw(te:VT)(g:VTG):VTS:=λe ds=>te ds (λd a=>g d a e.nx) e.xe
theorem qbe2(h:VE c X e te)(f:VG c X tg g):∀E C H,Hd c (Gw te g) E C H->K5 (Bh c te) (Im c g) E C H:=by rintro E C H ⟨F,i,A,j,S,l,q⟩;exact⟨F,i,A,j.xe,S,l.xe,h.m _ _ _ _ _ (λd a q v H' F' T A' r S' o s=>(⟨F',a,A',T,d,r,S',o,f.m _ _ _ _ (λb q σ2 H2 F2 A2 S2 k=>l.nx b σ2 H2 F2 A2 q S2 (s.trans k)) q⟩)) (λ_ _ z=>z) q⟩
theorem qak9(h:VE c X e te)(f:VG c X tg g):∀(en a:VEnds) ds,en.Le a->Gw te g en ds->Gw te g a ds:=λen a ds b=>h.m _ _ _ _ _ (λd i=>f.m _ _ _ _ b.nx) b.xe
theorem G4(h:VE c X e te)(a:VG c X tg g)(b:swapsWithSole [tg] e pos.line X.env=pure false:=by rfl)(d:swappedStores [tg] e X.env=pure none:=by rfl)(h1:(Np [tg] X.env).map (·.2)=[assign tg X.env]:=by rfl):VS c X (.Assign [tg] e pos) (Gw te g):=⟨PS.mono (qaX7 h.h a.h b d h1) (qbe2 h a),qak9 h a⟩
theorem Ak(i:Nat)(a:X.N.Nodup)(h:VE c X e te)(b:c.W i=false:=by rfl)(hi:X.N[i]?=some x:=by rfl)(f:Loc X.env.scope x:=by first|exact Q8 rfl|exact Q7 rfl)(j:swapsWith e (some (.Name x pos')) pos.line X.env=pure false:=by rfl)(g:X.fn x=true∨X.env.scope.names.lookup x=some .local:=by first|exact .inl rfl|exact .inr rfl|assumption):VS c X (.Assign [.Name x pos'] e pos) (Gw te (gNm i)):=by have k:VG c X (.Name x pos') (gNm i):=Bf i a b hi f g;refine⟨λFx s C H E I q=>qaM0 a hi f h.h j g Fx s C H E I ?_,qak9 h k⟩;obtain⟨F,n,A,p,S,l,q⟩:=q;refine⟨F,n,A,p.xe,S,l.xe,h.m _ _ _ _ _ (λd t q v H' F' T A' r S' o u=>?_) (λ_ _ z=>z) q⟩;obtain⟨A2,S2,w⟩:=S'.store b (qp0 hi Fx C H s I) r o;exact l.nx _ _ H' F' A2 q S2 (u.trans w)
abbrev Jf:=Ds->Ds->(Ds->Prop)->Prop
inductive qaV7(c:Vc)(g:Jf)(vs:List V)(C:St)(H:Hp)(Q:St->Hp->Prop):Prop
 |mk (F:γ->Prop) (ds:Ds) (A T:List γ) (xs:Ds) (r:Rc F H vs xs T) (S:Rn c F H C ds A) (o:Ok F H (T++A)) (q:g xs ds (λds'=>∀C' H' F' A',Rn c F' H' C' ds' A'->Rl F H (T++A) F' H' A'->Q C' H')):qaV7 c g vs C H Q
def qba9(c:Vc)(g:Jf):TGs:=qaV7 c g
structure VGs(c:Vc)(X:Cx)(es:List Nx)(g:Jf):Prop where
 h:PGs X es (qba9 c g)
 m:∀xs ds (Q Q':Ds->Prop),(∀ds',Q ds'->Q' ds')->g xs ds Q->g xs ds Q'
theorem PGs.mono(h:PGs X es g)(i:∀v C H Q,g' v C H Q->g v C H Q):PGs X es g':=λFx s C H v u Q I r q=>h Fx s C H v u Q I r (i v C H Q q)
def Iq:Jf:=λxs ds Q=>match xs with | []=>Q ds|_=>False
def qL4(g:VTG)(b:Jf):Jf:=λxs ds Q=>match xs with|x::r=>g x ds λa=>b r a Q | []=>False
theorem Ku:VGs c X [] Iq:=by refine⟨PGs.mono qaN0 λf C H Q a=>?_,λb d Q Q' e q=>by cases b with|nil=>exact e _ q|cons _ _=>exact q.elim⟩;obtain⟨F,d,A,T,b,r,S,o,q⟩:=a;cases b with|nil=>cases r;exact⟨rfl,q C H F A S Rl.refl⟩|cons _ _=>exact q.elim
theorem qL3{j:Jf}(h1:VG c X tg g)(h2:VGs c X es j)(p:(Np (tg::es) X.env).map (·.2)=assign tg X.env::(Np es X.env).map (·.2):=by rfl):VGs c X (tg::es) (qL4 g j):=by
 refine⟨PGs.mono (qaB4 h1.h h2.h p) λk C H Q ⟨F,l,A,T,d,r,S,o,q⟩=>?_,λd l Q Q' s q=>by cases d with|nil=>exact q.elim|cons x r=>exact h1.m _ _ _ _ (λt=>h2.m _ _ _ _ s) q⟩;cases d with
 |nil=>exact q.elim|cons x d=>
  cases r with
  |@cons v _ T1 k _ T2 r1 rt=>
   refine⟨v,k,rfl,F,l,A,T1,x,r1,S,o.count λb=>by simp only[zA0];lia,h1.m _ _ _ _ (λe q σ1 H1 F1 A1 S1 n=>?_) q⟩;have f:Ok F H (T2++(T1++A)):=o.count λb=>by simp only[zA0];lia
   obtain⟨u,w⟩:=n.frame f rt.cells S1.ok;have i:=rt.keep (n.kp (f.right) λb a=>by
    rcases zAd.mp a with a|a;{exact r1.cells b a};exact S.loc.cells b a) λb a B=>by
    have:=f.sep b;grind
   exact⟨F1,e,A1,T2,d,i,S1,u,h2.m _ _ _ _ (λy q σ2 H2 F2 A2 S2 z=>q σ2 H2 F2 A2 S2 ((w.pre λb=>by simp only[zA0];lia).trans z)) q⟩
def Kv(n:Nat)(a:Jf):VTG:=λd ds Q=>match d with | .q xs=>xs.length=n/\a xs ds Q|_=>False
theorem Kw{e:Jf}(j:X.calm=true)(h:VGs c X es e)(l:(Np es X.env).length=n:=by rfl)(b:(Np es X.env).findIdx? (·.1)=none:=by rfl):VG c X (.Tuple es k pos) (Kv n e):=by refine⟨PG.mono (qaY1 j h.h l b) λv C H Q ⟨F,f,A,T,d,r,S,o,q⟩=>?_,λd f Q Q' p q=>by cases d with|q g=>exact⟨q.1,h.m _ _ _ _ p q.2⟩|_=>exact q.elim⟩;cases d with|q g=>obtain⟨a,s,rfl,t,i⟩:=r.tup_inv;exact⟨a,s,rfl,.inl (.inl t),by rw[i.len];exact q.1,F,f,A,T,g,i,S,o,q.2⟩|_=>exact q.elim
end
section
variable{c:Vc}{F:γ->Prop}{H:Hp}{X:St}{ds:Ds}{A T:List γ}
theorem qM9(h:H a=some o)(hm:G1 o=true)(c:¬F a):Kp F H (λb=>b=a) F (upd H a o'):=⟨λb u e w=>by rw[qb2 w];exact e,λb w=>by subst w;exact⟨o,h,hm⟩,λb w=>by subst w;exact c,λ_ f=>f⟩
theorem Rc.setAt(r:Rc F H vs ys Ael)(s:n<ys.length)(e:Rj F H v d Tv):∃B,Rc F H (vs.set n v) (ys.set n d) B/\∀b,B.count b<=Ael.count b+Tv.count b:=by
 obtain⟨f,w,g,a,c,A1,B,A2,h,e2,j,k,m,o,t,p⟩:=r.split (i:=n) (d:=ys[n]) (by simp);have q:ys.set n d=a++d::c:=by have:=congrArg (λl=>l.set n d) e2;rw[this,qp9 k]
 rw[h,qp9 j,q];exact⟨A1++(Tv++A2),o.append (.cons e p),λb=>by rw[m];simp only[zA0];lia⟩
theorem qq4(r:Rj F H v (.l false ys) B):∃a vs Ael,v=.ref a/\H a=some (.l vs)/\Rc F H vs ys Ael/\B=a::Ael:=by cases r with|l h r=>exact⟨_,_,_,rfl,h,r,rfl⟩
theorem qk6(S:Rn c F H X ds A)(h:A9 ds i p=some (.l false ys))(J:(X++c.gv)[i]?=some (some u))(K:Walk H u p w):∃(a:γ)(vs:List V)(Ael:List γ),w=.ref a/\H a=some (.l vs)/\Rc F H vs ys Ael/\∀(g:List V)(l:List D)(B' R T:List γ),Ok F H (T++A)->Rc F H g l B'->(∀b,B'.count b+R.count b<=Ael.count b+T.count b)->(∃A',Rn c F (upd H a (.l g)) X (Bi ds i p (.l false l)) A'/\Ok F (upd H a (.l g)) (R++A')/\Rl F H (T++A) F (upd H a (.l g)) (R++A'))/\∀v d,Rj F H v d R->Rj F (upd H a (.l g)) v d R:=by
 obtain⟨B,C,r,L,M⟩:=S.place h (by intro z;cases z) J K;obtain⟨a,vs,Ael,rfl,y,N,rfl⟩:=qq4 r;refine⟨a,vs,Ael,rfl,y,N,λg l B' R T m O E=>?_⟩;have n:∀b,A.count b=(if b=a then 1 else 0)+Ael.count b+C.count b:=λb=>by rw[L,zAt];grind
 have s:=n a;rw[if_pos rfl] at s;have sa:=m.sep a;rw[zA0] at sa;have P:=E a;have G:¬F a:=λf=>by have:=m.fro a f;rw[zA0] at this;lia
 have k:=qM9 (F:=F) (o':=.l g) y rfl G;have rep':Rj F (upd H a (.l g)) (.ref a) (.l false l) (a::B'):=.l qb1 (O.keep k λb q w=>by subst w;have:=qb6.mp q;lia);obtain⟨A',Q,q2⟩:=M _ _ k (λb q w=>by subst w;have:=qb6.mp q;lia) rep';have t:∀b,A'.count b=(if b=a then 1 else 0)+B'.count b+C.count b:=λb=>by grind
 have j:∀b,(R++A').count b<=(T++A).count b:=λb=>by rw[zA0,zA0,t,n];have:=E b;lia
 have U:∀b,F b->∃o,upd H a (.l g) b=some o:=λb f=>by obtain⟨x,e⟩:=m.ex b f;exact⟨x,by rw[qb2 (show b≠a from λw=>G (w ▸ f))];exact e⟩
 have I:Ok F (upd H a (.l g)) (R++A'):=⟨λb=>zA7 (j b) (m.sep b),λb f=>by have:=m.fro b f;have:=j b;lia,U⟩;refine⟨⟨A',⟨Q,I.right,S.len,S.ag⟩,I,λb u e z=>?_,λb u e z=>by have:=j b;lia,λ_ f=>f,λ_ _ _ _ f=>f⟩,λv d W=>W.keep k λb q w=>by subst w;have:=qb6.mp q;lia⟩;rw[qb2 λw=>?_];{exact e};grind
def Mf(r:V->List V->Hp->VK->Prop)(g:Ds->Ds->Option (Ds×D)):Prop:=∀F H a vs ys Ael f xs T c d (Q:VK),H a=some (.l vs)->Rc F H vs ys Ael->Rc F H f xs T->g ys xs=some (c,d)->(∀e v B' R,Rc F H e c B'->Rj F H v d R->(∀b,B'.count b+R.count b<=Ael.count b+T.count b)->Q v (upd H a (.l e)))->r (.ref a) f H Q
def gApp(ys xs:Ds):Option (Ds×D):=match xs with|[x]=>if ys.length<big then some (ys++[x],.non) else none|_=>none
theorem qK1:Mf qau6 gApp:=by intro F H a i c Ael m j T e d Q k r l h q;match j,h with|[x],h=>obtain⟨w,rfl,f⟩:=l.one_inv;have h:(if c.length<big then some (c++[x],D.non) else none)=some (e,d):=h;by_cases g:c.length<big;{rw[if_pos g] at h;cases h;refine⟨a,i,w,rfl,rfl,k,by rw[r.len];exact zAa g qh1,?_⟩;exact q _ .non (Ael++(T++[])) [] (r.append (.cons f .nil)) .non λb=>by simp[zA0]};rw[if_neg g] at h;cases h
end
section
variable{c:Vc}{X:Cx}{a b e o:Nx}{pf:PF}{tr:VTB}{es:List Nx}{r:V->List V->Hp->VK->Prop}{g:Ds->Ds->Option (Ds×D)}
noncomputable def D.own:D->Option Ds|.l false ys=>some ys|_=>none
theorem qZ6{d:D}(h:d.own=some ys):d=.l false ys:=by cases d with|l z a=>(cases z with|false=>cases h;rfl|true=>cases h)|_=>cases h
def Hs(g:Ds->Ds->Option (Ds×D))(i:Nat)(tr:VTB):VT:=λds Q xe=>((rdN i ds).bind D.own).isSome=true/\tr ds (λxs _ ds1=>orF ((rdN i ds1).bind D.own) λys=>orF (g ys xs) λz=>Q z.2 (ds1.set i (.l false z.1))) xe
theorem qG7(h:ds[i]?=some d):A9 ds i []=some d:=by unfold A9;rw[h];rfl
theorem qE1(h:ds[i]?=some d):Bi ds i [] x=ds.set i x:=by unfold Bi;rw[h];rfl
theorem qaQ1(s:T="list")(hm:Mf r g)(t:VAs c X es tr)(hi:i<σ.length)(q:Bh c (Hs g i tr) σ H Q):tBM X.K T r (Ja i) (Il c tr) σ H Q:=by
 subst s;obtain⟨F,u,A,w,S,x,y,q⟩:=q;obtain⟨B,b⟩:=zB4.mp y;obtain⟨d0,C,f⟩:=zA1.mp b;cases qZ6 f;obtain⟨v,B0,o,D,_⟩:=S.name hi C;obtain⟨a,h,A0,rfl,j,_,_⟩:=D.lst_inv;refine⟨.ref a,o,.inl ⟨rfl,h,.inl (.inl j)⟩,F,u,A,w,S,x,t.m _ _ _ _ _ (λE ps G q I H1 F1 T A1 J pk S1 L M=>?_) (λ_ _ z=>z) q⟩;obtain⟨N,O,q⟩:=qa8.mp q;obtain⟨d1,e2,P⟩:=zA1.mp O;cases qZ6 P;obtain⟨⟨e,d⟩,U,q⟩:=qa8.mp q;obtain⟨p,hk⟩:=ql3.mp e2;have V:(σ++c.gv)[i]?=some (some (.ref a)):=by rw[zAr hi];exact o
 obtain⟨a2,k,Ael,W,l,Y,wr⟩:=qk6 S1 (qG7 p) V rfl;cases W;refine hm F1 H1 a k N Ael I E T e d Q l Y J U λn v B' R Z h2 h3=>?_;obtain⟨⟨A',S2,o2,s2⟩,kr⟩:=wr n e B' R T L Z h3;rw[qE1 p] at S2;exact q v _ F1 R A' (kr v d h2) S2 o2 (M.trans s2)
theorem qap6(e:VAs c X es tr):∀ds (Q Q':DK) (xe b:XKd),(∀d a,Q d a->Q' d a)->(∀x a,xe x a->b x a)->Hs g i tr ds Q xe->Hs g i tr ds Q' b:=λds Q Q' xe b f h=>Qb (e.m _ _ _ _ _ (λk l j=>qa5 λy=>qa5 λz=>f _ _) h)
theorem Rj.nW{F F':γ->Prop}{H H':Hp}{W:γ->Prop}{a:γ}{d0 e:D}{B:List γ}(r:Rj F H (.ref a) d0 B)(k:Kp F H W F' H')(d:∀b∈B,¬W b)(f:d0.kids[n]?=some e):¬W a:=by cases r with|q c _=>intro w;obtain⟨o,e,m⟩:=k.wm a w;rw[c] at e;cases e;cases m|l c _=>exact d _ zAb|dct c _ _=>exact d _ zAb|ins c _ _=>exact d _ zAb|_=>cases (show (none:Option D)=some _ from f)
theorem qal7(k:Kp F H W F' H'):∀{p:List Nat}{f:V}{d0 d:D}{B:List γ}{w l:V},(∀b∈B,¬W b)->Rj F H f d0 B->d0.getP p=some d->Walk H f p w->Walk H' f p l->l=w:=by
 intro p;induction p with
 |nil=>intro f d0 d B w l _ _ _ h o;cases h;cases o;rfl|cons n p z=>
  intro f d0 d B w l q r g h o;unfold D.getP at g;cases i:d0.kids[n]? with
  |none=>rw[i] at g;cases g|some e=>
   rw[i] at g;obtain⟨x,A,E⟩:=h;obtain⟨K,s,t⟩:=o;obtain⟨y,B1,C1,v,G,L,_⟩:=r.kid i;obtain⟨M,B1',C1',j,_,_,_⟩:=(r.keep k q).kid i;cases A.fn v;cases s.fn j;have u:Lnk H' f n x:=by obtain⟨a,rfl,I⟩:=v;have m:=r.nW k q i;exact⟨a,rfl,I.imp (λ⟨c,e,h⟩=>⟨c,k.fr _ _ e m,h⟩) (Q9 (λ⟨c,e,h⟩=>⟨c,k.fr _ _ e m,h⟩) (Q9 (λ⟨c,e,h⟩=>⟨c,k.fr _ _ e m,h⟩) λ⟨C,J,c,e,h⟩=>⟨C,J,c,k.fr _ _ e m,h⟩))⟩
   cases u.fn j;exact z (λb N=>q b (qb6.mpr (by grind))) G g E t
def Ir(g:Ds->Ds->Option (Ds×D))(pf:PF)(tr:VTB):VT:=λds Q xe=>orF (pf ds) λq=>orF ((A9 ds q.1 q.2).bind D.own) λys=>orF ds[q.1]? λa=>tr (ds.set q.1 .u) (λxs _ ds1=>orF (g ys xs) λz=>Q z.2 (Bi (ds1.set q.1 a) q.1 q.2 (.l false z.1))) xe
theorem qap5(e:VAs c X es tr):∀ds (Q Q':DK) (xe b:XKd),(∀d a,Q d a->Q' d a)->(∀x a,xe x a->b x a)->Ir g pf tr ds Q xe->Ir g pf tr ds Q' b:=λds Q Q' xe b f h=>qa5 λq=>qa5 λj=>qa5 λk=>e.m _ _ _ _ _ (λl n i=>qa5 λz=>f _ _) h
theorem qaP9(hm:Mf r g)(ha:VAs c X es tr):∀σ H Q,Bh c (Ir g pf tr) σ H Q->tBM X.K "list" r (Kt c pf) (Il c tr) σ H Q:=by
 rintro σ H Q ⟨F,Y,A,xe,S,x,q⟩;obtain⟨⟨i,p⟩,e1,q⟩:=qa8.mp q;obtain⟨l,e2,q⟩:=qa8.mp q;obtain⟨dl,h,e4⟩:=zA1.mp e2;cases qZ6 e4;obtain⟨J,k,q⟩:=qa8.mp q;refine⟨F,Y,A,i,p,_,S,e1,h,D.noConfusion,λu w H1 n Z s0=>?_⟩;have S0:=S.same s0;obtain⟨a,L,Ael0,rfl,M,a0,_⟩:=qk6 S0 h n Z;refine⟨.inl ⟨rfl,L,.inl (.inl M)⟩,?_⟩;have N:J≠.u:=λz=>by subst z;have j:=h;unfold A9 at j;rw[k] at j;cases (qai1 j).2
 obtain⟨u',B,C,h1,I,h3,h4⟩:=S0.put1 k N;rw[n] at h1;cases h1;obtain⟨A1,q1,q2⟩:=h4 .u [] (Kp.same (F:=F) λ_ _ z=>z) (λ_ _ z=>z) (.u u);have O:Ok F H1 (B++A1):=S0.ok.count λb=>by rw[zA0,q2,h3];simp
 have s1:Rl F H A F H1 (B++A1):=⟨λb o e _=>s0 b o e,λb o e z=>by rw[zA0,q2];have:=h3 b;simp;lia,λ_ f=>f,λ_ _ _ _ f=>f⟩;have S1:Rn c F H1 σ (Y.set i .u) A1:=⟨q1,O.right,S.len,S.ag⟩;have P:Rl F H A F H1 A1:=s1.count λb=>by rw[zA0];lia
 refine⟨F,_,A1,xe,S1,x.step P,ha.m _ _ _ _ _ (λxs ps s q vs H2 F2 T2 A2 r2 pk S2 o2 s2=>?_) (λ_ _ z=>z) q⟩;obtain⟨⟨t,d⟩,e7,q⟩:=qa8.mp q;have kp:=s2.kp S1.ok S1.loc.cells;have hBout:∀b∈B,¬(A1.count b≠0):=λb hb hc=>by have:=O.sep b;rw[zA0] at this;have:=qb6.mp hb;lia
 have y:Rj F2 H2 u J B:=I.keep kp hBout;obtain⟨o3,s3⟩:=s2.frame O I.cells o2;obtain⟨A3,k1,k2⟩:=qD9 S2.loc n y;have E:∀b,A3.count b<=B.count b+A2.count b:=k2;have o4:Ok F2 H2 (T2++A3):=o3.count λb=>by simp only[zA0];have:=E b;lia
 have s4:Rl F H A F2 H2 (T2++A3):=(s1.trans s3).count λb=>by simp only[zA0];have:=E b;lia
 have G:i<s.length:=by rw[<-S2.loc.len];exact(zA5.mp n).1
 have e8:A9 (s.set i J) i p=some (.l false l):=by unfold A9 at h ⊢;rw[k] at h;rw[zC2 G];exact h
 have T:Walk H2 u p (.ref a):=by
  obtain⟨w',_,_,w1,_,_,_⟩:=I.path (p:=p) (d:=.l false l) (by unfold A9 at h;rw[k] at h;exact h);cases Z.fn w1;obtain⟨w2,_,_,w3,_,_,_⟩:=y.path (p:=p) (d:=.l false l) (by unfold A9 at h;rw[k] at h;exact h);have:w2=.ref a:=by refine qal7 (d:=.l false l) kp hBout I ?_ w1 w3;unfold A9 at h;rw[k] at h;exact h
  rw[<-this];exact w3
 obtain⟨a2,U,Ael,ea,V,rs,wr⟩:=qk6 (⟨k1,o4.right,S.len,S.ag⟩) e8 n T;cases ea;refine hm F2 H2 a U l Ael vs xs T2 t d Q V rs r2 e7 λW v B' R z1 z2 z3=>?_;obtain⟨⟨A',S4,o5,s5⟩,kr⟩:=wr W t B' R T2 o4 z1 z3;exact q v _ F2 R A' (kr v d z2) S4 o5 (s4.trans s5)
end
section
variable{c:Vc}{X:Cx}{a b e o:Nx}{pos cpos apos:Pos}{pf:PF}{tr:VTB}{es:List Nx}{fb:FV}{ob:Bool}{r:V->List V->Hp->VK->Prop}{g:Ds->Ds->Option (Ds×D)}{name:Str}{id:String}
theorem Ht(i:Nat)(k:Mf r g)(l:PlainAttrs "list")(slot:Slot "list" name id)(b:typeOf (.builtin id)=pure (.type "method_descriptor"))(hm:MtM X id r)(d:VAs c X (e::es) tr)(j:X.N[i]?=some x:=by rfl)(m:Vis X.env.scope x:=by first|exact Q8 rfl|exact Q7 (Q8 rfl)|exact Q7 (Q7 rfl))(n:N' x:=by decide)(f:(x==("__classdict__" : Str))=false:=by decide)(hbase:Nf (.Name x p0) name X.env (eval (.Name x p0) X.env)=eval (.Name x p0) X.env:=by rfl)(a:((backTo cpos (M8 (e::es) X.env)).all (λx=>!x.1)&&(backToKw cpos (Nk [] X.env)).all (λx=>x.1.isSome)
     && decide ((e::es).length+([]:List Keyword).length+(if ([]:List Keyword).isEmpty then 0 else 1)<30))=true:=by rfl)(hline:(apos.endLine==cpos.line)=true:=by rfl)(o:M8 (e::es) X.env=(false,eval e X.env)::M8 es X.env:=by rfl)(hplain:(backTo cpos (M8 es X.env)).any (·.1)=false:=by rfl):VE c X (.Call (.Attribute (.Name x p0) name apos) (e::es) [] cpos) (Hs g i tr):=⟨λFx s σ H Q I q=>Lw l slot b hm (qq0 j m n f) d.h hbase a hline o hplain Fx s σ H Q I (qaQ1 rfl k d (qp0 j Fx σ H s I) q),qap6 d⟩
theorem emutP(f:Mf r g)(i:PlainAttrs "list")(slot:Slot "list" name id)(b:typeOf (.builtin id)=pure (.type "method_descriptor"))(hm:MtM X id r)(j:VP c X o pf)(d:VAs c X (e::es) tr)(hbase:Nf o name X.env (eval o X.env)=eval o X.env:=by rfl)(a:((backTo cpos (M8 (e::es) X.env)).all (λx=>!x.1)&&(backToKw cpos (Nk [] X.env)).all (λx=>x.1.isSome)
     && decide ((e::es).length+([]:List Keyword).length+(if ([]:List Keyword).isEmpty then 0 else 1)<30))=true:=by rfl)(hline:(apos.endLine==cpos.line)=true:=by rfl)(k:M8 (e::es) X.env=(false,eval e X.env)::M8 es X.env:=by rfl)(hplain:(backTo cpos (M8 es X.env)).any (·.1)=false:=by rfl):VE c X (.Call (.Attribute o name apos) (e::es) [] cpos) (Ir g pf tr):=⟨PE.mono (Lw i slot b hm j.h d.h hbase a hline k hplain) (qaP9 f d),qap5 d⟩
def G5(pf:PF)(fb:FV):VTG:=λd ds Q=>orF (pf ds) λq=>orF ((A9 ds q.1 q.2).bind D.own) λys=>orF ((fb ds).bind D.asI) λk=>orF (ixN ys.length k) λn=>Q (Bi ds q.1 q.2 (.l false (ys.set n d)))
theorem Ge(y:VP c X o pf)(hi:VV c X b ob fb)(f:∀v,assign (.Subscript o b pos) X.env v=(do
 let ov<-holding [v] (eval o X.env)
 let iv<-holding [v,ov] (eval b X.env)
 standAt pos
 holding [v,ov,iv] (setItem ov iv v)
 release [v,ov,iv] []):=by intro _;rfl):VG c X (.Subscript o b pos) (G5 pf fb):=by
 refine⟨PG.mono (qaY2 y.h hi.h qac9 f) λv σ H Q g=>?_,λd j Q Q' z=>qa5 λ_=>qa5 λ_=>qa5 λ_=>qa5 λ_=>z _⟩;obtain⟨F,j,A,T,d,r,S,B,q⟩:=g;obtain⟨⟨i,p⟩,C,q⟩:=qa8.mp q;obtain⟨V,e2,q⟩:=qa8.mp q;obtain⟨W,l,E⟩:=zA1.mp e2;cases qZ6 E;obtain⟨k,G,q⟩:=qa8.mp q;obtain⟨I,J,K⟩:=zA1.mp G;obtain⟨n,m,q⟩:=qa8.mp q;refine⟨F,j,A,i,p,_,S,C,l,D.noConfusion,λu w H1 L M s=>⟨F,j,A,I,S.same s,J,λY H2 B2 N t _=>?_⟩⟩;have e:=s.trans t;cases N.asI K;obtain⟨a,O,Ael,rfl,f,x,wr⟩:=qk6 (S.same e) l L (M.same t);obtain⟨B',P,R⟩:=x.setAt ((qah1 m).2.1) (r.same e);obtain⟨⟨A',S3,Z,U⟩,_⟩:=wr _ _ B' [] T (B.same e) P λb=>by have:=R b;simp;lia
 exact⟨a,O,k,n,rfl,rfl,f,by rw[x.len];exact m,q σ _ F A' S3 ((Rl.same e).trans U)⟩
def sAugV(f:Int->Int->Int)(pf:PF)(fb a:FV):VTS:=λe ds=>orF (pf ds) λq=>orF ((A9 ds q.1 q.2).bind D.own) λys=>orF ((fb ds).bind D.asI) λk=>0<=k/\orF ((ys[k.toNat]?).bind D.asI) λx=>orF ((a ds).bind D.asI) λy=>e.nx (Bi ds q.1 q.2 (.l false (ys.set k.toNat (.int (f x y)))))
theorem saug{op:Operator}{N:FV}{oe:Bool}(V:VP c X o pf)(hi:VV c X b ob fb)(W:VV c X e oe N)(Y:PIp X op (ipI f))(Z:∀n r d,augStore b n r d=(do holding [d,n,r] (setItem n r d);release [d,n,r] [];pure .next):=by intros;rfl):VS c X (.AugAssign (.Subscript o b tpos) op e pos) (sAugV f pf fb N):=by
 refine⟨PS.mono (qaM4 V.h hi.h qaF7 W.h Y qac9 Z) λE σ H t=>?_,λen a0 s hl=>qa5 λ_=>qa5 λ_=>qa5 λ_=>Qb (qa5 λ_=>qa5 λ_=>hl.nx _)⟩;obtain⟨F,s,A,en,S,l,q⟩:=t;obtain⟨⟨i,p⟩,e1,q⟩:=qa8.mp q;obtain⟨ys,e2,q⟩:=qa8.mp q;obtain⟨dl,v,e4⟩:=zA1.mp e2;cases qZ6 e4;obtain⟨k,e5,O,q⟩:=qa8.mp q;obtain⟨dk,e6,e7⟩:=zA1.mp e5;obtain⟨x,e8,q⟩:=qa8.mp q;obtain⟨dx,P,z⟩:=zA1.mp e8;obtain⟨y,B,q⟩:=qa8.mp q;obtain⟨dy,C,G⟩:=zA1.mp B;refine⟨F,s,A,i,p,_,S,e1,v,D.noConfusion,λu w H1 Q R T=>⟨F,s,A,dk,S.same T,e6,λvk H2 B2 r2 I _=>?_⟩⟩;have g:=T.trans I;cases r2.asI e7;obtain⟨a,vs,Ael,rfl,J,K,_⟩:=qk6 (S.same g) v Q (R.same I);obtain⟨vx,Bx,hx,rx,_⟩:=K.get P;cases rx.asI z;refine⟨a,vs,k,_,rfl,rfl,J,O,hx,F,s,A,dy,S.same g,C,λvy H3 B3 r3 U _=>?_⟩;cases r3.asI G;have j:=g.trans U;have S3:=S.same j;obtain⟨a',L,Ael',ea,M,m,wr⟩:=qk6 S3 v Q ((R.same I).same U);cases ea;have hn:=(zA5.mp P).1;obtain⟨B',r4,h4⟩:=m.setAt hn (.int (f x y));obtain⟨⟨A',S4,o4,s4⟩,_⟩:=wr _ _ B' [] [] S3.ok r4 λb=>by have:=h4 b;simpa using this
 refine⟨x,y,rfl,rfl,a,L,k,k.toNat,rfl,rfl,M,?_,l.nx _ σ _ F A' q S4 ((Rl.same j).trans s4)⟩;rw[m.len];unfold ixN;rw[if_pos O,if_pos ⋯]
noncomputable def Hu(f:Str)(d:D):List (Str×D)->List (Str×D)|[]=>[(f,d)]|(g,x)::r=>if g=f then (g,d)::r else (g,x)::Hu f d r
end
section
variable{c:Vc}{X:Cx}{F:γ->Prop}{H:Hp}{σ:St}{ds:Ds}{A T:List γ}{a b e o:Nx}{pos cpos apos:Pos}{te:VT}{pf:PF}{fa fb:FV}{oa ob:Bool}
theorem qU0:∀{a:List (Str×V)}{c:List (Str×D)}{B Tv:List γ}{f:Str}{v:V}{d:D},a.map (·.1)=c.map (·.1)->Rc F H (a.map (·.2)) (c.map (·.2)) B->Rj F H v d Tv->(Bm f v a).map (·.1)=(Hu f d c).map (·.1)/\∃B',Rc F H ((Bm f v a).map (·.2)) ((Hu f d c).map (·.2)) B'/\∀b,B'.count b<=B.count b+Tv.count b
 |[],[],B,Tv,f,v,d,_,r,rv=>⟨rfl,Tv++[],.cons rv .nil,λb=>by simp⟩|[],_::_,_,_,_,_,_,h,_,_=>by simp at h|_::_,[],_,_,_,_,_,h,_,_=>by simp at h|(k,w)::r,(k',x)::r',B,Tv,f,v,d,h,rs,rv=>by
  have i:k=k':=by simp at h;exact h.1
  have e:r.map (·.1)=r'.map (·.1):=by simp at h;simpa using h.2
  subst i;cases rs with|@cons _ _ B1 _ _ B2 q t=>by_cases g:k=f;{simp only[Bm,Hu,if_pos g,zAw,e,true_and];exact⟨Tv++B2,.cons rv t,λb=>by simp only[zA0];lia⟩};obtain⟨j,B',l,m⟩:=qU0 (f:=f) e t rv;simp only[Bm,Hu,if_neg g,zAw,j,true_and];exact⟨B1++B',.cons q l,λb=>by simp only[zA0];have:=m b;lia⟩
def D.ownI(C:γ):D->Option (List (Str×D))|.ins false C' fs=>if C'=C then some fs else none|_=>none
theorem qaO7{d:D}(h:d.ownI C=some fs):d=.ins false C fs:=by cases d with|ins z C' a=>(cases z with|false=>have h:(if C'=C then some a else none)=some fs:=h;grind|true=>cases h)|_=>cases h
theorem qaO6{j:List (Str×D)}(S:Rn c F H σ ds A)(h:A9 ds i p=some (.ins false C j))(E:(σ++c.gv)[i]?=some (some u))(G:Walk H u p w):∃(a dx:γ)(d:List (Str×V))(Ael:List γ),w=.ref a/\H a=some (.ins C dx d)/\d.map (·.1)=j.map (·.1)/\Rc F H (d.map (·.2)) (j.map (·.2)) Ael/\∀(fvs':List (Str×V))(fds':List (Str×D))(B' T:List γ),Ok F H (T++A)->fvs'.map (·.1)=fds'.map (·.1)->Rc F H (fvs'.map (·.2)) (fds'.map (·.2)) B'->(∀b,B'.count b<=Ael.count b+T.count b)->∃A',Rn c F (upd H a (.ins C dx fvs')) σ (Bi ds i p (.ins false C fds')) A'/\Rl F H (T++A) F (upd H a (.ins C dx fvs')) A':=by
 obtain⟨B,C0,r,I,J⟩:=S.place h D.noConfusion E G;cases r with
 |@ins a _ dx d _ Ael ha hk rs=>
 refine⟨a,dx,d,Ael,rfl,ha,hk,rs,λfvs' fds' B' T l n K v=>?_⟩;have m:∀b,A.count b=(if b=a then 1 else 0)+Ael.count b+C0.count b:=λb=>by
  rw[I,zAt]
  grind
 have q:=m a;rw[if_pos rfl] at q;have sa:=l.sep a;rw[zA0] at sa;have L:=v a;have y:¬F a:=λf=>by have:=l.fro a f;rw[zA0] at this;lia
 have k:=qM9 (F:=F) (o':=.ins C dx fvs') ha rfl y;have rep':Rj F (upd H a (.ins C dx fvs')) (.ref a) (.ins false C fds') (a::B'):=.ins qb1 n (K.keep k λb s w=>by subst w;have:=qb6.mp s;lia);obtain⟨A',M,q2⟩:=J _ _ k (λb s w=>by subst w;have:=qb6.mp s;lia) rep';have t:∀b,A'.count b=(if b=a then 1 else 0)+B'.count b+C0.count b:=λb=>by
  grind
 have g:∀b,A'.count b<=(T++A).count b:=λb=>by rw[zA0,t,m];have:=v b;lia
 have N:∀b,F b->∃o,upd H a (.ins C dx fvs') b=some o:=λb f=>by
  obtain⟨x,e⟩:=l.ex b f;exact⟨x,by rw[qb2 (show b≠a from λw=>y (w ▸ f))];exact e⟩
 refine⟨A',⟨M,⟨λb=>zA7 (g b) (l.sep b),λb f=>by have:=l.fro b f;have:=g b;lia,N⟩,S.len,S.ag⟩,λb u e z=>?_,λb u e z=>by have:=g b;lia,λ_ f=>f,λ_ _ _ _ f=>f⟩;rw[qb2 λw=>?_]
 .exact e
 grind
def sFldV(C:γ)(f:Str)(te:VT)(pf:PF):VTS:=λe ds=>te ds (λd ds1=>orF (pf ds1) λq=>orF ((A9 ds1 q.1 q.2).bind (D.ownI C)) λfs=>fs.length<100/\e.nx (Bi ds1 q.1 q.2 (.ins false C (Hu f d fs)))) e.xe
theorem Kb(G:X.K=K)(I:VP c X o pf)(k:VE c X e te)(J:Cls K C)(L:qd1 K C f)(M:swapsWith e (some (.Attribute o f pos')) pos.line X.env=pure false:=by rfl):VS c X (.Assign [.Attribute o f pos'] e pos) (sFldV C f te pf):=by
 subst G;refine⟨PS.mono (qaX6 I.h k.h M) λE σ H n=>?_,λs N t r=>k.m _ _ _ _ _ (λd b=>qa5 λ_=>qa5 λ_=>Qb (r.nx _)) r.xe⟩;obtain⟨F,t,A,s,S,l,q⟩:=n;refine⟨F,t,A,s.xe,S,l.xe,k.m _ _ _ _ _ (λd b q v H1 F1 T A1 O S1 P Q=>?_) (λ_ _ z=>z) q⟩;obtain⟨⟨i,p⟩,R,q⟩:=qa8.mp q;obtain⟨U,e2,r,q⟩:=qa8.mp q;obtain⟨dl,x,V⟩:=zA1.mp e2;cases qaO7 V;refine⟨F1,b,A1,i,p,_,S1,R,x,D.noConfusion,λu w H2 Y Z j=>?_⟩;obtain⟨a,dx,g,Ael,rfl,ha,y,rs,wr⟩:=qaO6 (S1.same j) x Y Z;have B:g.length=U.length:=by have:=congrArg Of y;simpa using this
 refine⟨a,C,dx,g,rfl,ha,J,L,⋯,?_⟩;obtain⟨m1,B',m2,m3⟩:=qU0 y rs (O.same j);obtain⟨A',S3,s3⟩:=wr _ _ B' T (P.same j) m1 m2 m3;exact l.nx _ σ _ F1 A' q S3 (Q.trans ((Rl.same j).trans s3))
def gAllV(pf:PF):VTG:=λd ds Q=>orF (pf ds) λq=>orF ((A9 ds q.1 q.2).bind D.own) λxs=>orF (match d with | .l _ ys=>some ys|_=>none) λys=>D.imms ys=true/\xs.length+ys.length<=big/\Q (Bi ds q.1 q.2 (.l false ys))
theorem gallV(G:VP c X o pf):VG c X (.Subscript o (.Slice none none none p2) pos) (gAllV pf):=by
 refine⟨PG.mono (qaY3 G.h) λv σ H Q l=>?_,λd t Q Q' I=>qa5 λ_=>qa5 λ_=>qa5 λ_=>Qb (Qb (I _))⟩;obtain⟨F,t,A,T,d,r,S,m,q⟩:=l;obtain⟨⟨i,p⟩,J,q⟩:=qa8.mp q;obtain⟨xs,e2,q⟩:=qa8.mp q;obtain⟨dl,n,K⟩:=zA1.mp e2;cases qZ6 K;obtain⟨x,y,L,M,N⟩:=qa8.mp q;cases d with
 |l z O=>
  cases y;refine⟨F,t,A,i,p,_,S,J,n,D.noConfusion,λu w H1 C E k=>?_⟩;have S1:=S.same k;obtain⟨a,P,Ael,rfl,R,U,wr⟩:=qk6 S1 n C E;obtain⟨B,C0,V,W,_⟩:=S1.place n D.noConfusion C E;have Y:=r.same k;have s:∃b g Bw,v=.ref b/\H1 b=some (.l g)/\Rc F H1 g x Bw/\a≠b:=by
   obtain⟨a',Z,Ael',ea,a0,a1,hB⟩:=qq4 V;cases ea;have ca:A.count a≠0:=by rw[W,hB];simp
   cases Y with|l j e=>refine⟨_,_,_,rfl,j,e,λw=>?_⟩;have:=m.sep a;rw[zA0,zAt] at this;grind|lstZ j f e=>refine⟨_,_,_,rfl,j,e,λw=>?_⟩;subst w;have:=m.fro a f;grind
  obtain⟨b,g,Bw,rfl,j,e,ne⟩:=s;obtain⟨⟨A',S3,o3,s3⟩,_⟩:=wr g x [] [] T (m.same k) (e.imms0 L) λb=>by simp
  exact⟨a,b,P,g,rfl,rfl,ne,R,j,by rw[U.len,e.len];exact zA7 M qh1,N σ _ F A' S3 ((Rl.same k).trans s3)⟩
 |_=>cases y
def Hi(x:V):List V->Option Nat|[]=>none|y::r=>if eqV y x=true then some 0 else (Hi x r).map (· + 1)
theorem qaw5{x:V}:∀{xs:List V}{j:Nat},Hi x xs=some j->∃z,xs[j]?=some z/\eqV z x=true/\∀m z',m<j->xs[m]?=some z'->eqV z' x=false
 |[],j,h=>by cases h|y::r,j,h=>by
  unfold Hi at h;by_cases a:eqV y x=true;{rw[if_pos a] at h;cases h;exact⟨y,rfl,a,λm z' c=>⋯⟩};rw[if_neg a] at h;obtain⟨k,d,rfl⟩:=zAc.mp h;obtain⟨z,e,f,g⟩:=qaw5 d;refine⟨z,by simpa using e,f,λm z' c b=>?_⟩;cases m with
  |zero=>
   have:y=z':=by simpa using b
   subst this;simpa using a
  |succ m=>exact g m z' ⋯ (by simpa using b)
def Mg(x y:D):Option D:=match x with|.l _ ys=>y.flat.bind λv=>(flats ys).bind λa=>(Hi v a).map λj=>.int (j:Nat)|_=>none
def Lg(x y:D):Option D:=match x with|.l _ ys=>y.flat.bind λv=>(flats ys).bind λa=>some (.int (a.countP (λz=>eqV z v):Nat))|_=>none
def rL1(r:V->List V->Hp->VK->Prop):R2:=λx y H Q=>r x [y] H Q
theorem qaC4:A7 true (rL1 qaL3) Mg:=by
 intro F H v w x y B d Q r h q;cases r with|@cons _ _ A _ _ _ b t=>cases t with|@cons _ _ A2 _ _ _ c _=>
 cases x with|l z s=>obtain⟨u,e,h⟩:=zA1.mp h;obtain⟨C,i,h⟩:=zA1.mp h;obtain⟨j,k,rfl⟩:=zAc.mp h;obtain⟨rfl,f⟩:=c.flat e;obtain⟨a,l,A3,rfl,m,n,_⟩:=b.lst_inv;obtain⟨rfl,g⟩:=n.flats i;obtain⟨z,o,q2,p⟩:=qaw5 k;exact⟨a,l,w,j,z,rfl,rfl,m,f,g,o,q2,p,q _ H [] (.int _) (λ_ _ z=>z) New.nil⟩|_=>cases h
theorem qaO8:A7 true (rL1 qaL5) Lg:=by
 intro F H v w x y B d Q r h q;cases r with|@cons _ _ A _ _ _ b t=>cases t with|@cons _ _ A2 _ _ _ c _=>
 cases x with|l z m=>obtain⟨n,e,h⟩:=zA1.mp h;obtain⟨o,i,h⟩:=zA1.mp h;cases h;obtain⟨rfl,f⟩:=c.flat e;obtain⟨a,j,A3,rfl,k,l,_⟩:=b.lst_inv;obtain⟨rfl,g⟩:=l.flats i;exact⟨a,j,w,rfl,rfl,k,f,g,q _ H [] (.int _) (λ_ _ z=>z) New.nil⟩|_=>cases h
theorem vbm{id:String}(C:A7 true (rL1 r) g)(E:PlainAttrs "list")(slot:Slot "list" name id)(i:typeOf (.builtin id)=pure (.type "method_descriptor"))(hm:MtM X id r)(G:VV c X o oa fa)(I:VV c X b ob fb)(J:∀x y d,g x y=some d->∃z ys,x=.l z ys)(hbase:Nf o name X.env (eval o X.env)=eval o X.env:=by rfl)(f:((backTo cpos (M8 [b] X.env)).all (λx=>!x.1)&&(backToKw cpos (Nk [] X.env)).all (λx=>x.1.isSome)
 && decide (([b]:List Nx).length+([]:List Keyword).length+(if ([]:List Keyword).isEmpty then 0 else 1)<30))=true:=by rfl)(hline:(apos.endLine==cpos.line)=true:=by rfl)(n:M8 [b] X.env=(false,eval b X.env)::M8 [] X.env:=by rfl)(hplain:(backTo cpos (M8 [] X.env)).any (·.1)=false:=by rfl):VV c X (.Call (.Attribute o name apos) [b] [] cpos) true (f2 g fa fb):=by refine⟨PE.mono (Lw E slot i hm G.h (qf6 I.h qu3 n) hbase f hline n hplain) λσ H Q j=>?_⟩;obtain⟨F,p,A,d,S,e,q⟩:=j;obtain⟨x,y,K,L,s⟩:=qaG2.mp e;obtain⟨z,ys,rfl⟩:=J x y d s;refine⟨F,p,A,_,S,K,λv H1 B1 t k R=>?_⟩;obtain⟨a,M,A3,rfl,l,T,_⟩:=t.lst_inv;exact⟨.inl ⟨rfl,M,.inl (.inl l)⟩,F,p,A,y,S.same k,L,λw H2 B2 N m U=>(C F H2 _ w _ y _ d Q (Jc (t.same m) N) s λu H3 B3 O P B=>q u H3 B3 O ((k.trans m).trans P) λ_=>⟨B.one,λb o e=>B.new b o (m b o (k b o e))⟩)⟩
theorem qah5:∀x y d,Mg x y=some d->∃z ys,x=.l z ys:=λx y d h=>by cases x with|l z ys=>exact⟨z,ys,rfl⟩|_=>cases h
theorem qax3:∀x y d,Lg x y=some d->∃z ys,x=.l z ys:=λx y d h=>by cases x with|l z ys=>exact⟨z,ys,rfl⟩|_=>cases h
end
def Gf(g:VTG)(t:VTS)(e:VEnds):List D->Ds->Prop|[],ds=>e.nx ds|x::xs,ds=>g x ds λds1=>t {e with nx:=Gf g t e xs,ct:=Gf g t e xs,bk:=e.nx} ds1
def whN(qc:VTT)(t:VTS)(e:VEnds):Nat->Ds->Prop|0,_=>False|n+1,ds=>qc ds (λb ds1=>if b=true then t {e with nx:=whN qc t e n,ct:=whN qc t e n,bk:=e.nx} ds1 else e.nx ds1) e.xe
def qaK6(qc:VTT)(t:VTS):VTS:=λe ds=>∃n,whN qc t e n ds
section
variable{c:Vc}{X:Cx}{a b e tg:Nx}{body:List Ny}{g:VTG}{t:VTS}{te:VT}{qc:VTT}{pos:Pos}
theorem qm9(d:VG c X tg g)(e:VSs c X body t){en b:VEnds}(a:en.Le b):∀(xs:List D) ds,Gf g t en xs ds->Gf g t b xs ds|[],ds=>a.nx ds|x::xs,ds=>d.m _ _ _ _ λf=>e.m _ _ _ ⟨qm9 d e a xs,a.rt,a.nx,qm9 d e a xs,a.xe⟩
theorem qN0{cd:Nx}(e:VTe c X cd qc)(f:VSs c X body t){en d:VEnds}(a:en.Le d):∀(n:Nat) ds,whN qc t en n ds->whN qc t d n ds|0,ds=>id|n+1,ds=>e.m _ _ _ _ _ (λb g=>qC5 (f.m _ _ _ ⟨qN0 e f a n,a.rt,a.nx,qN0 e f a n,a.xe⟩) (a.nx _)) a.xe
theorem qaJ6(r:PassesOwn (Nt X.prog X.w) X.A X.env X.xe)(g:VTe c X cd qc)(o:VSs c X body t):VS c X (.While cd body [] pos) (qaK6 qc t):=by refine⟨PS.mono (qaA9 r g.h o.h) λE σ H i=>?_,λd s e u ⟨n,q⟩=>⟨n,qN0 g o u n e q⟩⟩;obtain⟨F,e,A,d,S,l,n,q⟩:=i;refine⟨λm σ H=>∃F e A,Rn c F H σ e A/\Lk c E F H A d/\whN qc t d m e,⟨n,F,e,A,S,l,q⟩,?_⟩;rintro m σ H ⟨F,e,A,S,l,q⟩;cases m with|zero=>exact q.elim|succ m=>refine⟨F,e,A,d.xe,S,l.xe,g.m _ _ _ _ _ (λb j q H1 F1 A1 S1 p=>?_) (λ_ _ z=>z) q⟩;cases b with|false=>rw[if_neg ∅] at q ⊢;exact l.nx _ _ _ _ _ q S1 p|true=>rw[if_pos rfl] at q ⊢;have f:=l.step p;refine⟨λσ' H'=>∃F' a A',Rn c F' H' σ' a A'/\Lk c E F' H' A' d/\whN qc t d m a,λσ' H' h=>⟨m,⋯,h⟩,F1,j,A1,{d with nx:=whN qc t d m,ct:=whN qc t d m,bk:=d.nx},S1,⟨?_,f.rt,f.nx,?_,f.xe⟩,q⟩;{exact λa σ' H' F' A' q S' k=>⟨F',a,A',S',f.step k,q⟩};exact λa σ' H' F' A' q S' k=>⟨F',a,A',S',f.step k,q⟩
theorem qT2{N:St->Hp->Prop}{b:Ds->Prop}(i:VG c X tg g)(S:Rn c F H σ ds A)(l:Lk c E F H A en)(r:Rj F H x y [])(h:∀a σ' H' F' A',b a->Rn c F' H' σ' a A'->Rl F H A F' H' A'->N σ' H')(q:g y ds λds1=>t {en with nx:=b,ct:=b,bk:=en.nx} ds1):Im c g x σ H λσ2 H2=>Hd c t {E with nx:=N,ct:=N,bk:=E.nx} σ2 H2:=by refine⟨F,ds,A,[],y,r,S,S.ok,i.m _ _ _ _ (λds1 q σ1 H1 F1 A1 S1 d=>?_) q⟩;have e:=l.step d;exact⟨F1,ds1,A1,{en with nx:=b,ct:=b,bk:=en.nx},S1,⟨λa σ' H' F' A' q S' f=>h a σ' H' F' A' q S' (Rl.trans d f),e.rt,e.nx,λa σ' H' F' A' q S' f=>h a σ' H' F' A' q S' (Rl.trans d f),e.xe⟩,q⟩
noncomputable def D.lstOf:D->Option Ds|.l _ ys=>some ys|_=>none
theorem qy0{d:D}(h:d.lstOf=some ys):∃z,d=.l z ys:=by cases d with|l z a=>cases h;grind|_=>cases h
theorem qk9:∀{ys:List D}{i:Nat}{y:D},D.imms ys=true->ys[i]?=some y->y.imm=true
 |[],i,y,_,h=>by simp at h|d::r,0,y,hm,h=>by
  have:d=y:=by simpa using h
  subst this;exact(zAh.mp hm).1
 |d::r,i+1,y,hm,h=>qk9 (zAh.mp hm).2 (by simpa using h)
theorem ql0{xs:List α}(h:xs[i]?=some x):xs.drop i=x::xs.drop (i+1):=by obtain⟨a,rfl⟩:=zA5.mp h;exact Oi a
def sForL(te:VT)(g:VTG)(t:VTS):VTS:=λe ds=>te ds (λd ds1=>orF d.lstOf λys=>D.imms ys=true/\Gf g t e ys ds1) e.xe
theorem Mh(Z:PassesOwn (Nt X.prog X.w) X.A X.env X.xe)(hi:VE c X e te)(G:VG c X tg g)(P:VSs c X body t)(Q:X.calm=true:=by rfl)(I:∀v,Na e X.env v=pure v:=by intro _;rfl):VS c X (.For tg e body [] pos) (sForL te g t):=by
 refine⟨PS.mono (qao3 Z Q (qx5 hi.h) G.h P.h I) λE σ H J=>?_,λs a0 k R=>hi.m _ _ _ _ _ (λd n=>qa5 λu=>Qb (qm9 G P R u n)) R.xe⟩;obtain⟨F,k,A,s,S,l,q⟩:=J;refine⟨F,k,A,s.xe,S,l.xe,hi.m _ _ _ _ _ (λd n q v H1 F1 T A1 U S1 o1 s1=>?_) (λ_ _ z=>z) q⟩;obtain⟨u,ey,hm,qf⟩:=qa8.mp q;obtain⟨z,rfl⟩:=qy0 ey;obtain⟨a,C,Ael,rfl,j,rs,_⟩:=U.lst_inv;have K:Rl F H A F1 H1 A1:=s1.count λb=>by rw[zA0];lia
 refine⟨a,rfl,⟨C,.inl (.inl j)⟩,qai5 (xs:=C) (λi σ H=>∃F k A,Rn c F H σ k A/\Lk c E F H A s/\Rj F H (.ref a) (.l z u) T/\H a=some (.l C)/\Ok F H (T++A)/\Gf g t s (u.drop i) k) ⟨F1,n,A1,S1,l.step K,U,j,o1,qf⟩ ?_ ?_ ?_⟩;{rintro i σ H _ ⟨F,k,A,S,l,r,j,o,q⟩;exact .inl (.inl j)}
 .rintro i x σ H hx ⟨F,k,A,S,l,r,j,o,q⟩;obtain⟨a',a1,Ael',ea,p,L,_⟩:=r.lst_inv;cases ea;rw[j] at p;cases p;obtain⟨y,B,V,W⟩:=L.getV hx;have:=W.imm (qk9 hm V);subst this;rw[ql0 V] at q;refine qT2 G S l W (λM σ' H' F' A' q' S' N=>?_) q;have D:=N.kp S.ok S.loc.cells;have Y:∀b∈T,¬(A.count b≠0):=λb hb Q=>by have:=o.sep b;rw[zA0] at this;have:=qb6.mp hb;lia
  obtain⟨o',_⟩:=N.frame o r.cells S'.ok;have O:H' a=some (.l C):=by cases r with|l h _=>exact D.fr _ _ j (Y _ zAb)|lstZ h f _=>exact D.fr _ _ j λw=>D.wf _ w f
  exact⟨F',M,A',S',l.step N,(r.keep D Y),O,o',q'⟩
 rintro σ H ⟨F,k,A,S,l,r,j,o,q⟩;rw[rs.len,Oq] at q;exact l.nx _ _ _ _ _ q S Rl.refl
noncomputable def Bo(lo:Int)(n:Nat):List D:=(Ob n).map λ(i:Nat)=>.int (lo+(i:Int))
theorem qad9(h:i<n):(Bo lo n)[i]?=some (.int (lo+(i:Int))):=by unfold Bo;rw[zBd,List.getElem?_range h];rfl
theorem qau5(lo:Int)(n:Nat):(Bo lo n).length=n:=by simp[Bo]
noncomputable def Jg(i:Int):Bool:=decide (-(2 ^ 62)<=i)&&decide (i<2 ^ 62)
theorem qaf5{i:Int}(h:Jg i=true):-(2 ^ 62)<=i/\i<2 ^ 62:=by have:=zAh.mp h;exact⟨zAe this.1,zAe this.2⟩
theorem qaS9{E:By}{en:VEnds}{F:γ->Prop}{H:Hp}{σ:St}{ds:Ds}{A:List γ}(d:VG c X tg g)(S:Rn c F H σ ds A)(l:Lk c E F H A en)(q:Gf g t en (Bo lo n) ds):∃W:Nat->Nat->St->Hp->Prop,(∃m,W 0 m σ H)/\∀i m σ H,W i m σ H->((Itr lo n).stop i H/\E.nx σ H)∨((Itr lo n).go i H/\∃N:St->Hp->Prop,(∀σ' H',N σ' H'->∃b,b<m/\W (i+1) b σ' H')/\∀x H',(Itr lo n).yld i H x H'->Im c g x σ H' λσ2 H2=>Hd c t {E with nx:=N,ct:=N,bk:=E.nx} σ2 H2):=by refine qaq6 (λi σ H=>∃F ds A,Rn c F H σ ds A/\Lk c E F H A en/\Gf g t en ((Bo lo n).drop i) ds) ⟨F,ds,A,S,l,q⟩ ?_ ?_;{rintro i σ H e ⟨F,ds,A,S,l,q⟩;rw[ql0 (qad9 e)] at q;exact qT2 d S l (.int _) (λa σ' H' F' A' f S' h=>⟨F',a,A',S',l.step h,f⟩) q};rintro σ H ⟨F,ds,A,S,l,q⟩;rw[Oo (by rw[qau5];exact zA3 _)] at q;exact l.nx _ _ _ _ _ q S Rl.refl
noncomputable def Mi:Ds->Option Int|[.int j]=>some j|_=>none
theorem qav3{xs:Ds}{j:Int}(h:Mi xs=some j):xs=[.int j]:=by unfold Mi at h;split at h;{grind};cases h
def qan8(tr:VTA)(g:VTG)(t:VTS):VTS:=λe ds=>tr ds (λxs ds1=>orF (Mi xs) λj=>Jg j=true/\Gf g t e (Bo 0 j.toNat) ds1) e.xe
theorem qE0(s:PassesOwn (Nt X.prog X.w) X.A X.env X.xe)(hm:X.mg "range"=none)(d:VOs c X [a] tr)(e:VG c X tg g)(k:VSs c X body t)(f:Gl X "range" := by rfl)(u:M8 [a] X.env=[(false,eval a X.env)]:=by rfl)(x:X.calm=true:=by rfl):VS c X (.For tg (.Call (.Name "range" p) [a] [] cpos) body [] pos) (qan8 tr g t):=by refine⟨PS.mono (qao3 s x (qU3 f hm d.h u) e.h k.h) λE σ H i=>?_,λn y o r=>d.m _ _ _ _ _ (λB b=>qa5 λj=>Qb (qm9 e k r _ b)) r.xe⟩;obtain⟨F,o,A,n,S,l,q⟩:=i;refine⟨F,o,A,n.xe,S,l.xe,d.m _ _ _ _ _ (λB b q K H1 F1 T A1 C S1 D=>?_) (λ_ _ z=>z) q⟩;obtain⟨j,G,hm,I⟩:=qa8.mp q;cases qav3 G;obtain⟨v,rfl,J⟩:=C.one_inv;cases J;have:=qaf5 hm;exact⟨j,rfl,this.1,this.2,qaS9 e S1 (l.step D) I⟩
def tFzV(te:VT):VT:=λds Q xe=>te ds (λd ds1=>Q d.fz ds1) xe
theorem Bl(h:VE c X e te):VE c X e (tFzV te):=by refine⟨PE.mono h.h λσ H Q a=>?_,λi Q Q' j n o p=>h.m _ _ _ _ _ (λd g=>o _ _) p⟩;obtain⟨F,i,A,j,S,x,q⟩:=a;refine⟨F,i,A,j,S,x,h.m _ _ _ _ _ (λd g q v H1 F1 T A1 k S1 r s=>?_) (λ_ _ z=>z) q⟩;obtain⟨l,t⟩:=share (C:=A1) r (λb=>by rw[zA0]) k.cells (λb=>rfl);exact q v H1 _ [] A1 (k.fz (λb f=>.inl f) λb u=>.inr u) ⟨(S1.loc.keep (Kp.more λb f=>Q8 f) λ_ _ z=>z),l,S1.len,S1.ag⟩ l (s.trans t)
end
def bk1(i:Nat)(p:List Nat)(w:V)(d0:D)(ds:Ds):Option Ds:=Au [.pl i p w] [d0] ds
def Kx(i:Nat)(p:List Nat)(w:V)(d0:D)(e:VEnds):VEnds where
 nx ds:=orF (bk1 i p w d0 ds) e.nx
 rt d ds:=orF (bk1 i p w d0 ds) (e.rt d)
 bk ds:=orF (bk1 i p w d0 ds) e.bk
 ct ds:=orF (bk1 i p w d0 ds) e.ct
 xe x ds:=orF (bk1 i p w d0 ds) (e.xe x)
section
variable{c:Vc}{X:Cx}{a b e tg o:Nx}{body:List Ny}{g:VTG}{t:VTS}{pos:Pos}{pf:PF}{F F1:γ->Prop}{H H1:Hp}{σ:St}{ds ds1:Ds}{A A1 B:List γ}{E:By}{en:VEnds}
theorem qq6{a:Ds}(o1:Ok F1 H1 (B++A1))(S1:Rn c F1 H1 σ ds1 A1)(r:Rj F1 H1 w d0 B)(S':Rn c F' H' σ' a A')(s':Rl F1 H1 A1 F' H' A')(h:bk1 i p w d0 a=some d):∃A2,Rn c F' H' σ' d A2/\Ok F' H' (B++A')/\Rl F1 H1 (B++A1) F' H' (B++A')/\∀b,A2.count b<=B.count b+A'.count b:=by
 obtain⟨f,g⟩:=s'.frame o1 r.cells S'.ok;have j:=r.keep (s'.kp S1.ok S1.loc.cells) λb l e=>by have:=o1.sep b;grind
 obtain⟨A2,k,q2⟩:=qt7 (.so .nil) (.cons j .nil) S'.loc h;have e:=λb=>by have:=q2 b;simp only[zAi] at this;exact this
 exact⟨A2,⟨k,f.count λb=>by rw[zA0];exact e b,S'.len,S'.ag⟩,f,g,e⟩
theorem Lk.lend{p:List Nat}{d0:D}(l:Lk c E F H A en)(j:Rl F H A F1 H1 (B++A1))(o1:Ok F1 H1 (B++A1))(S1:Rn c F1 H1 σ ds1 A1)(r:Rj F1 H1 w d0 B):Lk c E F1 H1 A1 (Kx i p w d0 en) where
 nx ds' σ' H' F' A' q S' s':=by
  obtain⟨a,f,q⟩:=qa8.mp q;obtain⟨A2,S2,m,h,g⟩:=qq6 o1 S1 r S' s' f;exact l.nx _ _ _ _ A2 q S2 ((j.trans h).count λb=>by rw[zA0];exact g b)
 bk ds' σ' H' F' A' q S' s':=by
  obtain⟨a,f,q⟩:=qa8.mp q;obtain⟨A2,S2,m,h,g⟩:=qq6 o1 S1 r S' s' f;exact l.bk _ _ _ _ A2 q S2 ((j.trans h).count λb=>by rw[zA0];exact g b)
 ct ds' σ' H' F' A' q S' s':=by
  obtain⟨a,f,q⟩:=qa8.mp q;obtain⟨A2,S2,m,h,g⟩:=qq6 o1 S1 r S' s' f;exact l.ct _ _ _ _ A2 q S2 ((j.trans h).count λb=>by rw[zA0];exact g b)
 xe x ds' σ' e H' F' A' q rx S' s':=by
  obtain⟨a,f,q⟩:=qa8.mp q;obtain⟨A2,S2,m,h,g⟩:=qq6 o1 S1 r S' s' f;exact l.xe x a σ' e H' F' A2 q rx S2 ((j.trans h).count λb=>by rw[zA0];exact g b)
 rt d ds' v σ' H' F' T A' q rv S' oT s':=by
  obtain⟨a,f,q⟩:=qa8.mp q;have n:Rl F1 H1 A1 F' H' A':=s'.count λb=>by rw[zA0];lia
  obtain⟨A2,S2,m,h,g⟩:=qq6 o1 S1 r S' n f;obtain⟨o,s⟩:=s'.frame o1 r.cells oT;have k:∀b,(T++A2).count b<=(B++(T++A')).count b:=λb=>by simp only[zA0];have:=g b;lia
  exact l.rt d a v σ' H' F' T A2 q rv S2 (o.count k) ((j.trans s).count k)
theorem qaQ3{en a:VEnds}(b:en.Le a):(Kx i p w d0 en).Le (Kx i p w d0 a):=⟨λc=>qa5 b.nx,λd c=>qa5 (b.rt d),λc=>qa5 b.bk,λc=>qa5 b.ct,λx c=>qa5 (b.xe x)⟩
structure Held(F:γ->Prop)(H:Hp)(a:γ)(vs:List V)(z:Bool)(ys:Ds)(T A:List γ):Prop where
 r:Rj F H (.ref a) (.l z ys) T
 h:H a=some (.l vs)
 o:Ok F H (T++A)
theorem Held.step{a:γ}{e:Ds}(h:Held F H a vs z ys T A)(S:Rn c F H σ ds A)(S':Rn c F' H' σ' e A')(s':Rl F H A F' H' A'):Held F' H' a vs z ys T A':=by
 obtain⟨r,g,o⟩:=h;have d:=s'.kp S.ok S.loc.cells;have i:∀b∈T,¬(A.count b≠0):=λb j k=>by have:=o.sep b;rw[zA0] at this;have:=qb6.mp j;lia
 refine⟨r.keep d i,?_,(s'.frame o r.cells S'.ok).1⟩;cases r with|l h _=>exact d.fr _ _ g (i _ zAb)|lstZ h f _=>exact d.fr _ _ g λw=>d.wf _ w f
theorem Held.get{a:γ}(h:Held F H a vs z ys T A)(hm:D.imms ys=true)(f:vs[i]?=some x):∃y,ys[i]?=some y/\Rj F H x y []:=by obtain⟨k,g,Ael',j,b,c,_⟩:=h.r.lst_inv;cases j;have:=h.h;rw[b] at this;cases this;obtain⟨y,B,d,e⟩:=c.getV f;have:=e.imm (qk9 hm d);subst this;exact⟨y,d,e⟩
theorem Held.len{a:γ}(h:Held F H a vs z ys T A):vs.length=ys.length:=by obtain⟨f,d,Ael',e,b,c,_⟩:=h.r.lst_inv;cases e;have:=h.h;rw[b] at this;cases this;exact c.len
theorem qR7{a:γ}(j:VG c X tg g)(S:Rn c F H σ ds A)(l:Lk c E F H A en)(b:Held F H a vs z ys T A)(hm:D.imms ys=true)(q:Gf g t en ys ds):∃W:Nat->Nat->St->Hp->Prop,(∃m,W 0 m σ H)/\∀i m σ H,W i m σ H->((Itl K a).stop i H/\E.nx σ H)∨((Itl K a).go i H/\∃N:St->Hp->Prop,(∀σ' H',N σ' H'->∃e,e<m/\W (i+1) e σ' H')/\∀x H',(Itl K a).yld i H x H'->Im c g x σ H' λσ2 H2=>Hd c t {E with nx:=N,ct:=N,bk:=E.nx} σ2 H2):=by refine qai5 (xs:=vs) (λi σ H=>∃F ds A,Rn c F H σ ds A/\Lk c E F H A en/\Held F H a vs z ys T A/\Gf g t en (ys.drop i) ds) ⟨F,ds,A,S,l,b,q⟩ ?_ ?_ ?_;{rintro i σ H _ ⟨F,ds,A,S,l,b,q⟩;exact .inl (.inl b.h)};{rintro i x σ H k ⟨F,ds,A,S,l,b,q⟩;obtain⟨y,n,o⟩:=b.get hm k;rw[ql0 n] at q;exact qT2 j S l o (λd σ' H' F' A' p S' f=>⟨F',d,A',S',l.step f,b.step S S' f,p⟩) q};rintro σ H ⟨F,ds,A,S,l,b,q⟩;rw[b.len,Oq] at q;exact l.nx _ _ _ _ _ q S Rl.refl
def sForP(pf:PF)(g:VTG)(t:VTS):VTS:=λe ds=>orF (pf ds) λq=>orF (A9 ds q.1 q.2) λd=>orF d.lstOf λys=>D.imms ys=true/\∀w,Gf g t (Kx q.1 q.2 w d e) ys (Bi ds q.1 q.2 (.hole w))
theorem sforP(J:PassesOwn (Nt X.prog X.w) X.A X.env X.xe)(hi:VP c X o pf)(j:VG c X tg g)(y:VSs c X body t)(K:X.calm=true:=by rfl)(k:∀v,Na o X.env v=pure v:=by intro _;rfl):VS c X (.For tg o body [] pos) (sForP pf g t):=by
 refine⟨PS.mono (qao3 J K (qx5 hi.h) j.h y.h k) λE σ H m=>?_,λL M n N=>qa5 λq=>qa5 λd=>qa5 λO=>Qb λh w=>qm9 j y (qaQ3 N) _ _ (h w)⟩;obtain⟨F,n,A,L,S,l,q⟩:=m;obtain⟨⟨i,p⟩,P,q⟩:=qa8.mp q;obtain⟨d,e2,q⟩:=qa8.mp q;obtain⟨O,Q,R,q⟩:=qa8.mp q;obtain⟨z,rfl⟩:=qy0 Q;refine⟨F,n,A,i,p,_,S,P,e2,D.noConfusion,λu w H1 T U s=>?_⟩;obtain⟨B,C,r,G,V⟩:=(S.same s).place e2 D.noConfusion T U;obtain⟨A1,W,q2⟩:=V (.hole w) [] (Kp.same λ_ _ z=>z) (λ_ _ z=>z) (.hole w);have x:Ok F H1 (B++A1):=(S.same s).ok.count λb=>by rw[zA0,q2,G];simp
 have Y:Rl F H A F H1 (B++A1):=⟨λb o e _=>s b o e,λb o e z=>by rw[zA0,q2];have:=G b;simp;lia,λ_ f=>f,λ_ _ _ _ f=>f⟩;have S1:Rn c F H1 σ (Bi n i p (.hole w)) A1:=⟨W,x.right,S.len,S.ag⟩;obtain⟨a,Z,Ael,rfl,I,rs,_⟩:=r.lst_inv;exact⟨a,rfl,⟨Z,.inl (.inl I)⟩,qR7 j S1 (l.lend Y x S1 r) ⟨r,I,x⟩ R (q _)⟩
noncomputable def enD(ys:Ds):List D:=ys.zipIdx.map λp=>.q [.int (p.2:Int),p.1]
theorem qbc8(h:ys[i]?=some y):(enD ys)[i]?=some (.q [.int (i:Int),y]):=by unfold enD;rw[zBd,List.getElem?_zipIdx,h];simp
theorem qaH2(ys:Ds):(enD ys).length=ys.length:=by simp[enD]
end
noncomputable def fin(W:Nat->Bool):Nat->Ds->Ds->Ds|k,d::r,d'::r'=>(if W k=true then d' else d)::fin W (k+1) r r'|_,_,_=>[]
noncomputable def Kc(W:Nat->Bool):Nat->Ds->Bool|_,[]=>true|k,d::r=>(W k||d.imm)&&Kc W (k+1) r
def qas0(W:Nat->Bool)(ds:Ds)(Q:DK)(xe:XKd):VEnds where
 nx ds':=Q .non (fin W 0 ds ds')
 rt d ds':=Q d (fin W 0 ds ds')
 bk _:=False
 ct _:=False
 xe x ds':=xe x (fin W 0 ds ds')
section
variable{F F':γ->Prop}{H H':Hp}
theorem qbc6(q:Kp F H Wr F' H'):∀{vs:List V}{ds:Ds}{A:List γ}{k:Nat}{w':List (Option V)}{a:Ds}{A':List γ},Rc F H vs ds A->Kc W k ds=true->Locs F' H' w' a A'->vs.length<=w'.length->(∀i,i<vs.length->W (k+i)=true->w'[i]?=(vs.map some)[i]?)->∃A2,Rc F' H' vs (fin W k ds a) A2/\∀b,A2.count b<=A'.count b:=by
 intro vs;induction vs with
 |nil=>intro ds A k w' a A' r g L n l;cases r;exact⟨[],by cases a<;>exact .nil,λb=>by simp⟩|cons v vs s=>
  intro ds A k w' a A' r g L n l;cases r with
  |@cons _ d B _ ds B2 r1 t=>
   have g:=zAh.mp g;have step:∀{σ2:List (Option V)}{c:Ds}{A2:List γ}(o:Option V),w'=o::σ2->Locs F' H' σ2 c A2->∃A3,Rc F' H' vs (fin W (k+1) ds c) A3/\∀b,A3.count b<=A2.count b:=λ{σ2 c A2} o e L2=>by subst e;refine s t g.2 L2 (by simpa using n) λi j f=>?_;have:=l (i+1) (by simpa using j) (by grind);simpa using this
   cases L with
   |nil=>simp at n|no L2=>
    obtain⟨A3,m,q2⟩:=step none rfl L2;by_cases f:W k=true;{have:=l 0 (by simp) (by simpa using f);simp at this};have j:d.imm=true:=by rcases Bool.or_eq_true_iff.mp g.1 with h|h;{exact absurd h f};exact h
    have:=r1.imm j;subst this;refine⟨[]++A3,?_,λb=>by simpa using q2 b⟩;show Rc F' H' (v::vs) ((if W k=true then _ else d)::_) _;rw[if_neg f];exact .cons (r1.keep q λb p=>by cases p) m
   |@so v' d' B' σ2 c A2 rr L2=>
    obtain⟨A3,m,q2⟩:=step (some v') rfl L2;by_cases f:W k=true;{have:=l 0 (by simp) (by simpa using f);simp at this;subst this;refine⟨B'++A3,?_,λb=>by simp only[zA0];have:=q2 b;lia⟩;show Rc F' H' (v'::vs) ((if W k=true then d' else d)::_) _;rw[if_pos f];exact .cons rr m};have j:d.imm=true:=by rcases Bool.or_eq_true_iff.mp g.1 with h|h;{exact absurd h f};exact h
    have:=r1.imm j;subst this;refine⟨[]++A3,?_,λb=>by simp only[zBh,zA0];have:=q2 b;lia⟩;show Rc F' H' (v::vs) ((if W k=true then d' else d)::_) _;rw[if_neg f];exact .cons (r1.keep q λb p=>by cases p) m
theorem Rc.locs(r:Rc F H vs ds A):Locs F H (vs.map some) ds A:=by induction vs generalizing ds A with|nil=>cases r;exact .nil|cons v vs a=>cases r with|cons h t=>exact .so h (a t)
theorem qG0:∀n:Nat,Locs F H (Oa n none) (Oa n .u) []|0=>.nil|n+1=>.no (qG0 n)
end
structure FunE(K:Qe)(x qual:Str)(st:Ny)(f:γ)(fd:δ):Prop where
 ex:∃(oc:V')(od:Option γ)(dV kV doc pm:V')(an:Option γ)(cdv ct:V')(osl:Array (Option V')),
  fd=W.fnOf x qual (qf9 st) (qd6 st) (qa4 st) dV kV doc pm an cdv ct/\K.lookup f=some ⟨oc,od,.func fd,osl⟩/\W.codeIn K cdv qual=true
theorem FunE.of(F:Fun K x qual st f fd):FunE K x qual st f fd :=
 by obtain⟨g,h,kV,a,i,j,b,k,c,e,l,d⟩:=F.ex;exact⟨⟨g,h,.none,kV,a,i,j,b,k,c,e,l,d⟩⟩
theorem FunE.okX{P:Nu}{w:Nw}(F:FunE K x qual st f fd)(S:qa9 N ps (qa4 st))(len:∀vs H Q E,sp vs H Q E->vs.length=ps.length)(hbody:∀(a:V')(A:Nv)(outer:List Env)(s:Sh)(H:Hp)(vs:List V)(Q:VK)(E:XK),Ro cm k (A.deeper (PyProof.Rows.envOfC qual (qa4 st) s.heap.objs.size f a))->sp vs H Q E->∃t,PSs (Ha cm (CX1 P w) P w K mg base N qual (qa4 st) f a A outer s H E) (qd6 st) t/\t {nx:=λ_ H'=>Q .non H',rt:=Q} (L2.start N vs) H):Go cm P w K mg base (CX1 P w) (k+1) f fd ps sp:=by obtain⟨i,j,l,kV,d,m,n,a,o,e,rfl,g,b⟩:=F.ex;exact Lv g b S len λA outer s H vs Q E h c=>hbody a A outer s H vs Q E h c
theorem VFn.mkE{P:Nu}{w:Nw}(Fu:FunE K x qual st f fd)(Sc:qa9 N ps (qa4 st))(W:Nat->Bool)(G:B9 s)(j:∀ds Q xe,s ds Q xe->ds.length=ps.length)(n:∀ds Q xe,s ds Q xe->Kc W 0 ds=true)(hbody:∀(g:V')(A:Nv)(outer:List Env)(B:Sh)(H:Hp)(E:XK)(av:List (Option V)),Ro cm k (A.deeper (PyProof.Rows.envOfC qual (qa4 st) B.heap.objs.size f g))->∃t,VSs ⟨λ_=>E,W,av,[]⟩ (Ha cm (CX1 P w) P w K mg base N qual (qa4 st) f g A outer B H E) (qd6 st) t/\∀ds Q xe,s ds Q xe->t (qas0 W ds Q xe) (ds++Oa (N.length-ds.length) .u)):Hr cm P w K mg base (k+1) f fd ps s:=by
 refine⟨Fu.okX Sc (λm H Q E ⟨F,ds,A,r,o,h⟩=>by rw[r.len];exact j _ _ _ h) λg Ar outer B H m Q E I C=>?_,G⟩;obtain⟨F,ds,A,r,o,h⟩:=C;obtain⟨t,J,L⟩:=hbody g Ar outer B H E (L2.start N m) I;have X:=j _ _ _ h;have M:=n _ _ _ h;have Y:ps.length<=N.length:=by have:=congrArg Of Sc.pre;rw[zB6] at this;lia
 have L0:Locs F H (L2.start N m++[]) (ds++Oa (N.length-ds.length) .u) A:=by rw[zAi];unfold L2.start;rw[r.len];have:=r.locs.append (qG0 (F:=F) (H:=H) (N.length-ds.length));rwa[zAi] at this
 have l:∀{Z':St}{H':Hp}{F':γ->Prop}{a:Ds}{A' A2:List γ},Rn ⟨λ_=>E,W,L2.start N m,[]⟩ F' H' Z' a A'->Rl F H A F' H' A2->∃A3,Rc F' H' m (fin W 0 ds a) A3/\∀b,A3.count b<=A'.count b:=λ{Z' H' F' a A' A2} S' c=>by have hlen':=S'.len;simp only[zAi] at hlen';refine qbc6 (c.kp o r.cells) r M (by have:=S'.loc;simpa using this) ?_ λi D O=>?_;{rw[<-hlen'];unfold L2.start;simp};have:=S'.ag i (by simpa using O);simp only[zAi] at this;rw[this];show (L2.start N m)[i]?=_;unfold L2.start;rw[zAr (by simpa using D)]
 refine⟨_,J.h,F,_,A,qas0 W ds _ _,(⟨L0,o,by simp,λi _=>by simp⟩),⟨?_,?_,λ_ _ _ _ _ z=>Q6 z,λ_ _ _ _ _ z=>Q6 z,?_⟩,L _ _ _ h⟩
 .intro a Z' H' F' A' q S' c;obtain⟨A3,p,q2⟩:=l S' c;have u:∀b,([]++A3).count b<=A'.count b:=λb=>by simpa using q2 b
  exact q .non H' F' [] A3 .non p (S'.ok.count u) (c.count u)
 .intro d a v Z' H' F' T A' q R S' S c;obtain⟨A3,p,q2⟩:=l S' c;have u:∀b,(T++A3).count b<=(T++A').count b:=λb=>by simp only[zA0];have:=q2 b;lia
  exact q v H' F' T A3 R p (S.count u) (c.count u)
 intro y a Z' e H' F' A' q U S' c;obtain⟨A3,p,q2⟩:=l S' c;exact q e H' F' A3 U p (S'.ok.count q2) (c.count q2)
theorem VFn.mk'{P:Nu}{w:Nw}(Fu:Fun K x qual st f fd)(Sc:qa9 N ps (qa4 st))(W:Nat->Bool)(e:B9 s)(a:∀ds Q xe,s ds Q xe->ds.length=ps.length)(b:∀ds Q xe,s ds Q xe->Kc W 0 ds=true)(hbody:∀(c:V')(A:Nv)(outer:List Env)(d:Sh)(H:Hp)(E:XK)(av:List (Option V)),Ro cm k (A.deeper (PyProof.Rows.envOfC qual (qa4 st) d.heap.objs.size f c))->∃t,VSs ⟨λ_=>E,W,av,[]⟩ (Ha cm (CX1 P w) P w K mg base N qual (qa4 st) f c A outer d H E) (qd6 st) t/\∀ds Q xe,s ds Q xe->t (qas0 W ds Q xe) (ds++Oa (N.length-ds.length) .u)):Hr cm P w K mg base (k+1) f fd ps s:=VFn.mkE (FunE.of Fu) Sc W e a b hbody
def Bu:List (Option Nat)->Ds->Ds×Ds|[],ds=>([],ds)|none::r,ds=>(.u::(Bu r ds).1,(Bu r ds).2)|some j::r,ds=>((ds[j]?).getD .u::(Bu r (ds.set j .u)).1,(Bu r (ds.set j .u)).2)
def Hv:List (Option Nat)->Ds->Ds->Ds|none::r,_::i,o=>Hv r i o|some j::r,d::i,o=>Hv r i (o.set j d)|_,_,o=>o
def Hj(g:VTG)(qf:VTT)(te:VT)(K:Ds->Ds->Prop):List D->Ds->Ds->Prop|[],acc,a=>K acc a|x::xs,acc,a=>g x a λι1=>qf ι1 (λb ι2=>if b=true then te ι2 (λd ι3=>acc.length<big/\Hj g qf te K xs (acc++[d]) ι3) (λ_ _=>False) else Hj g qf te K xs acc ι2) (λ_ _=>False)
noncomputable def capW(src:List (Option Nat)):Nat->Bool:=λi=>match src[i]? with|some (some _)=>true|_=>false
abbrev cIn(src:List (Option Nat))(av:List (Option V)):Vc:=⟨λ_ _ _ _=>False,capW src,av,[]⟩
structure VF(c:Vc)(X:Cx)(ifs:List Nx)(t:VTT):Prop where
 h:PFs X ifs (Hc c t)
 m:∀ds (Q Q':Bool->Ds->Prop) (xe xe':XKd),(∀d ds',Q d ds'->Q' d ds')->(∀x ds',xe x ds'->xe' x ds')->t ds Q xe->t ds Q' xe'
def qYes:VTT:=λds Q _=>Q true ds
theorem Iu:VF c X [] qYes:=⟨λFx s f H Q I ⟨F,a,A,b,S,x,q⟩=>qaN1 Fx s f H Q I (q H F A S Rl.refl),λa Q Q' b d e _=>e _ _⟩
theorem Mj(h:VTe c X e t):VF c X [e] t:=⟨qaY4 h.h,h.m⟩
section
variable{F F':γ->Prop}{H H':Hp}
theorem qab8:∀{src:List (Option Nat)}{J a:List (Option V)}{ds:Ds}{A:List γ},Locs F H (J++a) ds A->(∀j,some j∈src->j<J.length)->∃Ai Ao,Locs F H (Gh J src) (Bu src ds).1 Ai/\Locs F H (J++a) (Bu src ds).2 Ao/\∀b,A.count b=Ai.count b+Ao.count b
 |[],J,a,ds,A,L,_=>⟨[],A,.nil,L,λb=>by simp⟩|none::r,J,a,ds,A,L,h=>by obtain⟨Ai,Ao,f,q2,g⟩:=qab8 L λj c=>h j (zA6 _ c);exact⟨Ai,Ao,.no f,q2,g⟩|some j::r,J,a,ds,A,L,h=>by
  have c:=h j zAb;have t:=L.len;rw[zAf] at t;obtain⟨z,e⟩:∃d,ds[j]?=some d:=⟨_,zBa ⋯⟩;obtain⟨σ1,o,σ2,i,k,A1,B,A2,m,e2,u,w,x,n,p,q⟩:=L.split e;have s:(J++a)[j]?=some o:=by rw[m];exact qC8 u
  rw[zAr c] at s;have y:ds.set j .u=i++.u::k:=by have:=congrArg (λl=>l.set j .u) e2;rw[this,qp9 w]
  have L':Locs F H (J++a) (ds.set j .u) (A1++A2):=by rw[m,y];cases p with|no=>exact n.append (.no q)|@so v _ _ _=>exact n.append (.so (.u v) q)
  obtain⟨Ai,Ao,f,q2,g⟩:=qab8 L' λj c=>h j (zA6 _ c);refine⟨B++Ai,Ao,?_,q2,λb=>by rw[x];have:=g b;simp only[zA0] at *;lia⟩;show Locs F H (((J[j]?).getD none)::Gh J r) ((ds[j]?).getD .u::_) _;rw[s,e];exact Locs.cons p f
theorem qL0:∀{src:List (Option Nat)}{J c J':List (Option V)}{K o:Ds}{Ai Ao:List γ},Locs F H J' K Ai->Locs F H (J++c) o Ao->(∀j,some j∈src->j<J.length)->(∀(i j:Nat),src[i]?=some (some j)->J'[i]?=some ((J[j]?).getD none))->J'.length=src.length->∃A',Locs F H (J++c) (Hv src K o) A'/\∀b,A'.count b<=Ai.count b+Ao.count b
 |[],J,c,J',K,o,Ai,Ao,L,Lo,_,_,_=>⟨Ao,by cases K<;>exact Lo,λb=>⋯⟩|none::r,J,c,J',K,o,Ai,Ao,L,Lo,h,k,f=>by cases L with|nil=>simp at f|no L2=>obtain⟨A',g,q2⟩:=qL0 L2 Lo (λj a=>h j (zA6 _ a)) (λi j e=>by simpa using k (i+1) j (by simpa using e)) (by simpa using f);exact⟨A',g,q2⟩|so w L2=>obtain⟨A',g,q2⟩:=qL0 L2 Lo (λj a=>h j (zA6 _ a)) (λi j e=>by simpa using k (i+1) j (by simpa using e)) (by simpa using f);exact⟨A',g,λb=>by rw[zA0];have:=q2 b;lia⟩
 |some j::r,J,c,J',K,o,Ai,Ao,L,Lo,h,k,f=>by
  have a:=h j zAb;have m:=Lo.len;rw[zAf] at m;obtain⟨G,n⟩:∃d,o[j]?=some d:=⟨_,zBa ⋯⟩;obtain⟨σ1,p,σ2,q,s,A1,B,A2,t,e2,D,E,x,y,I,z⟩:=Lo.split n;have A:(J++c)[j]?=some p:=by rw[t];exact qC8 D
  rw[zAr a] at A;have u:=k 0 j rfl;rw[A] at u;have C:∀d,o.set j d=q++d::s:=λd=>by have:=congrArg (λl=>l.set j d) e2;rw[this,qp9 E]
  cases L with
  |nil=>simp at f|no L2=>
   have:p=none:=by simpa using u.symm
   subst this;have Lo':Locs F H (J++c) (o.set j .u) (A1++A2):=by rw[t,C];exact y.append (.no z)
   obtain⟨A',g,q2⟩:=qL0 L2 Lo' (λj a=>h j (zA6 _ a)) (λi j e=>by simpa using k (i+1) j (by simpa using e)) (by simpa using f);exact⟨A',g,λb=>by rw[x];have:=q2 b;simp only[zA0] at *;lia⟩
  |@so v d Bv _ _ _ w L2=>
   have:p=some v:=by simpa using u.symm
   subst this;have Lo':Locs F H (J++c) (o.set j d) (A1++(Bv++A2)):=by rw[t,C];exact y.append (.so w z)
   obtain⟨A',g,q2⟩:=qL0 L2 Lo' (λj a=>h j (zA6 _ a)) (λi j e=>by simpa using k (i+1) j (by simpa using e)) (by simpa using f);exact⟨A',g,λb=>by rw[x];have:=q2 b;simp only[zA0] at *;lia⟩
theorem qaB2(J:St)(src:List (Option Nat)):(Gh J src).length=src.length:=by simp[Gh]
theorem qaB3(h:src[i]?=some (some j)):(Gh J src)[i]?=some ((J[j]?).getD none):=by unfold Gh;rw[zBd,h];rfl
structure Lh(Pp:(γ->Prop)->Hp->Prop)(T:List γ):Prop where
 keep:∀{F F':γ->Prop}{H H':Hp}{W:γ->Prop},Kp F H W F' H'->(∀b∈T,¬W b)->Pp F H->Pp F' H'
 cells:∀{F:γ->Prop}{H:Hp},Pp F H->∀b∈T,∃o,H b=some o/\G1 o=true
end
section
variable{c:Vc}{F F':γ->Prop}{H H':Hp}{M:(γ->Prop)->Hp->Prop}{G:List (Option V)}{o:Ds}{I:γ}{J:Ds}{T A A' K:List γ}{E:St}{ds:Ds}
noncomputable def Tot(B T Ao A:List γ):List γ:=B++(T++(Ao++A))
theorem qv2(st:Lh M T)(r:Rj F H (.ref I) (.l false J) B)(g:M F H)(L:Locs F H G o Ao)(h:Ok F H (Tot B T Ao A))(S:Rn c F H E ds A)(s:Rl F H A F' H' A')(o':Ok F' H' A'):Rj F' H' (.ref I) (.l false J) B/\M F' H'/\Locs F' H' G o Ao/\Ok F' H' (Tot B T Ao A')/\Rl F H (Tot B T Ao A) F' H' (Tot B T Ao A'):=by
 unfold Tot at *
 have f:=s.kp S.ok S.loc.cells;have i:∀b,(B++(T++(Ao++A))).count b=((B++(T++Ao))++A).count b:=λb=>by simp only[zA0];lia
 have d:∀b,b∈B∨b∈T∨b∈Ao->¬(A.count b≠0):=λb a j=>by have:=h.sep b;grind
 have k:∀b∈B++(T++Ao),∃o,H b=some o/\G1 o=true:=λb a=>by rcases zAd.mp a with a|a;{exact r.cells b a};rcases zAd.mp a with a|a;{exact st.cells g b a};exact L.cells b a
 obtain⟨l,m⟩:=s.frame (h.count λb=>by rw[i];exact zA3 _) k o';have e:∀b,(B++(T++(Ao++A'))).count b=((B++(T++Ao))++A').count b:=λb=>by simp only[zA0];lia
 exact⟨r.keep f λb a=>d b (.inl a),st.keep f (λb a=>d b (.inr (.inl a))) g,L.keep f λb a=>d b (.inr (.inr a)),l.count λb=>by rw[e];exact zA3 _,(m.pre λb=>by rw[i]).count λb=>by rw[e];exact zA3 _⟩
theorem qaC3(st:Lh M T)(r:Rj F H (.ref I) (.l false J) B)(p:M F H)(L:Locs F H G o Ao)(S:Rn c F H E ds A)(q:Rj F H v d K)(h:Ok F H (Tot B T Ao (K++A))):∃vs B',H I=some (.l vs)/\vs.length=J.length/\Rj F (upd H I (.l (vs++[v]))) (.ref I) (.l false (J++[d])) B'/\M F (upd H I (.l (vs++[v])))/\Locs F (upd H I (.l (vs++[v]))) G o Ao/\Rn c F (upd H I (.l (vs++[v]))) E ds A/\Ok F (upd H I (.l (vs++[v]))) (Tot B' T Ao A)/\Rl F H (Tot B T Ao (K++A)) F (upd H I (.l (vs++[v]))) (Tot B' T Ao A):=by
 unfold Tot at *
 obtain⟨a,vs,Ael,s,j,l,rfl⟩:=qq4 r;cases s;have t:=h.sep I;simp only[zA0,zAt,zB1,if_true] at t;have m:¬F I:=λf=>by have:=h.fro I f;simp only[zA0,zAt,zB1,if_true] at this;lia
 have k:=qM9 (o':=.l (vs++[v])) j rfl m;have i:∀X:List γ,X.count I=0->∀b∈X,¬b=I:=λX y b C w=>by subst w;exact(qb6.mp C) y
 have g:∀b,(I::(Ael++(K++[]))++(T++(Ao++A))).count b<=(I::Ael++(T++(Ao++(K++A)))).count b:=λb=>by simp only[zA0,zAt,List.count_nil];lia
 have n:∀b,F b->∃o,upd H I (.l (vs++[v])) b=some o:=λb f=>by obtain⟨x,e⟩:=h.ex b f;exact⟨x,by rw[qb2 (show b≠I from λw=>m (w ▸ f))];exact e⟩
 refine⟨vs,I::(Ael++(K++[])),j,l.len,?_,st.keep k (i T ⋯) p,L.keep k (i Ao ⋯),⟨S.loc.keep k (i A ⋯),⟨S.ok.sep,S.ok.fro,n⟩,S.len,S.ag⟩,⟨λb=>zA7 (g b) (h.sep b),λb f=>by have:=h.fro b f;have:=g b;lia,n⟩,λb u e z=>?_,λb u e z=>by have:=g b;lia,λ_ f=>f,λ_ _ _ _ f=>f⟩;{exact .l qb1 ((l.append (.cons q .nil)).keep k (i _ (by grind)))};rw[qb2 λw=>?_];{exact e};grind
end
def qp3(src:List (Option Nat))(g:VTG):TG:=λv a H Q=>∃av,Im (cIn src av) g v a H Q
def qp2(src:List (Option Nat))(q:VTT):TT:=λa H Q=>∃av,Hc (cIn src av) q a H Q
def Bp(src:List (Option Nat))(t:VT):TE:=λa H Q=>∃av,Bh (cIn src av) t a H Q
structure Blk(X:Cx)(NY:List Str)(sc:Scope)(src:List (Option Nat))(tg:Nx)(ifs:List Nx)(elt:Nx)(g:VTG)(qf:VTT)(te:VT):Prop where
 g:∀av C s0 H0 ex,VG (cIn src av) (qj7 X NY sc C s0 H0 ex) tg g
 f:∀av C s0 H0 ex,VF (cIn src av) (qj7 X NY sc C s0 H0 ex) ifs qf
 e:∀av C s0 H0 ex,VE (cIn src av) (qj7 X NY sc C s0 H0 ex) elt te
 lt:∀Fx a H s,Rk X Fx a H s->∀j,some j∈src->j<a.length
section
variable{c:Vc}{X:Cx}{NY:List Str}{sc:Scope}{src:List (Option Nat)}{tg elt e:Nx}{ifs:List Nx}{g:VTG}{qf:VTT}{te:VT}
theorem Blk.pg(b:Blk X NY sc src tg ifs elt g qf te):∀C a H0 ex,PG (qj7 X NY sc C a H0 ex) tg (qp3 src g):=λC a H0 ex Fx s Y H v u Q I r ⟨c,q⟩=>(b.g c C a H0 ex).h Fx s Y H v u Q I r q
theorem Blk.pf(b:Blk X NY sc src tg ifs elt g qf te):∀C a H0 ex,PFs (qj7 X NY sc C a H0 ex) ifs (qp2 src qf):=λC a H0 ex Fx s Y H Q I ⟨c,q⟩=>(b.f c C a H0 ex).h Fx s Y H Q I q
theorem Blk.pe(b:Blk X NY sc src tg ifs elt g qf te):∀C a H0 ex,PE (qj7 X NY sc C a H0 ex) elt (Bp src te):=λC a H0 ex Fx s Y H Q I ⟨c,q⟩=>(b.e c C a H0 ex).h Fx s Y H Q I q
theorem Blk.gm(b:Blk X NY sc src tg ifs elt g qf te):∀d ds (Q Q':Ds->Prop),(∀a,Q a->Q' a)->g d ds Q->g d ds Q':=(b.g [] 0 {} (λ_=>none) []).m
theorem Blk.fm(b:Blk X NY sc src tg ifs elt g qf te):∀ds (Q Q':Bool->Ds->Prop) (xe c:XKd),(∀d a,Q d a->Q' d a)->(∀x a,xe x a->c x a)->qf ds Q xe->qf ds Q' c:=(b.f [] 0 {} (λ_=>none) []).m
theorem Blk.em(b:Blk X NY sc src tg ifs elt g qf te):∀ds (Q Q':DK) (xe c:XKd),(∀d a,Q d a->Q' d a)->(∀x a,xe x a->c x a)->te ds Q xe->te ds Q' c:=(b.e [] 0 {} (λ_=>none) []).m
theorem ql2(b:Blk X NY sc src tg ifs elt g qf te){K K':Ds->Ds->Prop}(h:∀acc Z,K acc Z->K' acc Z):∀(xs:List D) acc Z,Hj g qf te K xs acc Z->Hj g qf te K' xs acc Z|[],acc,Z=>h acc Z|x::xs,acc,Z=>b.gm _ _ _ _ λι1=>b.fm _ _ _ _ _ (λk ι2=>qC5 (b.em _ _ _ _ _ (λd ι3=>Qb (ql2 b h xs _ _)) λ_ _ z=>z) (ql2 b h xs _ _)) λ_ _ z=>z
variable{F F0:γ->Prop}{H H0:Hp}{Pp:(γ->Prop)->Hp->Prop}{τ:List (Option V)}{o0:Ds}{Dd:γ}{acc:Ds}{T A A0:List γ}{Y:St}{ds Z:Ds}{av:List (Option V)}{K:Ds->Ds->Prop}
def Mid(src:List (Option Nat))(av:List (Option V))(Pp:(γ->Prop)->Hp->Prop)(T:List γ)(τ:List (Option V))(o0:Ds)(Dd:γ)(F0:γ->Prop)(H0:Hp)(A0:List γ)(g:VTG)(qf:VTT)(te:VT)(K:Ds->Ds->Prop)(xs:List D)(Y:St)(H:Hp):Prop:=∃F Z A acc B Ao,Rn (cIn src av) F H Y Z A/\Rj F H (.ref Dd) (.l false acc) B/\Pp F H/\Locs F H τ o0 Ao/\Ok F H (Tot B T Ao A)/\Rl F0 H0 A0 F H (Tot B T Ao A)/\Hj g qf te K xs acc Z
theorem qH4(b:Blk X NY sc src tg ifs elt g qf te)(st:Lh Pp T)(S:Rn (cIn src av) F H Y Z A)(r:Rj F H (.ref Dd) (.l false acc) B)(t:Pp F H)(L:Locs F H τ o0 Ao)(u:Ok F H (Tot B T Ao A))(p:Rl F0 H0 A0 F H (Tot B T Ao A))(w:Rj F H x y [])(q:Hj g qf te K (y::xs) acc Z):qp3 src g x Y H λσ2 H2=>qp2 src qf σ2 H2 λh H3=>if h=true then Bp src te σ2 H3 λv H4=>∃ys,H4 Dd=some (.l ys)/\ys.length<M9/\Mid src av Pp T τ o0 Dd F0 H0 A0 g qf te K xs σ2 (upd H4 Dd (.l (ys++[v]))) else Mid src av Pp T τ o0 Dd F0 H0 A0 g qf te K xs σ2 H3:=by have a:∀(F:γ->Prop)(H:Hp)(A:List γ),Xc (cIn src av) (λ_ _=>False) F H A:=λF H A x C Y' e H' F' A' z=>z.elim;refine⟨av,F,Z,A,[],y,w,S,S.ok,b.gm _ _ _ _ (λι1 q σ1 H1 F1 A1 S1 E=>?_) q⟩;obtain⟨G,i,L1,j,t1⟩:=qv2 st r t L u S (show Rl F H A F1 H1 A1 from E) S1.ok;refine⟨av,F1,ι1,A1,_,S1,a _ _ _,b.fm _ _ _ _ _ (λk ι2 q H2 F2 A2 S2 I=>?_) (λ_ _ z=>z) q⟩;obtain⟨s,c,L2,f,t2⟩:=qv2 st G i L1 j S1 I S2.ok;cases k with|false=>rw[if_neg ∅] at q ⊢;exact⟨F2,ι2,A2,acc,B,Ao,S2,s,c,L2,f,(p.trans t1).trans t2,q⟩|true=>rw[if_pos rfl] at q ⊢;refine⟨av,F2,ι2,A2,_,S2,a _ _ _,b.em _ _ _ _ _ (λd ι3 q v H3 F3 Tv A3 J S3 M N=>?_) (λ_ _ z=>z) q⟩;obtain⟨O,l,L3,m,P⟩:=qv2 st s c L2 f S2 N M;obtain⟨Q,B',R,e2,U,n,L4,S4,o,W⟩:=qaC3 st O l L3 S3 J m;exact⟨Q,R,by rw[e2];exact zAa q.1 qh1,F3,ι3,A3,acc++[d],B',Ao,S4,U,n,L4,o,((p.trans t1).trans t2).trans (P.trans W),q.2⟩
theorem qH5(f:∀j,some j∈src->j<Y.length)(S:Rn c F H Y ds A)(n:Ok F H (T++A))(l:Pp F H)(st:Lh Pp T)(h:H Dd=none)(q:Hj g qf te K xs [] (Bu src ds).1):Mid src (Gh Y src) Pp T (Y++c.gv) (Bu src ds).2 Dd F H (T++A) g qf te K xs (Gh Y src) (upd H Dd (.l [])):=by
 obtain⟨Ai,Ao,o,q2,p⟩:=qab8 S.loc f;have a:=Same.new (u:=.l []) h;have okN:=(qg7 h).ok n (λb d=>by rcases zAd.mp d with d|d;{exact st.cells l b d};exact S.loc.cells b d) a;have m:∀b,(Tot [Dd] T Ao Ai).count b=([Dd]++(T++A)).count b:=λb=>by unfold Tot;simp only[zA0,p];lia
 have e:=okN.count λb=>by rw[m];exact zA3 _
 have k:Ok F (upd H Dd (.l [])) Ai:=e.count λb=>by unfold Tot;simp only[zA0];lia
 refine⟨F,_,Ai,[],[Dd],Ao,⟨by rw[zAi];exact o.same a,k,by simp,λi _=>by simp⟩,.l qb1 .nil,st.keep (Kp.same a) (λ_ _=>id) l,q2.same a,e,((qg7 h).stp a).count λb=>by rw[m];exact zA3 _,q⟩
theorem qH6(d:∀j,some j∈src->j<Y.length)(S:Rn c Fz Hz Y ds Az)(m:Mid src (Gh Y src) Pp T (Y++c.gv) o0 Dd F0 H0 A0 g qf te (λacc Z'=>∀v H' F' B A',Rj F' H' v (.l false acc) B->Rn c F' H' Y (Hv src Z' o0) A'->Pp F' H'->Ok F' H' (B++(T++A'))->Rl F0 H0 A0 F' H' (B++(T++A'))->Q v H') [] Y' H'):Q (.ref Dd) H':=by
 obtain⟨F,Z,A,acc,B,Ao,S1,r,k,L,l,s,q⟩:=m;have a:=S1.len;simp only[zAi] at a;obtain⟨A',n,o⟩:=qL0 (by have:=S1.loc;simpa using this) L d (λi j e=>by have:=S1.ag i (by show capW src i=true;unfold capW;rw[e]);simp only[zAi] at this;rw[this];exact qaB3 e) (by rw[<-a,qaB2]);have f:∀b,(B++(T++A')).count b<=(Tot B T Ao A).count b:=λb=>by unfold Tot;simp only[zA0];have:=o b;lia
 have h:=l.count f;exact q (.ref Dd) H' F B A' r ⟨n,h.right.right,S.len,S.ag⟩ k h (s.count f)
theorem qq8{a:γ}{ys:Ds}{T:List γ}:Lh (λF H=>Rj F H (.ref a) (.l z ys) T/\H a=some (.l vs)) T where
 keep:=λ{F F' H H' W} k h p=>by
  refine⟨p.1.keep k h,?_⟩;cases p.1 with
  |l _ _=>exact k.fr _ _ p.2 (h _ zAb)
  |lstZ _ f _=>exact k.fr _ _ p.2 λw=>k.wf _ w f
 cells:=λp=>p.1.cells
theorem qT5:Lh (λ_ _=>True) [] where
 keep:=λ_ _ p=>p
 cells:=λ_ b a=>by cases a
theorem qaS2{T:List γ}(r:Rj F H (.ref a) (.l z ys) T)(h:H a=some (.l vs))(hm:D.imms ys=true)(f:vs[i]?=some x):∃y,ys[i]?=some y/\Rj F H x y []:=by obtain⟨k,g,Ael',j,b,c,_⟩:=r.lst_inv;cases j;rw[h] at b;cases b;obtain⟨y,B,d,e⟩:=c.getV f;have:=e.imm (qk9 hm d);subst this;exact⟨y,d,e⟩
theorem qaQ6{T:List γ}(r:Rj F H (.ref a) (.l z ys) T)(h:H a=some (.l vs)):vs.length=ys.length:=by obtain⟨f,d,Ael',e,b,c,_⟩:=r.lst_inv;cases e;rw[h] at b;cases b;exact c.len
theorem qN1{Q:Hp->Prop}(b:Blk X NY sc src tg ifs elt g qf te)(hm:D.imms ys=true)(m:Mid src av (λF H=>Rj F H (.ref a) (.l z ys) T/\H a=some (.l vs)) T τ o0 Dd F0 H0 A0 g qf te K ys Y' H)(e:∀σ2 H2,Mid src av (λF H=>Rj F H (.ref a) (.l z ys) T/\H a=some (.l vs)) T τ o0 Dd F0 H0 A0 g qf te K [] σ2 H2->Q H2):qw0 (Itl K' a) (qp3 src g) (qp2 src qf) (Bp src te) Dd Q Y' H:=by obtain⟨_,_,_,_,_,_,_,_,c,_⟩:=id m;refine qX1 (xs:=vs) (λi Y H=>Mid src av (λF H=>Rj F H (.ref a) (.l z ys) T/\H a=some (.l vs)) T τ o0 Dd F0 H0 A0 g qf te K (ys.drop i) Y H) m ?_ ?_ ?_;{rintro i Y H _ ⟨_,_,_,_,_,_,_,_,d,_⟩;exact .inl (.inl d.2)};{rintro i x Y H f ⟨F,Z,A,h,B,Ao,S1,r,d,L,j,s,q⟩;obtain⟨y,k,l⟩:=qaS2 d.1 d.2 hm f;rw[ql0 k] at q;exact qH4 b qq8 S1 r d L j s l q};intro Y H m;rw[(qaQ6 c.1 c.2),Oq] at m;exact e _ _ m
theorem qal8{Q:Hp->Prop}(b:Blk X NY sc src tg ifs elt g qf te)(hm:D.imms ys=true)(m:Mid src av (λF H=>Rj F H (.ref a) (.l z ys) T/\H a=some (.l vs)) T τ o0 Dd F0 H0 A0 g qf te K (enD ys) Y' H)(k:∀σ2 H2,Mid src av (λF H=>Rj F H (.ref a) (.l z ys) T/\H a=some (.l vs)) T τ o0 Dd F0 H0 A0 g qf te K [] σ2 H2->Q H2):qw0 (Ite K' a) (qp3 src g) (qp2 src qf) (Bp src te) Dd Q Y' H:=by obtain⟨_,_,_,_,_,_,_,_,c,_⟩:=id m;refine qas5 (xs:=vs) (λi Y H=>Mid src av (λF H=>Rj F H (.ref a) (.l z ys) T/\H a=some (.l vs)) T τ o0 Dd F0 H0 A0 g qf te K ((enD ys).drop i) Y H) m ?_ ?_ ?_;{rintro i Y H _ ⟨_,_,_,_,_,_,_,_,d,_⟩;exact .inl (.inl d.2)};{rintro i x Y H w l ⟨F,Z,A,n,B,Ao,S1,r,d,L,o,s,q⟩ e;obtain⟨y,p,t⟩:=qaS2 d.1 d.2 hm l;rw[ql0 (qbc8 p)] at q;have f:=Same.new (u:=.q [.int (i:Int),x]) e;obtain⟨v,h,L1,j,t1⟩:=qv2 qq8 r d L o S1 (Rl.same f) (S1.ok.same f);exact qH4 b qq8 (S1.same f) v h L1 j (s.trans t1) (qK0 e (.cons (.int _) (.cons t .nil))) q};intro Y H m;rw[Oo (by rw[qaH2,(qaQ6 c.1 c.2)];exact zA3 _)] at m;exact k _ _ m
theorem qay1{Q:Hp->Prop}(b:Blk X NY sc src tg ifs elt g qf te)(m:Mid src av (λ_ _=>True) [] τ o0 Dd F0 H0 A0 g qf te K (Bo lo n) Y' H)(a:∀σ2 H2,Mid src av (λ_ _=>True) [] τ o0 Dd F0 H0 A0 g qf te K [] σ2 H2->Q H2):qw0 (Itr lo n) (qp3 src g) (qp2 src qf) (Bp src te) Dd Q Y' H:=by refine qak0 (λi Y H=>Mid src av (λ_ _=>True) [] τ o0 Dd F0 H0 A0 g qf te K ((Bo lo n).drop i) Y H) m ?_ ?_;{rintro i Y H c ⟨F,Z,A,d,B,Ao,S1,r,e,L,f,s,q⟩;rw[ql0 (qad9 c)] at q;exact qH4 b qT5 S1 r e L f s (.int _) q};intro Y H m;rw[Oo (by rw[qau5];exact zA3 _)] at m;exact a _ _ m
end
def Imp(c:Vc)(X:Cx)(t:VT)(tc:TE):Prop:=∀Fx s a H Q,Rk X Fx a H s->Bh c t a H Q->tc a H Q
def Iv(t:VT):Prop:=∀ds (Q Q':DK) (xe xe':XKd),(∀d a,Q d a->Q' d a)->(∀x a,xe x a->xe' x a)->t ds Q xe->t ds Q' xe'
section
variable{c:Vc}{X:Cx}{NY:List Str}{sc:Scope}{src:List (Option Nat)}{tg elt e o:Nx}{ifs:List Nx}{g:VTG}{qf:VTT}{te t0:VT}{pf:PF}
theorem Ml(h:PE X e tc)(i:Imp c X t tc)(m:Iv t):VE c X e t:=⟨λFx s σ H Q I q=>h Fx s σ H Q I (i Fx s σ H Q I q),m⟩
theorem qaV8(h:PS X (.Assign [.Name x px] e spos) (K5 tc (Ih i)))(j:Imp c X t tc)(m:Iv t)(k:c.W i=false)(hi:X.N[i]?=some x):VS c X (.Assign [.Name x px] e spos) (Gw t (gNm i)):=by refine⟨λFx s σ H E I q=>h Fx s σ H E I (j Fx s σ H _ I ?_),λb n f g=>m _ _ _ _ _ (λd a=>g.nx _) g.xe⟩;obtain⟨F,f,A,b,S,l,q⟩:=q;refine⟨F,f,A,b.xe,S,l.xe,m _ _ _ _ _ (λd a q v H' F' T A' r S' o p=>?_) (λ_ _ z=>z) q⟩;obtain⟨A2,S2,u⟩:=S'.store k (qp0 hi Fx σ H s I) r o;exact l.nx _ _ H' F' A2 q S2 (p.trans u)
def Iw(src:List (Option Nat))(g:VTG)(qf:VTT)(te:VT)(ys:List D):Ds->DK->Prop:=λds1 Q=>Hj g qf te (λacc ι'=>Q (.l false acc) (Hv src ι' (Bu src ds1).2)) ys [] (Bu src ds1).1
theorem qI1(b:Blk X NY sc src tg ifs elt g qf te){Q:DK}(h:∀d a,Q d a->Q' d a):Iw src g qf te ys ds1 Q->Iw src g qf te ys ds1 Q':=ql2 b (λc ι=>h _ _) _ _ _
def tCL(src:List (Option Nat))(t0:VT)(g:VTG)(qf:VTT)(te:VT):VT:=λds Q xe=>t0 ds (λd ds1=>orF d.lstOf λys=>D.imms ys=true/\Iw src g qf te ys ds1 Q) xe
theorem qaz0(b:Blk X NY sc src tg ifs elt g qf te)(hi:VE c X e t0):Iv (tCL src t0 g qf te):=λj Q Q' k a f h=>hi.m _ _ _ _ _ (λd i=>qa5 λl=>Qb (qI1 b f)) h
theorem qbc1(b:Blk X NY sc src tg ifs elt g qf te)(hi:VE c X e t0):Imp c X (tCL src t0 g qf te) (Gz (Ki K (Bh c t0)) src (qp3 src g) (qp2 src qf) (Bp src te)):=by rintro Fx s σ H Q I ⟨F,k,A,l,S,x,q⟩;have f:=b.lt Fx σ H s I;refine⟨F,k,A,l,S,x,hi.m _ _ _ _ _ (λd n q v H1 F1 T A1 i S1 o p=>?_) (λ_ _ z=>z) q⟩;obtain⟨E,t,u,h⟩:=qa8.mp q;obtain⟨z,rfl⟩:=qy0 t;obtain⟨a,w,Ael,rfl,j,G,_⟩:=i.lst_inv;refine⟨a,rfl,⟨w,.inl (.inl j)⟩,λDd y=>qN1 b u (qH5 f S1 o ⟨i,j⟩ qq8 y (ql2 b (λC ι q v H' F' B A' r S' _ D s=>q v H' F' B A' r S' (D.count λb=>by simp only[zA0];lia) ((p.trans s).count λb=>by simp only[zA0];lia)) _ _ _ h)) λσ2 H2 m=>qH6 f S1 m⟩
def tCPx(en:Ds->List D)(src:List (Option Nat))(pf:PF)(g:VTG)(qf:VTT)(te:VT):VT:=λds Q xe=>orF (pf ds) λq=>orF (A9 ds q.1 q.2) λd=>orF d.lstOf λys=>D.imms ys=true/\∀w,Hj g qf te (λacc ι'=>orF (bk1 q.1 q.2 w d (Hv src ι' (Bu src (Bi ds q.1 q.2 (.hole w))).2)) λa=>Q (.l false acc) a) (en ys) [] (Bu src (Bi ds q.1 q.2 (.hole w))).1
theorem qam3(b:Blk X NY sc src tg ifs elt g qf te):Iv (tCPx en src pf g qf te):=λf Q Q' i a c j=>qa5 λq=>qa5 λd=>qa5 λk=>Qb λh w=>ql2 b (λe ι=>qa5 λz=>c _ _) _ _ _ (h w)
theorem qaU0{J:γ->It}(b:Blk X NY sc src tg ifs elt g qf te)(M:∀{a:γ}{vs:List V}{z:Bool}{ys:Ds}{T:List γ}{τ:List (Option V)}{o0:Ds}{Dd:γ}{F0:γ->Prop}{H0 H:Hp}{A0:List γ}{K0:Ds->Ds->Prop}{av:List (Option V)}{Q:Hp->Prop}{σ':St},D.imms ys=true->Mid src av (λF H=>Rj F H (.ref a) (.l z ys) T/\H a=some (.l vs)) T τ o0 Dd F0 H0 A0 g qf te K0 (en ys) σ' H->(∀σ2 H2,Mid src av (λF H=>Rj F H (.ref a) (.l z ys) T/\H a=some (.l vs)) T τ o0 Dd F0 H0 A0 g qf te K0 [] σ2 H2->Q H2)->qw0 (J a) (qp3 src g) (qp2 src qf) (Bp src te) Dd Q σ' H)(j:∀σ H R,Kt c pf σ H (λx H1=>∃a,x=.ref a/\(∃xs,SqL K H1 a xs)/\R (J a) H1)->wi σ H R):Imp c X (tCPx en src pf g qf te) (Gz wi src (qp3 src g) (qp2 src qf) (Bp src te)):=by
 rintro Fx s σ H Q I ⟨F,t,A,xe,S,x,q⟩;have h:=b.lt Fx σ H s I;refine j σ H _ ?_;obtain⟨⟨i,p⟩,N,q⟩:=qa8.mp q;obtain⟨d,e2,q⟩:=qa8.mp q;obtain⟨ys,O,P,q⟩:=qa8.mp q;obtain⟨z,rfl⟩:=qy0 O;refine⟨F,t,A,i,p,_,S,N,e2,D.noConfusion,λu w H1 U k l=>?_⟩;obtain⟨B,C,r,y,Y⟩:=(S.same l).place e2 D.noConfusion U k;obtain⟨A1,Z,q2⟩:=Y (.hole w) [] (Kp.same λ_ _ z=>z) (λ_ _ z=>z) (.hole w);have E:Ok F H1 (B++A1):=(S.same l).ok.count λb=>by rw[zA0,q2,y];simp
 have s1:Rl F H A F H1 (B++A1):=⟨λb o e _=>l b o e,λb o e z=>by rw[zA0,q2];have:=y b;simp;lia,λ_ f=>f,λ_ _ _ _ f=>f⟩;have S1:Rn c F H1 σ (Bi t i p (.hole w)) A1:=⟨Z,E.right,S.len,S.ag⟩;obtain⟨a,vs,Ael,rfl,G,rs,_⟩:=r.lst_inv;refine⟨a,rfl,⟨vs,.inl (.inl G)⟩,λDd hD=>M P (qH5 h S1 E ⟨r,G⟩ qq8 hD (ql2 b (λa0 ι q v H' F' B' A' rv S' hp L s=>?_) _ _ _ (q (.ref a)))) λσ2 H2 m=>qH6 h S1 m⟩;obtain⟨a1,eb,q⟩:=qa8.mp q;obtain⟨A2,k1,k2⟩:=qt7 (.so .nil) (.cons hp.1 .nil) S'.loc eb;have n:∀b,(B'++A2).count b<=(B'++(B++A')).count b:=λb=>by have:=k2 b;simp only[zAi,zA0] at *;lia
 exact q v H' F' B' A2 rv ⟨k1,(L.count n).right,S.len,S.ag⟩ (L.count n) ((s1.trans s).count n)
theorem qbc0(b:Blk X NY sc src tg ifs elt g qf te):Imp c X (tCPx (λys=>ys) src pf g qf te) (Gz (Ki K (Kt c pf)) src (qp3 src g) (qp2 src qf) (Bp src te)):=qaU0 b (λa m d=>qN1 b a m d) λσ H R h=>h
def tCR1(src:List (Option Nat))(tr:VTA)(g:VTG)(qf:VTT)(te:VT):VT:=λds Q xe=>tr ds (λxs ds1=>orF (Mi xs) λj=>Jg j=true/\Iw src g qf te (Bo 0 j.toNat) ds1 Q) xe
theorem qam2{es:List Nx}{tr:VTA}(b:Blk X NY sc src tg ifs elt g qf te)(hi:VOs c X es tr):Iv (tCR1 src tr g qf te):=λi Q Q' j a e f=>hi.m _ _ _ _ _ (λd h=>qa5 λk=>Qb (qI1 b e)) f
theorem qaA5{F:γ->Prop}{H:Hp}{A:List γ}{F1:γ->Prop}{H1:Hp}{A1:List γ}{σ:St}{ds1:Ds}(b:Blk X NY sc src tg ifs elt g qf te)(a:∀j,some j∈src->j<σ.length)(S1:Rn c F1 H1 σ ds1 A1)(f:Rl F H A F1 H1 A1)(q:Iw src g qf te (Bo lo n) ds1 (λd e=>∀v H' F' T A',Rj F' H' v d T->Rn c F' H' σ e A'->Ok F' H' (T++A')->Rl F H A F' H' (T++A')->Q v H')):∀Dd,H1 Dd=none->qw0 (Itr lo n) (qp3 src g) (qp2 src qf) (Bp src te) Dd (λH'=>Q (.ref Dd) H') (Gh σ src) (upd H1 Dd (.l [])):=λDd h=>
 qay1 b (qH5 a S1 S1.ok trivial qT5 h (ql2 b (λi ι q v H' F' B A' r S' _ k s=>q v H' F' B A' r S' k (f.trans s)) _ _ _ q)) λσ2 H2 m=>qH6 a S1 m
theorem qaR6{es:List Nx}{tr:VTA}(b:Blk X NY sc src tg ifs elt g qf te)(hi:VOs c X es tr):Imp c X (tCR1 src tr g qf te) (Gz (iRng1 (qaE3 c tr)) src (qp3 src g) (qp2 src qf) (Bp src te)):=by rintro Fx s σ H Q I ⟨F,d,A,e,S,x,q⟩;refine⟨F,d,A,e,S,x,hi.m _ _ _ _ _ (λo f q p H1 F1 T A1 h S1 i=>?_) (λ_ _ z=>z) q⟩;obtain⟨j,k,l,a⟩:=qa8.mp q;cases qav3 k;obtain⟨v,rfl,n⟩:=h.one_inv;cases n;have:=qaf5 l;exact⟨j,rfl,this.1,this.2,qaA5 b (b.lt Fx σ H s I) S1 i a⟩
noncomputable def capOk(X:Cx)(src:List (Option Nat)):Bool:=src.all λo=>match o with|none=>true|some j=>decide (j<X.N.length)
theorem blk(b:∀av C a H0 ex,VG (cIn src av) (qj7 X NY sc C a H0 ex) tg g)(c:∀av C a H0 ex,VF (cIn src av) (qj7 X NY sc C a H0 ex) ifs qf)(d:∀av C a H0 ex,VE (cIn src av) (qj7 X NY sc C a H0 ex) elt te)(e:capOk X src=true:=by rfl):Blk X NY sc src tg ifs elt g qf te:=⟨b,c,d,λFx σ H s I j f=>by
   have:=zBo.mp e _ f
   rw[I.len];exact zAe this⟩
end
theorem qt0{X:Cx}{NY:List Str}{sc:Scope}{C:γ}{a:Sh}{H0:Hp}{ex:List γ}{src:List (Option Nat)}{av:List (Option V)}:Lands (qj7 X NY sc C a H0 ex) (cIn src av).E:=λ_ _ _ _ _ _ _ _ _ z=>z.elim
section
variable{c:Vc}{X:Cx}{NY:List Str}{n:Scope}{src:List (Option Nat)}{q l k a:Nx}{m:List Nx}{g:VTG}{r:VTT}{te s:VT}{o:Pos}{pf:PF}{x:Str}
theorem ecL(hi:VE c X k s)(bl:Blk X NY n src q m l g r te)(a:X.calm=true:=by rfl)(b:qu9 X NY src n=true:=by rfl)(d:∀x,Na k X.env x=pure x:=by intro _;rfl):VE c X (.ListComp l [⟨q,k,m,0⟩] n o) (tCL src s g r te):=Ml (qC1 NY src (qx5 hi.h) bl.pg bl.pf bl.pe a b d) (qbc1 bl hi) (qaz0 bl hi)
theorem ecP(hi:VP c X k pf)(bl:Blk X NY n src q m l g r te)(a:X.calm=true:=by rfl)(b:qu9 X NY src n=true:=by rfl)(d:∀x,Na k X.env x=pure x:=by intro _;rfl):VE c X (.ListComp l [⟨q,k,m,0⟩] n o) (tCPx (λys=>ys) src pf g r te):=Ml (qC1 NY src (qx5 hi.h) bl.pg bl.pf bl.pe a b d) (qbc0 bl) (qam3 bl)
theorem ecR1{tr:VTA}{p cpos:Pos}(hm:X.mg "range"=none)(b:VOs c X [a] tr)(bl:Blk X NY n src q m l g r te)(d:Gl X "range" := by rfl)(e:M8 [a] X.env=[(false,eval a X.env)]:=by rfl)(f:X.calm=true:=by rfl)(i:qu9 X NY src n=true:=by rfl)(j:∀x,Na (.Call (.Name "range" p) [a] [] cpos) X.env x=pure x:=by intro _;rfl):VE c X (.ListComp l [⟨q,.Call (.Name "range" p) [a] [] cpos,m,0⟩] n o) (tCR1 src tr g r te):=Ml (qC1 NY src (qU3 d hm b.h e) bl.pg bl.pf bl.pe f i j) (qaR6 bl b) (qam2 bl b)
end
section
variable{c:Vc}{X:Cx}{t:List Nx}{p:VTB}
def Li(p:VTB):VTA:=λds Q xe=>p ds (λxs _ ds1=>Q xs ds1) xe
theorem Gy(h:VAs c X t p):VOs c X t (Li p):=⟨PA.mono h.h λn H Q ⟨F,d,A,e,S,x,q⟩=>⟨F,d,A,e,S,x,h.m _ _ _ _ _ (λf g a q i H' F' T A' r _ S' o s=>q i H' F' T A' r S' (s.count λb=>by rw[zA0];lia)) (λ_ _ z=>z) q⟩,λd Q Q' e j k l=>h.m _ _ _ _ _ (λf g a=>k _ _) l⟩
end
structure Bg(x y z:Int)(ns:List Int):Prop where
 x0:0<=x
 y0:0<=y
 y1:y<2147483647
 z0:0<=z
 nn:∀n∈ns,0<=n
noncomputable def bagD(x y z:Int)(ns:List Int):D:=.l false [.int x,.int y,.int z,.l false (ns.map .int)]
def lawE:VEnds where
 nx _:=False
 rt d _:=d.asB=some true
 bk _:=False
 ct _:=False
 xe _ _:=False
theorem qap9{c:Vc}{X:Cx}{rest:List Ny}{t:VTS}{H:Hp}{E:By}{p L:γ}{x y z:Int}{ns:List Int}(e:c.av.length=2+n)(k:∀i,c.W i=false)(a:c.gv=[])(l:H p=some (.l [.int x,.int y,.int z,.ref L]))(m:H L=some (.l (ns.map V.int)))(o:L≠p)(s:∀H',E.rt (.bl true) H')(u:t lawE (.hole w::bagD x y z ns::Oa n .u)):Hd c t E (some w::some (.ref p)::Oa n none) H:=by
 have L0:Locs (λ_=>False) H (some w::some (.ref p)::Oa n none) (.hole w::bagD x y z ns::Oa n .u) ([]++((p::([]++([]++([]++((L::[])++[])))))++[])) :=
  .so (.hole w) (.so (.l l (.cons (.int x) (.cons (.int y) (.cons (.int z) (.cons (.l m (qF2 ns)) .nil))))) (qG0 n))
 refine⟨λ_=>False,_,_,lawE,⟨by rw[a,zAi];exact L0,⟨λb=>?_,λb f=>f.elim,λb f=>f.elim⟩,by rw[a,e];simp;lia,λi h=>by rw[k i] at h;cases h⟩,⟨λ_ _ _ _ _ z=>Q6 z,λd A v B' H' F' T A' q r _ _ _=>by rw[r.asB q];exact s H',λ_ _ _ _ _ z=>Q6 z,λ_ _ _ _ _ z=>Q6 z,λ_ _ _ _ _ _ _ z=>Q6 z⟩,u⟩;by_cases g:p=b;{subst g;simp[o]};by_cases j:L=b;{subst j;simp[g]};simp[g,j]
section
variable{c:Vc}{b d e o:Nx}{Y Z oc:Bool}{fa fb X:FV}
def f3(g g':D->D->Option D)(fa fb X:FV):FV:=λds=>(fa ds).bind λx=>(fb ds).bind λy=>(g x y).bind λz=>z.asB.bind λk=>if k=true then (X ds).bind λu=>g' y u else some (.bl false)
theorem qak3{j:R2}(h:A7 true r g)(h':A7 true j g'):∀W H Q,liftV c true (f3 g g' fa fb X) W H Q->qay9 r j (liftV c Y fa) (liftV c Z fb) (liftV c oc X) W H Q:=by rintro W H Q ⟨F,f,A,d,S,e,q⟩;obtain⟨x,B,e⟩:=zA1.mp e;obtain⟨y,e2,e⟩:=zA1.mp e;obtain⟨z,C,e⟩:=zA1.mp e;obtain⟨k,E,e⟩:=zA1.mp e;refine⟨F,f,A,x,S,B,λv H1 B1 G l R=>⟨F,f,A,y,S.same l,e2,λw H2 B2 m n T=>?_⟩⟩;refine h F H2 v w x y _ z _ (Jc (G.same n) m) C λu H3 B3 I p U=>⟨k,I.asB E,?_⟩;have a:=(l.trans n).trans p;cases k with|false=>rw[if_neg ∅] at e ⊢;cases e;exact q _ H3 [] (.bl _) a λ_=>New.nil|true=>rw[if_pos rfl] at e ⊢;obtain⟨s,J,K⟩:=zA1.mp e;refine⟨F,f,A,s,S.same a,J,λL H4 B4 M i V=>?_⟩;refine h' F H4 w L y s _ d Q (Jc ((m.same p).same i) M) K λN H5 B5 O P t=>q N H5 B5 O ((a.trans i).trans P) λ_=>⟨t.one,λb o e=>t.new b o (i b o (a b o e))⟩
end
section
variable{c:Vc}{X:Cx}{a b d e:Nx}{O:Pos}{T U V:Bool}{fa fb R:FV}
theorem vch{e:CmpOp}{i:R2}(j:OpR X (M' op) r)(h:A7 true r g)(f:OpR X (M' e) i)(h':A7 true i g')(k:VV c X a T fa)(l:VV c X b U fb)(m:VV c X d V R)(hm:lastMarks [op,e] [b,d]=false:=by with_unfolding_all rfl):VV c X (.Compare a [op,e] [b,d] O) true (f3 g g' fa fb R):=⟨PE.mono (qaC0 j f k.h l.h m.h hm) (qak3 h h')⟩
theorem qch{e:CmpOp}{r i:R2}{g g':D->D->Option D}(j:OpR X (M' op) r)(h:A7 true r g)(f:OpR X (M' e) i)(h':A7 true i g')(k:VV c X a T fa)(l:VV c X b U fb)(m:VV c X d V R)(hm:lastMarks [op,e] [b,d]=false:=by with_unfolding_all rfl):VTe c X (.Compare a [op,e] [b,d] O) (ttV (f3 g g' fa fb R)):=⟨PT.mono (qaA8 j f k.h l.h m.h hm) λN H Q q=>qak3 h h' N H _ (qay6 N H Q q),qN4⟩
def Ky(x:D):Option D:=match x with|.l _ ys=>(intsD ys).bind λns=>gd (ns.length<=1000) (.int (qm6 ns))|_=>none
theorem vlenS{p cpos:Pos}(g:X.mg "len"=none)(i:X.mg "set"=none)(o:VV c X a T fa)(j:Gl X "len" := by rfl)(k:Gl X "set" := by rfl)(r:X.calm=true:=by rfl)(n:M8 [a] X.env=(false,eval a X.env)::M8 [] X.env:=by rfl)(l:((backTo cpos (M8 [] X.env)).any λx=>x.1)=false:=by rfl)(b:M8 [.Call (.Name "set" p2) [a] [] cpos] X.env=(false,eval (.Call (.Name "set" p2) [a] [] cpos) X.env)::M8 [] X.env:=by rfl)(f:((backTo O (M8 [] X.env)).any λx=>x.1)=false:=by rfl):VV c X (.Call (.Name "len" p) [.Call (.Name "set" p2) [a] [] cpos] [] O) true (f1 Ky fa):=by refine⟨PE.mono (cbi qat0 g (qf6 (cty (qas8 r) i (qf6 o.h qu3 n) k (by rfl) ∅ ∅ n l) qu3 b) j (by rfl) ∅ ∅ b f) λN H Q m=>?_⟩;obtain⟨F,s,A,d,S,e,q⟩:=m;obtain⟨x,t,e2⟩:=qaG3.mp e;cases x with|l z J=>obtain⟨u,w,y⟩:=zA1.mp e2;obtain⟨B,rfl⟩:=qi3 y;refine⟨F,s,A,_,S,t,λv H1 B1 C D K=>?_⟩;obtain⟨a,L,A2,rfl,E,G,_⟩:=C.lst_inv;cases G.intsD w;exact⟨a,u,rfl,.inl (.inl E),B,λp St I=>⟨p,St,_,rfl,qb1,(q _ _ [] (.int _) (D.trans (Same.new I)) λ_=>New.nil)⟩⟩|_=>cases e2
def Ga(f:Ds->Option D):VSp:=λds Q _=>orF (f ds) λd=>Q d ds
theorem qv4:B9 (Ga f):=λa Q Q' e b c _=>qa5 λd=>c d a
noncomputable def wOf(l:List Bool)(i:Nat):Bool:=l.getD i false
end
section
variable{c:Vc}{X:Cx}{NY:List Str}{sc:Scope}{src:List (Option Nat)}{tg elt e o a b:Nx}{ifs:List Nx}{g:VTG}{qf:VTT}{te:VT}{pos px spos p0:Pos}{x xn:Str}
def Kd(en:Ds->List D)(src:List (Option Nat))(i:Nat)(g:VTG)(qf:VTT)(te:VT):VT:=λds Q xe=>orF (rdN i ds) λd=>orF d.lstOf λys=>D.imms ys=true/\Hj g qf te (λacc ι'=>Q (.l false acc) ((Hv src ι' (Bu src (ds.set i .u)).2).set i d)) (en ys) [] (Bu src (ds.set i .u)).1
theorem qD4(bl:Blk X NY sc src tg ifs elt g qf te):Iv (Kd en src i g qf te):=λe Q Q' f a b h=>qa5 λd=>qa5 λj=>Qb (ql2 bl (λc ι=>b _ _) _ _ _)
theorem qax4{J:γ->It}(bl:Blk X NY sc src tg ifs elt g qf te)(E:X.N[i]?=some xn)(G:∀{a:γ}{vs:List V}{z:Bool}{ys:Ds}{T:List γ}{τ:List (Option V)}{o0:Ds}{Dd:γ}{F0:γ->Prop}{H0 H:Hp}{A0:List γ}{K0:Ds->Ds->Prop}{av:List (Option V)}{Q:Hp->Prop}{σ':St},D.imms ys=true->Mid src av (λF H=>Rj F H (.ref a) (.l z ys) T/\H a=some (.l vs)) T τ o0 Dd F0 H0 A0 g qf te K0 (en ys) σ' H->(∀σ2 H2,Mid src av (λF H=>Rj F H (.ref a) (.l z ys) T/\H a=some (.l vs)) T τ o0 Dd F0 H0 A0 g qf te K0 [] σ2 H2->Q H2)->qw0 (J a) (qp3 src g) (qp2 src qf) (Bp src te) Dd Q σ' H)(j:∀σ H R,Ja i σ H (λx H1=>∃a,x=.ref a/\(∃xs,SqL K H1 a xs)/\R (J a) H1)->wi σ H R):Imp c X (Kd en src i g qf te) (Gz wi src (qp3 src g) (qp2 src qf) (Bp src te)):=by
 rintro Fx s σ H Q I ⟨F,L,A,xe,S,x,q⟩;have h:=bl.lt Fx σ H s I;refine j σ H _ ?_;obtain⟨d,k,q⟩:=qa8.mp q;obtain⟨k,hk⟩:=ql3.mp k;obtain⟨ys,M,O,q⟩:=qa8.mp q;obtain⟨z,rfl⟩:=qy0 M;obtain⟨v,B,C,l,r,t,P⟩:=S.put1 k D.noConfusion;have n:=l;rw[zAr (qp0 E Fx σ H s I)] at l;obtain⟨A1,U,q2⟩:=P .u [] (Kp.same λ_ _ z=>z) (λ_ _ z=>z) (.u v);have u:Ok F H (B++A1):=S.ok.count λb=>by rw[zA0,q2,t];simp
 have Y:Rl F H A F H (B++A1):=⟨λb o e _=>e,λb o e z=>by rw[zA0,q2];have:=t b;simp;lia,λ_ f=>f,λ_ _ _ _ f=>f⟩;have S1:Rn c F H σ (L.set i .u) A1:=⟨U,u.right,S.len,S.ag⟩;obtain⟨a,vs,Ael,rfl,w,rs,_⟩:=r.lst_inv;refine⟨.ref a,l,a,rfl,⟨vs,.inl (.inl w)⟩,λDd Z=>G O (qH5 h S1 u ⟨r,w⟩ qq8 Z (ql2 bl (λa0 ι q v H' F' B' A' rv S' hp y s=>?_) _ _ _ q)) λσ2 H2 m=>qH6 h S1 m⟩;obtain⟨A2,k1,k2⟩:=qD9 S'.loc n hp.1;have p:∀b,(B'++A2).count b<=(B'++(B++A')).count b:=λb=>by have:=k2 b;simp only[zA0] at *;lia
 exact q v H' F' B' A2 rv ⟨k1,(y.count p).right,S.len,S.ag⟩ (y.count p) ((Y.trans s).count p)
theorem qaR7(bl:Blk X NY sc src tg ifs elt g qf te)(a:X.N[i]?=some xn):Imp c X (Kd (λys=>ys) src i g qf te) (Gz (Ki K (Ja i)) src (qp3 src g) (qp2 src qf) (Bp src te)):=qax4 bl a (λb m d=>qN1 bl b m d) λσ H R h=>h
theorem qaR8(bl:Blk X NY sc src tg ifs elt g qf te)(b:X.N[i]?=some xn):Imp c X (Kd enD src i g qf te) (Gz (iEnum K (tCons (Ja i) tNil)) src (qp3 src g) (qp2 src qf) (Bp src te)):=qax4 bl b (λd m f=>qal8 bl d m f) λσ H R ⟨v,h,a,e,j,k⟩=>⟨v,h,a,by rw[e],j,k⟩
theorem ecN(i:Nat)(bl:Blk X NY sc src tg ifs elt g qf te)(b:X.N[i]?=some xn:=by rfl)(d:Vis X.env.scope xn:=by first|exact Q8 rfl|exact Q7 (Q8 rfl)|exact Q7 (Q7 rfl))(e:N' xn:=by decide)(a:(xn==("__classdict__" : Str))=false:=by decide)(f:X.calm=true:=by rfl)(h:qu9 X NY src sc=true:=by rfl)(j:∀x,Na (.Name xn p0) X.env x=pure x:=by intro _;rfl):VE c X (.ListComp elt [⟨tg,.Name xn p0,ifs,0⟩] sc pos) (Kd (λys=>ys) src i g qf te):=Ml (qC1 NY src (qx5 (qq0 b d e a)) bl.pg bl.pf bl.pe f h j) (qaR7 bl b) (qD4 bl)
theorem ecEN(i:Nat){e:Nat}(hm:X.mg "enumerate"=none)(bl:Blk X NY sc src (.Tuple elts e tpos) ifs elt g qf te)(f:X.N[i]?=some xn:=by rfl)(h:Vis X.env.scope xn:=by first|exact Q8 rfl|exact Q7 (Q8 rfl)|exact Q7 (Q7 rfl))(j:N' xn:=by decide)(b:(xn==("__classdict__" : Str))=false:=by decide)(d:Gl X "enumerate" := by rfl)(a:M8 [.Name xn p0] X.env=[(false,eval (.Name xn p0) X.env)]:=by rfl)(k:X.calm=true:=by rfl)(l:qu9 X NY src sc=true:=by rfl)(m:∀x,Na (.Call (.Name "enumerate" p) [.Name xn p0] [] cpos) X.env x=pure x:=by intro _;rfl):VE c X (.ListComp elt [⟨.Tuple elts e tpos,.Call (.Name "enumerate" p) [.Name xn p0] [] cpos,ifs,0⟩] sc pos) (Kd enD src i g qf te):=Ml (qC1 NY src (qaM9 d hm (qf6 (qq0 f h j b) qu3 a) a) bl.pg bl.pf bl.pe k l m) (qaR8 bl f) (qD4 bl)
theorem scN(i j:Nat)(b:X.N.Nodup)(bl:Blk X NY sc src tg ifs elt g qf te)(k:c.W i=false:=by rfl)(h:X.N[j]?=some xn:=by rfl)(l:Vis X.env.scope xn:=by first|exact Q8 rfl|exact Q7 (Q8 rfl)|exact Q7 (Q7 rfl))(m:N' xn:=by decide)(d:(xn==("__classdict__" : Str))=false:=by decide)(a:X.N[i]?=some x:=by rfl)(n:Loc X.env.scope x:=by first|exact Q8 rfl|exact Q7 rfl)(o:X.calm=true:=by rfl)(p:qu9 X NY src sc=true:=by rfl)(e:swapsWith (.ListComp elt [⟨tg,.Name xn p0,ifs,0⟩] sc pos) (some (.Name x px)) spos.line X.env=pure true:=by rfl)(q:∀x,Na (.Name xn p0) X.env x=pure x:=by intro _;rfl)(f:X.fn x=true∨X.env.scope.names.lookup x=some .local:=by first|exact .inl rfl|exact .inr rfl|assumption):VS c X (.Assign [.Name x px] (.ListComp elt [⟨tg,.Name xn p0,ifs,0⟩] sc pos) spos) (Gw (Kd (λys=>ys) src j g qf te) (gNm i)):=qaV8 (qaM3 i NY src b (qx5 (qq0 h l m d)) bl.pg bl.pf bl.pe a n o p e q f) (qaR7 bl h) (qD4 bl) k a
theorem qaU6(h:ds[i]?=some (.hole w)):bk1 i [] w d0 ds=some (ds.set i d0):=by unfold bk1 Au;rw[qG7 h];simp only[if_true];unfold Au;rw[qE1 h]
theorem qo2{g:VTG}{qf:VTT}{te:VT}{K:Ds->Ds->Prop}(I:Ds->Prop)(f:D->Option D):∀(xs:List D)(acc ι:Ds),acc.length+xs.length<big->I ι->(∀x∈xs,∀ι acc,I ι->∀R:Ds->Ds->Prop,(∀ι',I ι'->R (acc++(f x).toList) ι')->acc.length<big->g x ι λι1=>qf ι1 (λb ι2=>if b=true then te ι2 (λd ι3=>acc.length<big/\R (acc++[d]) ι3) (λ_ _=>False) else R acc ι2) (λ_ _=>False))->(∀ι',I ι'->K (acc++xs.filterMap f) ι')->Hj g qf te K xs acc ι|[],acc,ι,_,h,_,hK=>by have:=hK ι h;rw[List.filterMap_nil,zAi] at this;exact this|x::xs,acc,ι,hl,h,hs,hK=>by refine hs x zAb ι acc h (λa i=>Hj g qf te K xs a i) (λι' hι=>?_) (by simp at hl;lia);refine qo2 I f xs _ ι' ?_ hι (λy e=>hs y (zA6 _ e)) λι2 j=>?_;{cases c:f x with|none=>simp at hl ⊢;lia|some y=>simp at hl ⊢;lia};have:=hK ι2 j;rw[zBs] at this;cases c:f x with|none=>rw[c] at this;simpa using this|some y=>rw[c] at this;simpa using this
end
def spX1(C:γ)(fl:Str):Sp:=λvs H Q _=>∃(e:γ)(v:V),vs=[.ref e,v]/\H e=some (Be e C none true)/\∀dx,H dx=none->dx≠e->Q .non (upd (upd H dx (XD dx [(fl,v)])) e (Be e C (some dx) true))
section
variable{c:Vc}{X:Cx}{e:Nx}{te:VT}{pos cpos np:Pos}{k:Nat}{f C:γ}{fd:δ}{ps:List Str}{x fl:Str}
def qau1(C:γ)(fl:Str)(te:VT):VTS:=λe ds=>te ds (λd a=>d.imm=true/\e.xe ⟨C,[(fl,d)]⟩ a) e.xe
theorem qq9(M:MkE X.K C f)(Fn:Gv X.prog X.w X.K X.mg X.base CX0 k f fd ps (spX1 C fl))(L:Room (k+1) X.A)(hm:X.mg x=some (.ref C))(N:Binds X.K fd ps [])(O:Lands X c.E)(n:VE c X e te)(P:Gl X x:=by rfl)(p:N' x:=by decide)(I:M8 [e] X.env=(false,eval e X.env)::M8 [] X.env:=by rfl)(t:(backTo cpos (M8 [] X.env)).any (·.1)=false:=by rfl):VS c X (.Raise (some (.Call (.Name x np) [e] [] cpos)) none pos) (qau1 C fl te):=by
 refine⟨PS.mono (qae1 M Fn L hm N O (qf6 n.h qu3 I) P p I t) λE Z H y=>?_,λe Y J h=>n.m _ _ _ _ _ (λd i z=>⟨z.1,h.xe _ _ z.2⟩) h.xe⟩;obtain⟨F,J,A,ends,S,l,q⟩:=y;refine⟨F,J,A,ends.xe,S,l.xe,n.m _ _ _ _ _ (λd i ⟨Q,q⟩ v H' F' T A' r S' o s=>?_) (λ_ _ z=>z) q⟩;refine⟨by show 1<=1000;decide,λa R=>⟨a,v,rfl,qb1,λg U B=>⟨rfl,some g,qb1,?_⟩⟩⟩;have V:H' g=none:=by rwa[qb2 B] at U
 obtain rfl:=r.imm Q;have D:Same H' (upd (upd (upd (upd H' a (Be a C none true)) g (XD g [(fl,v)])) a (Be a C (some g) true)) a (Be a C (some g) false)):=λb u j=>by
  have G:b≠a:=λz=>by rw[z,R] at j;cases j
  have W:b≠g:=λz=>by rw[z,V] at j;cases j
  rw[qb2 G,qb2 G,qb2 W,qb2 G];exact j
 refine l.xe ⟨C,[(fl,d)]⟩ i Z a _ F' A' q ⟨some g,qb1,.inr ⟨g,[(fl,v)],rfl,?_,rfl,?_⟩⟩ (S'.same D) ((s.count λb=>by rw[zA0];lia).trans (Rl.same D));{rw[qb2 B,qb2 B,qb1]};exact .cons (r.same D) .nil
end
theorem vdct0{c:Vc}{X:Cx}{pos:Pos}:VV c X (.Dict [] [] pos) true (λ_=>some (.dct false [])):=⟨PE.mono qaB8 λf H Q ⟨F,b,A,d,S,e,q⟩ p a=>by
   cases e;exact q _ _ [p] (.dct (kvs:=[]) (kds:=[]) qb1 rfl .nil) (Same.new a) λ_=>qg7 a⟩
structure MdN(K:Qe)(C:γ)(m qual:Str)(st:Ny)(f:γ)(fd:δ)(ps:List Str):Prop where
 F:FunE K m qual st f fd
 b:Binds K fd ps []
 bn:Binds K fd ps [.none]
 me:Lr K C m f
 isf:W.isFn K (.ref f)=true
section
variable{X:Cx}{c:Vc}
theorem qaT5(i:Cl X.K X.mg x C)(M:Mk X.K C f)(D:MdN X.K C m qual st f fd ps)(G:Hr cm X.prog X.w X.K X.mg X.base k f fd ps s)(j:Lands X c.E)(l:Ro cm (k+1) X.A)(a:VAs c X (e::es) tr)(n:Gl X x:=by rfl)(d:N' x:=by decide)(o:M8 (e::es) X.env=(false,eval e X.env)::M8 es X.env:=by rfl)(g:(backTo pos (M8 es X.env)).any (·.1)=false:=by rfl):VE c X (.Call (.Name x p) (e::es) [] pos) (qY3 C s [] tr):=⟨PE.mono (qav1 M G.ok l n i.m D.b .nil j.passes a.h d o g) (qav7 qz5 G.m a),qV0 G.m a⟩
end
theorem mdmkN{od:Option γ}{kV j:V'}(l:K.lookup f=some ⟨oc,od,.func (W.fnOf m qual (qf9 st) (qd6 st) (qa4 st) (.ref T) kV e h g d j),p⟩)(c:W.codeIn K d qual=true)(k:W.keepIn K (.ref f)=true)(a:W.findIn K (.ref C) m=some (some (.ref f)))(i:W.isFn K (.ref f)=true)(t:K.lookup T=some ⟨to,td,.seq #[.none] n,q⟩)(b:∀(kV e h:V')(g:Option γ)(d j:V')(us:List V'),us.length=ps.length->∃k,bindArgs (W.fnOf m qual (qf9 st) (qd6 st) (qa4 st) (.ref T) kV e h g d j) ⟨us,[]⟩=seqItems? (.ref T) >>= k/\k (some #[.none])=pure (ps.zip us))(v:∀(kV e h:V')(g:Option γ)(d j:V')(us:List V'),us.length+1=ps.length->∃k,bindArgs (W.fnOf m qual (qf9 st) (qd6 st) (qa4 st) (.ref T) kV e h g d j) ⟨us,[]⟩=seqItems? (.ref T) >>= k/\k (some #[.none])=pure (ps.zip (us++[.none]))):MdN K C m qual st f (W.fnOf m qual (qf9 st) (qd6 st) (qa4 st) (.ref T) kV e h g d j) ps:=⟨⟨⟨_,_,_,_,_,_,_,_,_,_,rfl,l,c⟩⟩,λs us X o=>(by
   rw[zAi] at o ⊢;obtain⟨k,r,u⟩:=b kV e h g d j us o;exact W.binds_K X rfl t rfl r u),λs us X o=>(by
   obtain⟨k,r,u⟩:=v kV e h g d j us (by rw[zAf] at o;exact o);exact W.binds_K X rfl t rfl r u),⟨a,i,k⟩,i⟩
end LV
namespace L2
open PySem PySem.Spec PyProof.Rows
section
variable{prog:Nu}{w:Nw}{A:Nv}{E:V'->Sh->Prop}{s:Sh}{K:Qe}{x C:γ}
theorem qar7{Q:Option V'->Sh->Prop}{ox:Obj}{a:Option Obj}(X:K.In s.heap)(c:Exc K C)(I:W.InstAt s.heap x ox C a)(b:W.findObj K C a "__class__"=some (.bind (.builtin "getset_descriptor.__get__") (.builtin "object.__class__")))(hm:W.mroIn K C (.type "object")=some true)(h:Q (some (.ref C)) {s with toks:=s.toks+1}):Nr (Nt prog w) A (getAttr? (.ref x) "__class__") Q E s:=by
 have FB:=Qq;obtain⟨e,g,d,t,f⟩:=s;have L0:=I.type (M:=Nt prog w);have L1:=W.looks_findIn (M:=Nt prog w) X c.ga;have L2:=W.looks_findIn (M:=Nt prog w) X c.gt;have L3:=W.looks_find (M:=Nt prog w) X I b;have i:builtinKind "BaseException.__getattribute__"=some .slot:=by decide +kernel
 have j:splitId "BaseException.__getattribute__"=some ("BaseException", "__getattribute__"):=by decide +kernel
 unfold getAttr? getAttrBy? getAttrBy;refine J' (wpAny_mkText (J' (wpAny_attempt (Nb (J' (L0.at (J' (L1.at ?_))))))));dsimp only;have k:(P3 "BaseException.__getattribute__"==P3 "object.__getattribute__")=false:=by decide +kernel
 rw[k,Bool.and_false,if_neg zA8];unfold getAttrByItsOwn hookBefore;refine J' ?_;rw[if_pos (by rfl)];refine L2.at ?_;unfold callGetattribute boundAndCalled;rw[if_neg ∅];refine J' (wpAny_attempt (Nb ?_));rw[FB.ga.bind (.ref x)];refine J' (M7 (wpAny_call ?_));refine codeAny_call_builtin FB.ga.plain Qz (@W.check_slot (Nt prog w) _ _ _ "BaseException.__getattribute__" "BaseException" "__getattribute__" (.ref x) [.str "__class__" t] [] _ i j (L0.andThen (W.looks_mroIn X c.be)) (Q3 (.ref x) (.str "__class__" t)) ?_);unfold Builtin.«object.__getattribute__»;refine J' (M7 (J' (M7 (J' (L0.at (J' (L3.at ?_)))))));dsimp only;refine J' (Nb (wpAny_call (W.class_get (s:=⟨e,g,d,t+1,f⟩) (ox:=ox) (od:=a) X I hm ?_)));refine M7 ?_;exact W.handed_on rfl (M7 h)
end
structure IsX(K:Qe)(C:γ):Prop where
 ex:Exc K C
 ca:W.findIn K (.ref C) "__class__"=some (some (.builtin "object.__class__"))
 cn:W.specialIn K (.builtin "object.__class__") "__get__"=some (some (.builtin "getset_descriptor.__get__"))
 ct:W.takesIn K (.builtin "object.__class__")=some true
theorem qaE6{K:Qe}{x C:γ}{ox od:Obj}(i:IsX K C):W.KitX K (.ref x) (.ref C) (λh=>W.InstAt h x ox C (some od)) where
 ty:=λ_ _ _ I=>I.type
 it:=λ_ _ X _=>by
  obtain⟨b,a,_⟩:=W.any_some i.ex.hd;unfold W.clsIn at a;split at a
  .rename_i c' d' cd' sl' ho
   intro A' Q' E' g k q;unfold isType loadHead;exact J' (wpAny_loadPart (k _ _ (X _ _ ho)) (M7 q))
  cases a
 ne:=λh j l d n m X c=>by
  obtain⟨b,a,_⟩:=W.any_some i.ex.hd;refine Bool.eq_false_iff.mpr λq=>?_
  have e:=Value.ref.inj (zBl.mp q);subst e;unfold W.clsIn at a;split at a
  .rename_i c' d' cd' sl' ho
   cases ((X _ _ ho).symm.trans c)
  cases a
 ca:=λX I k=>qar7 X i.ex I (W.findObj_data (by obtain⟨o,f,_⟩:=W.any_some i.ex.hd;rw[f];rfl) i.ca i.cn i.ct) i.ex.ob k
def rIsX(K:Qe):List V->Hp->VK->Prop:=λxs H Q=>∃a d u C dx fr fs b,xs=[.ref a,d]/\Rh d u/\(∀c,Rh d c->c=u)/\H a=some (Be a C (some dx) fr)/\H dx=some (XD dx fs)/\IsX K C/\Qf K (.ref C) u=some b/\Q (.bl b) H
theorem qaH8{X:Cx}:CallR X (.builtin "isinstance") (rIsX X.K):=by intro Fx s T H D E Q I r h;obtain⟨a,d,u,C,F,G,J,b,rfl,L,c,e,f,ix,g,q⟩:=h;obtain⟨i,M,rfl,j,k⟩:=Ji r;obtain rfl:i=Pz a:=j;obtain rfl:=c _ k;obtain⟨l,N,m,n,o,p,_⟩:=qR8 I.hok e;obtain⟨O,t,r,P,_⟩:=Lz I.hok f;obtain⟨R,v,w⟩:=qv5 t;obtain⟨S,x,y,A⟩:=l;subst n o p;exact W.kia_one (qaE6 ix) I.kIn (⟨m,rfl,rfl,v⟩) g (λz=>nomatch z) λB=>⟨.bl b,H,I.tok B,rfl,q⟩
end L2
namespace LV
open PySem L2
section
theorem qC3{F:γ->Prop}{H:Hp}{f:Str}{d:D}:∀(a:List (Str×V))(b:List (Str×D)),a.map (·.1)=b.map (·.1)->Rc F H (a.map (·.2)) (b.map (·.2)) []->b.lookup f=some d->∃v,a.lookup f=some v/\Rj F H v d []|[],[],_,_,h=>by cases h|[],_::_,e,_,_=>by cases e|_::_,[],e,_,_=>by cases e|(k,v)::a,(k',d')::b,e,r,h=>by have g:=(List.cons.inj e).1;subst g;have r:=r;generalize i:([]:List γ)=N at r;cases r with|@cons _ _ B _ _ B' h1 t=>obtain⟨rfl,rfl⟩:=List.append_eq_nil_iff.mp i.symm;rw[zAu] at h ⊢;cases c:f==k with|true=>rw[c] at h;cases h;exact⟨v,rfl,h1⟩|false=>rw[c] at h;exact qC3 a b (List.cons.inj e).2 t h
end
theorem rm(r:Ro cm k A)(h:j<=k:=by decide):Ro cm j A:=r.mono h
theorem VFn.mk2(Fu:Fun K x qual st f fd)(Sc:qa9 N ps (qa4 st))(W:Nat->Bool)(c:B9 s)(h:∀ds Q xe,s ds Q xe->ds.length=ps.length/\Kc W 0 ds=true)(hbody:∀(a:V')(A:Nv)(outer:List Env)(b:Sh)(H:Hp)(E:XK)(av:List (Option V)),Ro cm k (A.deeper (PyProof.Rows.envOfC qual (qa4 st) b.heap.objs.size f a))->∃t,VSs ⟨λ_=>E,W,av,[]⟩ (Ha cm (CX1 P w) P w K mg base N qual (qa4 st) f a A outer b H E) (qd6 st) t/\∀ds Q xe,s ds Q xe->t (qas0 W ds Q xe) (ds++Oa (N.length-ds.length) .u)):Hr cm P w K mg base (k+1) f fd ps s:=VFn.mk' Fu Sc W c (λds Q xe z=>(h ds Q xe z).1) (λds Q xe z=>(h ds Q xe z).2) hbody
end LV
namespace S6
open PySem PyProof.Rows
variable{N bs q:Nat}{arr xs:Array N5}{f:Nat->N5}{key:N5}{kf:V'->Int×Int}{l:Bool}{vs:List V'}
section
variable{f:Type}{le:f->f->Bool}
theorem mg_l{A2:List f}:∀{A1 Y:List f},(∀a∈A1,∀y∈Y,le a y=true)->Oc (A1++A2) Y le=A1++Oc A2 Y le|[],_,_=>rfl|x::A1,[],_=>by simp|x::A1,y::Y,h=>by rw[zBy,zB8,if_pos (h x (by simp) y (by simp)),mg_l λa b=>h a (by simp[b])];rfl
theorem mg_r{B2:List f}:∀{B1 X:List f},(∀b∈B1,∀x∈X,le x b=false)->Oc X (B1++B2) le=B1++Oc X B2 le|[],_,_=>rfl|b::B1,[],_=>by simp|b::B1,x::X,h=>by rw[zBy,zB8,if_neg (by simp[h b (by simp) x (by simp)]),mg_r λa c=>h a (by simp[c])];rfl
theorem Mm{A2:List f}:∀{A1 Y:List f},(∀a∈A2,∀y∈Y,le a y=false)->Oc (A1++A2) Y le=Oc A1 Y le++A2|[],Y,h=>by have:=mg_r (B2:=[]) λy c a b=>h a b y c;simpa using this|x::A1,[],_=>by simp|x::A1,y::Y,h=>by rw[zBy,zB8,zB8];split;{rw[Mm h];rfl};rw[<-zBy,Mm λa b z d=>h a b z (by simp[d])];rfl
theorem Kz{B2:List f}:∀{B1 X:List f},(∀b∈B2,∀x∈X,le x b=true)->Oc X (B1++B2) le=Oc X B1 le++B2|[],X,h=>by have:=mg_l (A2:=[]) λy d a c=>h a c y d;simpa using this|b::B1,[],_=>by simp|b::B1,x::X,h=>by rw[zBy,zB8,zB8];split;{rw[<-zBy,Kz λa c z e=>h a c z (by simp[e])];rfl};rw[Kz h];rfl
end
noncomputable def gal:Bool->N5->Array N5->Nat->Nat->Nat->StateT N6 Sem (Option Nat):=sortPriv% PySem.Builtin.gallop
def bey(l:Bool)(key:N5)(arr:Array N5)(i:Nat):StateT N6 Sem (Option Bool):=do
 let x<-elem' arr i
 if l then lt' x key else return (<- lt' key x).map (!·)
theorem qbc4(l:Bool)(key:N5)(arr:Array N5)(bs n g:Nat):gal l key arr bs n g=(do
 let mut p:=0
 let mut o:=1
 let mut u:=0
 let mut v:=0
 let some t<-bey l key arr (bs+g)|return none
 if t then
   let mo:=n-g
   for _ in [0:n] do
     if o ≥ mo then break
     let some c<-bey l key arr (bs+(g+o))|return none
     if !c then break
     p:=o
     o:=2*o+1
   u:=g+p+1
   v:=g+min o mo
 else
   let mo:=g+1
   for _ in [0:n] do
     if o ≥ mo then break
     let some c<-bey l key arr (bs+(g-o))|return none
     if c then break
     p:=o
     o:=2*o+1
   u:=g+1-min o mo
   v:=g-p
 for _ in [0:n] do
   if u ≥ v then break
   let m:=u+(v-u)/2
   let some c<-bey l key arr (bs+m)|return none
   if c then u:=m+1 else v:=m
 return some v):=rfl
section
variable{M:Model}{A:Nv}{E:V'->Sh->Prop}{s:Sh}{l n o:Type}{Q:o->l->Prop}{m:l}
theorem gB{f:l->StateT l Sem o}(h:wpS M A E s (f m) Q m):wpS M A E s (get >>= f) Q m:=Nz (wpS_get h)
theorem rB{f:Unit->StateT l Sem o}(h:wpS M A E s (f ()) Q m):wpS M A E s (liftM (rule t) >>= f) Q m:=Nz (wpS_lift (Nm ⟨rfl,h⟩))
theorem fB{f:Nat->n->StateT l Sem (ForInStep n)}(I:Nat->n->l->Prop)(R:n->l->Prop)(h1:∀F,f=F->∀i c m,a<=i->i<b->I i c m->∀K:ForInStep n->l->Prop,(∀e d,R e d->K (.done e) d)->(∀e d,I (i+1) e d->K (.yield e) d)->wpS M A E s (F i c) K m)(h2:∀c m,I (max a b) c m->R c m)(j:I a c m)(k:∀F,g=F->∀c m,R c m->wpS M A E s (F c) Q m):wpS M A E s (forIn [a:b] c f >>= g) Q m:=Nz (wpS_mono (wpS_forRange I (λi c m x y z=>h1 f rfl i c m x y z _ (λ_ _ h=>h) λ_ _ h=>h) h2 j) (k g rfl))
end
structure Od(lt:N5->N5->Bool):Prop where
 as:∀x y,lt x y=true->lt y x=false
 tr:∀x y z,lt y x=false->lt z y=false->lt z x=false
def Cm(prog:Nu)(w:Nw)(A:Nv)(s:Sh)(kd:SortKind)(P:N5->Prop)(lt:N5->N5->Bool):Prop:=∀x y,P x->P y->∀(E:V'->Sh->Prop)(Q:Bool->Sh->Prop),Q (lt x y) s->Nr (Nt prog w) A (keyLt' kd x.1 y.1) Q E s
section
variable{prog:Nu}{w:Nw}{A:Nv}{E:V'->Sh->Prop}{s:Sh}{kd:SortKind}{P:N5->Prop}{lt:N5->N5->Bool}{st:N6}
theorem Od.ir(h:Od lt)(x:N5):lt x x=false:=by cases e:lt x x with|false=>rfl|true=>rw[h.as x x e] at e;cases e
theorem wlt(a:Cm prog w A s kd P lt)(b:N7 st=kd)(c:P x)(d:P y)(h:Q (some (lt x y)) st):wpS (Nt prog w) A E s (lt' x y) Q st:=by rw[lt'_eq];refine gB ?_;rw[b];exact Nz (wpS_lift (wpAny_attempt (a x y c d _ _ ⟨rfl,N0 h⟩)))
theorem wel(hi:arr[i]?=some p)(h:Q p st):wpS (Nt prog w) A E s (elem' arr i) Q st:=by rw[elem'_eq,hi];exact N0 h
def B(lt:N5->N5->Bool)(l:Bool)(key x:N5):Bool:=if l then lt x key else !lt key x
theorem wif{α:Type}{c:Prop}[Decidable c]{m n:StateT N6 Sem α}{Q:α->N6->Prop}(h1:c->wpS (Nt prog w) A E s m Q st)(h2:¬c->wpS (Nt prog w) A E s n Q st):wpS (Nt prog w) A E s (if c then m else n) Q st:=by by_cases h:c;{rw[if_pos h];exact h1 h};rw[if_neg h];exact h2 h
section
variable{u v n x i g o p:Nat}
theorem l2o(o:Nat):o+1<=2*o+1:=⋯
theorem g1(c:¬u ≥ v)(h:v-u<=n-x):u+(v-u)/2<v/\v-(u+(v-u)/2+1)<=n-(x+1)/\u+(v-u)/2-u<=n-(x+1):=by
 have q:=Nat.div_lt_self (Nat.sub_pos_of_lt (Nat.lt_of_not_le c)) (zA3 2);generalize (v-u)/2=m at *
 have t:=Nat.sub_le_sub_right h 1;exact⟨Nat.add_lt_of_lt_sub' q,zA7 (Nat.sub_le_sub_left (zCj (Nat.le_add_right u m)) v) t,by rw[Nat.add_sub_cancel_left];exact zA7 (Nat.le_pred_of_lt q) t⟩
theorem g2(h:v-u<=n-max 0 n)(hi:i<v):i<u:=⋯
theorem g3(h:max 0 n+1<=o)(h':o<n-g):False:=⋯
theorem g8(h:max 0 n+1<=o)(a:g<n)(h':o<g+1):False:=⋯
theorem g4(h:p<o)(h':g+p<n):g+p+1<=g+min o (n-g)/\g+min o (n-g)<=n:=⋯
theorem g5(h:g+min o (n-g)<=i)(h':i<n):g+o<=i/\o<n-g:=⋯
theorem g6(h:p<o)(h':p<=g):g+1-min o (g+1)<=g-p:=⋯
theorem g7(h:i<g+1-min o (g+1)):i<=g-o/\o<g+1:=by by_cases c:o<g+1;{grind};rw[Nat.min_eq_right (zC4 c),Nat.sub_self] at h;exact absurd h (zC1 _)
end
theorem yB{β:Type}{x:N5}{i:Nat}{f:Option Bool->StateT N6 Sem β}{Q:β->N6->Prop}(a:Cm prog w A s kd P lt)(b:N7 st=kd)(hi:arr[i]?=some x)(c:P x)(d:P key)(h:B lt l key x=true->wpS (Nt prog w) A E s (f (some true)) Q st)(h':B lt l key x=false->wpS (Nt prog w) A E s (f (some false)) Q st):wpS (Nt prog w) A E s (bey l key arr i >>= f) Q st:=by
 have e:wpS (Nt prog w) A E s (f (some (B lt l key x))) Q st:=by cases e:B lt l key x with|true=>exact h e|false=>exact h' e
 refine Nz ?_;unfold bey;refine Nz (wel hi ?_);cases l with|true=>exact wlt a b c d e|false=>exact Nz (wlt a b d c (N0 e))
theorem wgal(O:Cm prog w A s kd P lt)(R:N7 st=kd)(S:P key)(T:∀i,i<n->arr[bs+i]?=some (f i))(U:∀i,i<n->P (f i))(hm:∀i j,i<=j->j<n->B lt l key (f j)=true->B lt l key (f i)=true)(J:g<n)(h:∀k,k<=n->(∀i,i<k->B lt l key (f i)=true)->(∀i,k<=i->i<n->B lt l key (f i)=false)->Q (some k) st):wpS (Nt prog w) A E s (gal l key arr bs n g) Q st:=by
 have L:∀i j,i<=j->j<n->B lt l key (f i)=false->B lt l key (f j)=false:=λi j a b c=>by cases e:B lt l key (f j) with|false=>rfl|true=>rw[hm i j a b e] at c;cases c
 have fin:∀u v,u<=v->v<=n->(∀i,i<u->B lt l key (f i)=true)->(∀i,v<=i->i<n->B lt l key (f i)=false)->wpS (Nt prog w) A E s (do
  let mut u:=u
  let mut v:=v
  for _ in [0:n] do
   if u ≥ v then break
   let m:=u+(v-u)/2
   let some c<-bey l key arr (bs+m)|return none
   if c then u:=m+1 else v:=m
  return some v) Q st:=by
  intro u v Z X a3 a4;refine fB (λx c d=>d=st/\c.1=none/\c.2.1<=c.2.2/\c.2.2<=n/\c.2.2-c.2.1<=n-x/\(∀i,i<c.2.1->B lt l key (f i)=true)/\(∀i,c.2.2<=i->i<n->B lt l key (f i)=false)) (λc d=>d=st/\c.1=none/\c.2.2<=n/\(∀i,i<c.2.2->B lt l key (f i)=true)/\(∀i,c.2.2<=i->i<n->B lt l key (f i)=false)) ?_ ?_ ⟨rfl,rfl,Z,X,zA7 (zCe v u) X,a3,a4⟩ ?_
  .rintro F z x ⟨_,u,v⟩ d-Y ⟨rfl,rfl,y,C,t,r,H⟩ K p q
   subst z;refine wif (λc=>N0 (p _ _ ⟨rfl,rfl,C,λi I=>r i (zAa I c),H⟩)) λc=>?_
   have m:=g1 (u:=u) (v:=v) c t;have V:=zAa m.1 C;exact yB O R (T _ V) (U _ V) S (λG=>N0 (q _ _ ⟨rfl,rfl,m.1,C,m.2.1,λi I=>hm i _ (zBz I) V G,H⟩)) λG=>N0 (q _ _ ⟨rfl,rfl,Nat.le_add_right _ _,zBc V,m.2.2,r,λi D M=>L _ i D M G⟩)
  .exact λc d ⟨N,D,y,C,t,r,H⟩=>⟨N,D,C,λi I=>r i (g2 t I),H⟩
  rintro F z ⟨_,u,v⟩ d ⟨rfl,rfl,C,r,H⟩;subst z;exact N0 (h v C r H)
 rw[qbc4];refine yB O R (T _ J) (U _ J) S (λW=>wif (λ_=>?_) λc=>absurd rfl c) λW=>wif (λc=>nomatch c) λ_=>?_;{refine fB (λx c d=>d=st/\c.1=none/\c.2.1<c.2.2/\x+1<=c.2.2/\g+c.2.1<n/\B lt l key (f (g+c.2.1))=true) (λc d=>d=st/\c.1=none/\c.2.1<c.2.2/\g+c.2.1<n/\B lt l key (f (g+c.2.1))=true/\(c.2.2<n-g->B lt l key (f (g+c.2.2))=false)) ?_ ?_ ⟨rfl,rfl,Nat.one_pos,zA3 _,J,W⟩ ?_;{rintro F z x ⟨_,p,o⟩ d-Y ⟨rfl,rfl,y,C,t,r⟩ K u v;subst z;refine wif (λc=>N0 (u _ _ ⟨rfl,rfl,y,t,r,λh=>absurd h (Nat.not_lt_of_le c)⟩)) λc=>?_;have m:g+o<n:=Nat.add_lt_of_lt_sub' (Nat.lt_of_not_le c);exact yB O R (T _ m) (U _ m) S (λG=>N0 (v _ _ ⟨rfl,rfl,l2o o,zA7 (zCj C) (l2o o),m,G⟩)) λG=>N0 (u _ _ ⟨rfl,rfl,y,t,r,λ_=>G⟩)};{exact λc d ⟨N,D,y,C,t,r⟩=>⟨N,D,y,t,r,λh=>(g3 C h).elim⟩};rintro F z ⟨_,p,o⟩ d ⟨rfl,rfl,y,t,r,H⟩;subst z;exact fin (g+p+1) (g+min o (n-g)) (g4 y t).1 (g4 y t).2 (λi I=>hm i _ (zBz I) t r) λi D M=>L (g+o) i (g5 D M).1 M (H (g5 D M).2)};refine fB (λx c d=>d=st/\c.1=none/\c.2.1<c.2.2/\x+1<=c.2.2/\c.2.1<=g/\B lt l key (f (g-c.2.1))=false) (λc d=>d=st/\c.1=none/\c.2.1<c.2.2/\c.2.1<=g/\B lt l key (f (g-c.2.1))=false/\(c.2.2<g+1->B lt l key (f (g-c.2.2))=true)) ?_ ?_ ⟨rfl,rfl,Nat.one_pos,zA3 _,zBg _,W⟩ ?_;{rintro F z x ⟨_,p,o⟩ d-Y ⟨rfl,rfl,y,C,t,r⟩ K u v;subst z;have m:g-o<n:=zC6 (zCe g o) J;exact wif (λc=>N0 (u _ _ ⟨rfl,rfl,y,t,r,λh=>absurd h (Nat.not_lt_of_le c)⟩)) λc=>yB O R (T _ m) (U _ m) S (λG=>N0 (u _ _ ⟨rfl,rfl,y,t,r,λ_=>G⟩)) λG=>N0 (v _ _ ⟨rfl,rfl,l2o o,zA7 (zCj C) (l2o o),zBz (Nat.lt_of_not_le c),G⟩)};{exact λc d ⟨N,D,y,C,t,r⟩=>⟨N,D,y,t,r,λh=>(g8 C J h).elim⟩};rintro F z ⟨_,p,o⟩ d ⟨rfl,rfl,y,t,r,H⟩;subst z;exact fin (g+1-min o (g+1)) (g-p) (g6 y t) (zA7 (zCe g p) (zBc J)) (λi I=>hm i (g-o) (g7 I).1 (zC6 (zCe g o) J) (H (g7 I).2)) λi D M=>L _ i D M r
end
noncomputable abbrev lee(lt:N5->N5->Bool):N5->N5->Bool:=λx y=>!lt y x
section
variable{d:Type}{le:d->d->Bool}
theorem Mn{A2 Y:List d}{y:d}:∀{A1:List d},(∀a∈A1,le a y=true)->Oc (A1++A2) (y::Y) le=A1++Oc A2 (y::Y) le|[],_=>rfl|x::A1,h=>by rw[zBy,zB8,if_pos (h x (by simp)),Mn λa b=>h a (by simp[b])];rfl
theorem Mo{B2 X:List d}{x:d}:∀{B1:List d},(∀b∈B1,le x b=false)->Oc (x::X) (B1++B2) le=B1++Oc (x::X) B2 le|[],_=>rfl|b::B1,h=>by rw[zBy,zB8,if_neg (by simp[h b (by simp)]),Mo λa c=>h a (by simp[c])];rfl
end
noncomputable def att(a:Array N5)(i:Nat):N5:=a.getD i (P0,P0)
theorem qS7(h:i<a.size):a[i]?=some (att a i):=by simp[att,Array.getD,h]
theorem G6(h:i<a.size):a.toList.drop i=att a i::a.toList.drop (i+1):=by rw[Oi (by simpa using h)];simp[att,Array.getD,h]
def Srt(lt:N5->N5->Bool)(f:Nat->N5)(n:Nat):Prop:=∀i j,i<=j->j<n->lt (f j) (f i)=false
theorem Srt.drop(h:Srt lt f n):Srt lt (λi=>f (k+i)) (n-k):=λi j a b=>h _ _ ⋯ ⋯
theorem qt4(h:x∈(a.toList.drop i).take k):∃j,j<k/\i+j<a.size/\x=att a (i+j):=by obtain⟨j,b,e⟩:=List.mem_iff_getElem.mp h;rw[zB6,zBx,zB7] at b;refine⟨j,⋯,⋯,?_⟩;rw[<-e,Pd,Pe];simp[att,Array.getD,show i+j<a.size by lia]
theorem qd5{a:Array N5}:(a.extract i j).toList=(a.toList.drop i).take (j-i):=by simp[List.take_drop]
section
variable{prog:Nu}{w:Nw}{A:Nv}{E:V'->Sh->Prop}{s:Sh}{kd:SortKind}{P:N5->Prop}{lt:N5->N5->Bool}{st:N6}
theorem wgs(b:Od lt)(f:Cm prog w A s kd P lt)(m:N7 st=kd)(o:P key)(hz:bs+n<=arr.size)(p:∀i,i<arr.size->P (att arr i))(q:Srt lt (λi=>att arr (bs+i)) n)(r:g<n)(h:∀k,k<=n->(∀i,i<k->B lt l key (att arr (bs+i))=true)->(∀i,k<=i->i<n->B lt l key (att arr (bs+i))=false)->Q (some k) st):wpS (Nt prog w) A E s (gal l key arr bs n g) Q st:=by
 refine wgal f m o (λi t=>qS7 ⋯) (λi t=>p _ ⋯) (λi j a u c=>?_) r h;have d:=q i j a u;cases l with
 |false=>
  have e:lt key (att arr (bs+j))=false:=by simpa[B] using c
  show (!lt key (att arr (bs+i)))=true;rw[b.tr _ _ _ d e];rfl
 |true=>show lt (att arr (bs+i)) key=true;cases e:lt (att arr (bs+i)) key with|true=>rfl|false=>have:=b.tr _ _ _ e d;rw[show lt (att arr (bs+j)) key=true from c] at this;grind
def R(st a:N6):Prop:=N7 a=N7 st/\N4 a=N4 st/\N1 a=N1 st/\N2 a=N2 st
noncomputable def mlo:Array N5->Array N5->StateT N6 Sem (Array N5):=sortPriv% PySem.Builtin.mergeLo
noncomputable def smg:Nat->StateT N6 Sem Unit:=sortPriv% PySem.Builtin.setMinGallop
theorem qba4(a b:Array N5):mlo a b=(do
 rule "list.sort.merge-lo"
 let tt:=a.size+b.size
 let dn (o:Array N5) (i j:Nat):=o++a.extract i a.size++b.extract j b.size
 let la (o:Array N5) (i j:Nat):=o++b.extract j b.size++a.extract i a.size
 let mut o:Array N5:=#[<-elem' b 0]
 let mut i:=0
 let mut j:=1
 if j==b.size then return dn o i j
 if i+1==a.size then return la o i j
 let mut g:=gallopOf (<- get)
 for _ in [0:tt] do
   let mut x:=0
   let mut y:=0
   for _ in [0:tt] do
     let some t<-lt' (<- elem' b j) (<- elem' a i)|return dn o i j
     if t then
       o:=o.push (<- elem' b j);j:=j+1;y:=y+1;x:=0
       if j==b.size then return dn o i j
       if y ≥ g then break
     else
       o:=o.push (<- elem' a i);i:=i+1;x:=x+1;y:=0
       if i+1==a.size then return la o i j
       if x ≥ g then break
   rule "list.sort.gallop"
   g:=g+1
   for _ in [0:tt] do
     if g>1 then g:=g-1
     smg g
     let some k<-gal false (<- elem' b j) a i (a.size-i) 0|return dn o i j
     x:=k
     if k>0 then
       o:=o++a.extract i (i+k);i:=i+k
       if i+1==a.size then return la o i j
       if i==a.size then return dn o i j
     o:=o.push (<- elem' b j);j:=j+1
     if j==b.size then return dn o i j
     let some k<-gal true (<- elem' a i) b j (b.size-j) 0|return dn o i j
     y:=k
     if k>0 then
       o:=o++b.extract j (j+k);j:=j+k
       if j==b.size then return dn o i j
     o:=o.push (<- elem' a i);i:=i+1
     if i+1==a.size then return la o i j
     if x<7&&y<7 then break
   g:=g+1
   smg g
 unsupported "internal:list.sort.merge-bound"):=rfl
def Eq2(lt:N5->N5->Bool)(a b o:Array N5)(i j:Nat):Prop:=o.toList++Oc (a.toList.drop i) (b.toList.drop j) (lee lt)=Oc a.toList b.toList (lee lt)
variable{a b o:Array N5}{i j k:Nat}
theorem Eq2.done(h:Eq2 lt a b o i j)(c:j=b.size∨i=a.size):(o++a.extract i a.size++b.extract j b.size).toList=Oc a.toList b.toList (lee lt):=by rw[<-h,zB2,zB2,qd5,qd5,zAs];congr 1;rw[zAq (by simp),zAq (by simp)];rcases c with rfl|rfl;{rw[show b.toList.drop b.size=[] by simp,zAi,Pi]};rw[show a.toList.drop a.size=[] by simp,zBh,Pn]
theorem Eq2.last(h:Eq2 lt a b o i j)(hi:i+1=a.size)(d:∀n,n<b.size->lt (att b n) (att a i)=true):(o++b.extract j b.size++a.extract i a.size).toList=Oc a.toList b.toList (lee lt):=by
 rw[<-h,zB2,zB2,qd5,qd5,zAs];congr 1;rw[zAq (by simp),zAq (by simp),G6 (i:=i) ⋯,show a.toList.drop (i+1)=[] from Op (by simp;lia)];have:=Mo (le:=lee lt) (B2:=[]) (X:=[]) (x:=att a i) (B1:=b.toList.drop j) λx c=>by rw[<-zAq (l:=b.toList.drop j) (zA3 _)] at c;obtain⟨n,_,e,rfl⟩:=qt4 c;simp[d _ e]
 rw[zAi] at this;rw[this];simp
theorem Eq2.pb(h:Eq2 lt a b o i j)(hi:i<a.size)(c:j<b.size)(d:lt (att b j) (att a i)=true):Eq2 lt a b (o.push (att b j)) i (j+1):=by unfold Eq2 at h ⊢;rw[<-h,Array.toList_push,zAs,G6 hi,G6 c,zB8,if_neg (by simp[d])];rfl
theorem Eq2.pa(h:Eq2 lt a b o i j)(hi:i<a.size)(c:j<b.size)(d:lt (att b j) (att a i)=false):Eq2 lt a b (o.push (att a i)) (i+1) j:=by unfold Eq2 at h ⊢;rw[<-h,Array.toList_push,zAs,G6 hi,G6 c,zB8,if_pos (by simp[d])];rfl
theorem Eq2.ga(h:Eq2 lt a b o i j)(c:j<b.size)(d:∀n,n<k->i+n<a.size->lt (att b j) (att a (i+n))=false):Eq2 lt a b (o++a.extract i (i+k)) (i+k) j:=by
 unfold Eq2 at h ⊢;rw[<-h,zB2,qd5,zAs,show i+k-i=k by lia,G6 c];congr 1;conv=>rhs;rw[<-zBf k (a.toList.drop i)]
 rw[Mn,O5];intro x e;obtain⟨n,f,g,rfl⟩:=qt4 e;simp[d n f g]
theorem Eq2.gb(h:Eq2 lt a b o i j)(hi:i<a.size)(c:∀n,n<k->j+n<b.size->lt (att b (j+n)) (att a i)=true):Eq2 lt a b (o++b.extract j (j+k)) i (j+k):=by
 unfold Eq2 at h ⊢;rw[<-h,zB2,qd5,zAs,show j+k-j=k by lia,G6 hi];congr 1;conv=>rhs;rw[<-zBf k (b.toList.drop j)]
 rw[Mo,O5];intro x d;obtain⟨n,e,f,rfl⟩:=qt4 d;simp[c n e f]
section
variable{β:Type}{Q:β->N6->Prop}
theorem eB{f:N5->StateT N6 Sem β}(hi:i<a.size)(h:wpS (Nt prog w) A E s (f (att a i)) Q st):wpS (Nt prog w) A E s (elem' a i >>= f) Q st:=Nz (wel (qS7 hi) h)
theorem lB{f:Option Bool->StateT N6 Sem β}(a:Cm prog w A s kd P lt)(b:N7 st=kd)(c:P x)(d:P y)(h:lt x y=true->wpS (Nt prog w) A E s (f (some true)) Q st)(h':lt x y=false->wpS (Nt prog w) A E s (f (some false)) Q st):wpS (Nt prog w) A E s (lt' x y >>= f) Q st:=Nz (wlt a b c d (by cases e:lt x y<;>simp_all))
theorem mB{a:N6}{f:Unit->StateT N6 Sem β}(c:R a st)(h:∀b,R a b->wpS (Nt prog w) A E s (f ()) Q b):wpS (Nt prog w) A E s (smg g >>= f) Q st:=Nz (N3 (h _ c))
theorem sB{f:Option Nat->StateT N6 Sem β}(e:Od lt)(g:Cm prog w A s kd P lt)(j:N7 st=kd)(m:P key)(n:∀i,i<arr.size->P (att arr i))(o:Srt lt (att arr) arr.size)(hz:bs<arr.size)(h:∀k,bs+k<=arr.size->(∀i,i<k->B lt l key (att arr (bs+i))=true)->(bs+k<arr.size->B lt l key (att arr (bs+k))=false)->wpS (Nt prog w) A E s (f (some k)) Q st):wpS (Nt prog w) A E s (gal l key arr bs (arr.size-bs) 0 >>= f) Q st:=Nz (wgs e g j m ⋯ n o.drop ⋯ λk a b c=>h k ⋯ b λd=>c k (zA3 _) ⋯)
end
theorem ltn{y:Nat}(h:¬(x==y)=true)(h':x<=y):x<y:=Nat.lt_of_le_of_ne h' λe=>h (zBl.mpr e)
theorem sa{i j:Nat}(h:x<=i+j):x+1<=i+1+j:=Nat.succ_add i j ▸ zCj h
theorem la{i j k:Nat}(h:x<=i+j):x<=i+(j+k):=⋯
theorem lb{i j k:Nat}(h:x<=i+j):x<=i+k+j:=⋯
theorem nt{b:Bool}(h:(!b)=true):b=false:=by grind
theorem nf{b:Bool}(h:(!b)=false):b=true:=by grind
theorem wmlo(hO:Od lt)(Y:Cm prog w A s kd P lt)(Z:N7 st=kd)(L:∀n,n<a.size->P (att a n))(M:∀n,n<b.size->P (att b n))(a0:Srt lt (att a) a.size)(a1:Srt lt (att b) b.size)(V:0<a.size)(N:0<b.size)(h0:lt (att b 0) (att a 0)=true)(hl:∀n,n<b.size->lt (att b n) (att a (a.size-1))=true)(h:∀r f,R st f->r.toList=Oc a.toList b.toList (lee lt)->Q r f):wpS (Nt prog w) A E s (mlo a b) Q st:=by
 have H:∀i,i+1=a.size->∀n,n<b.size->lt (att b n) (att a i)=true:=λi e n hn=>by rw[Nat.eq_sub_of_add_eq e];exact hl n hn
 have e1:Eq2 lt a b #[att b 0] 0 1:=Eq2.pb (o:=#[]) (i:=0) (j:=0) rfl V N h0;rw[qba4];refine rB (eB N (wif (λc=>N0 (h _ st ⟨rfl,rfl,rfl,rfl⟩ (e1.done (.inl (eq_of_beq c))))) λc1=>wif (λc=>N0 (h _ st ⟨rfl,rfl,rfl,rfl⟩ (e1.last (eq_of_beq c) (H 0 (eq_of_beq c))))) λc2=>gB ?_));let D (c:Option (Array N5)):Prop:=∃r,c=some r/\r.toList=Oc a.toList b.toList (lee lt)
 let G (n:Nat) (o:Array N5) (i j:Nat):Prop:=Eq2 lt a b o i j/\i+1<a.size/\j<b.size/\n<=i+j;refine fB (λx c f=>R st f/\c.1=none/\G (x+1) c.2.1 c.2.2.1 c.2.2.2.1) (λc f=>R st f/\D c.1) ?_ ?_ ⟨⟨rfl,rfl,rfl,rfl⟩,rfl,e1,ltn c2 V,ltn c1 N,zA3 _⟩ ?_
 .rintro F z x ⟨_,o,i,j,g⟩ O-hx ⟨W,rfl,g1,g2,g3,g4⟩ K p n;subst z;refine fB (λy c f=>R st f/\c.1=none/\G (x+1+y) c.2.1 c.2.2.1 c.2.2.2.1) (λc f=>R st f/\(D c.1∨c.1=none/\G (x+2) c.2.1 c.2.2.1 c.2.2.2.1)) ?_ ?_ ⟨W,rfl,g1,g2,g3,g4⟩ ?_;{rintro F z y ⟨_,o,i,j,_,_⟩ S-hy ⟨m,rfl,v,t,l,B⟩ K p n;subst z;have I:=zCa t;have k6:=zA7 (Nat.le_add_right (x+1) y) B;refine eB l (eB I (lB Y (m.1.trans Z) (M _ l) (L _ I) (λhb=>?_) λhb=>?_));{have e2:=v.pb I l hb;exact eB l (wif (λc=>N0 (p _ _ ⟨m,.inl ⟨_,rfl,e2.done (.inl (eq_of_beq c))⟩⟩)) λc=>wif (λ_=>N0 (p _ _ ⟨m,.inr ⟨rfl,e2,t,ltn c l,zCj k6⟩⟩)) λ_=>N0 (n _ _ ⟨m,rfl,e2,t,ltn c l,zCj B⟩))};have e2:=v.pa I l hb;exact eB I (wif (λc=>N0 (p _ _ ⟨m,.inl ⟨_,rfl,e2.last (eq_of_beq c) (H _ (eq_of_beq c))⟩⟩)) λc=>wif (λ_=>N0 (p _ _ ⟨m,.inr ⟨rfl,e2,ltn c t,l,sa k6⟩⟩)) λ_=>N0 (n _ _ ⟨m,rfl,e2,ltn c t,l,sa B⟩))};{rintro c S ⟨m,k0,v,t,l,B⟩;exact⟨m,.inr ⟨k0,v,t,l,⋯⟩⟩};rintro F z ⟨c,c'⟩ S ⟨m,⟨r,rfl,e⟩|⟨e,v,t,l,B⟩⟩;{subst z;exact N0 (p _ _ ⟨m,r,rfl,e⟩)};cases e;subst z;refine rB (fB (λy c f=>R st f/\c.1=none/\G (x+2) c.2.1 c.2.2.1 c.2.2.2.1) (λc f=>R st f/\(D c.1∨c.1=none/\G (x+2) c.2.1 c.2.2.1 c.2.2.2.1)) ?_ ?_ ⟨m,rfl,v,t,l,B⟩ ?_)
  .rintro F z y ⟨_,o,i,j,g,_,_⟩ a2-hy ⟨r3,rfl,v,t,l,B⟩ K p n;subst z;have I:=zCa t;dsimp -zeta only;extract_lets +onlyGivenNames _ _ _ _ _ _ _ _ _ _ _ _ J;suffices u:∀g,wpS (Nt prog w) A E s (J () g) K a2 from wif (λ_=>u _) λ_=>u _
   intro g;dsimp +zetaDelta -zeta only;refine mB r3 λT C=>eB l (sB hO Y (C.1.trans Z) (M _ l) L a0 I λk q1 q2 q3=>?_);dsimp -zeta only;extract_lets +onlyGivenNames _ J;have ea:=v.ga (k:=k) l λn h1 _=>nt (q2 n h1);suffices u:∀o i,Eq2 lt a b o i j->i+1<a.size->x+2<=i+j->lt (att b j) (att a i)=true->wpS (Nt prog w) A E s (J () o i) K T from wif (λc=>wif (λd=>N0 (p _ _ ⟨C,.inl ⟨_,rfl,ea.last (eq_of_beq d) (H _ (eq_of_beq d))⟩⟩)) λd=>wif (λX=>N0 (p _ _ ⟨C,.inl ⟨_,rfl,ea.done (.inr (eq_of_beq X))⟩⟩)) λX=>u _ _ ea (ltn d (ltn X q1)) (lb B) (nf (q3 (ltn X q1)))) λc=>by obtain rfl:=Nat.eq_zero_of_not_pos c;exact u _ _ v t B (nf (q3 I))
   intro o i e z1 zb z;dsimp +zetaDelta -zeta only;have U:=zCa z1;have e2:=e.pb U l z;refine eB l (wif (λd=>N0 (p _ _ ⟨C,.inl ⟨_,rfl,e2.done (.inl (eq_of_beq d))⟩⟩)) λd=>?_);have z2:=ltn d l;refine eB U (sB hO Y (C.1.trans Z) (L _ U) M a1 z2 λq p1 p2 p3=>?_);dsimp -zeta only;extract_lets +onlyGivenNames _ _ J;have eb:=e2.gb (k:=q) U λn h1 h2=>p2 n h1;suffices u:∀o j,Eq2 lt a b o i j->j<b.size->x+2<=i+j->lt (att b j) (att a i)=false->wpS (Nt prog w) A E s (J () o j) K T from wif (λc=>wif (λd=>N0 (p _ _ ⟨C,.inl ⟨_,rfl,eb.done (.inl (eq_of_beq d))⟩⟩)) λd=>u _ _ eb (ltn d p1) (la (la zb)) (p3 (ltn d p1))) λc=>by obtain rfl:=Nat.eq_zero_of_not_pos c;exact u _ _ e2 z2 (la zb) (p3 z2)
   intro o j e3 z3 zc z4;have z5:=e3.pa U z3 z4;refine eB U (wif (λd=>N0 (p _ _ ⟨C,.inl ⟨_,rfl,z5.last (eq_of_beq d) (H _ (eq_of_beq d))⟩⟩)) λd=>?_);exact wif (λ_=>N0 (p _ _ ⟨C,.inr ⟨rfl,z5,ltn d z1,z3,lb zc⟩⟩)) λ_=>N0 (n _ _ ⟨C,rfl,z5,ltn d z1,z3,lb zc⟩)
  {exact λ_ _ z=>⟨z.1,.inr z.2⟩};rintro F z ⟨c,c'⟩ S ⟨m,⟨r,rfl,e⟩|⟨e,v,t,l,B⟩⟩<;>subst z;{exact N0 (p _ _ ⟨m,r,rfl,e⟩)};cases e;exact mB m λT C=>N0 (n _ _ ⟨C,rfl,v,t,l,B⟩)
 {rintro c O ⟨W,_,g1,g2,g3,g4⟩;lia};rintro F z ⟨c,c'⟩ O ⟨W,r,rfl,e⟩;subst z;exact N0 (h r O W e)
end
section
variable{prog:Nu}{w:Nw}{A:Nv}{E:V'->Sh->Prop}{s:Sh}{kd:SortKind}{P:N5->Prop}{lt:N5->N5->Bool}{st:N6}
noncomputable def mhi:Array N5->Array N5->StateT N6 Sem (Array N5):=sortPriv% PySem.Builtin.mergeHi
theorem qba5(a b:Array N5):mhi a b=(do
 rule "list.sort.merge-hi"
 let tt:=a.size+b.size
 let dn (o:Array N5) (i j:Nat):=a.extract 0 i++b.extract 0 j++o.reverse
 let fb (o:Array N5) (i j:Nat):=b.extract 0 j++a.extract 0 i++o.reverse
 let mut i:=a.size-1
 let mut j:=b.size
 let mut o:Array N5:=#[<-elem' a i]
 if i==0 then return dn o i j
 if j==1 then return fb o i j
 let mut g:=gallopOf (<- get)
 for _ in [0:tt] do
   let mut x:=0
   let mut y:=0
   for _ in [0:tt] do
     let some t<-lt' (<- elem' b (j-1)) (<- elem' a (i-1))|return dn o i j
     if t then
       i:=i-1;o:=o.push (<- elem' a i);x:=x+1;y:=0
       if i==0 then return dn o i j
       if x ≥ g then break
     else
       j:=j-1;o:=o.push (<- elem' b j);y:=y+1;x:=0
       if j==1 then return fb o i j
       if y ≥ g then break
   rule "list.sort.gallop"
   g:=g+1
   for _ in [0:tt] do
     if g>1 then g:=g-1
     smg g
     let some q<-gal false (<- elem' b (j-1)) a 0 i (i-1)|return dn o i j
     let k:=i-q
     x:=k
     if k>0 then
       o:=o++(a.extract q i).reverse;i:=q
       if i==0 then return dn o i j
     j:=j-1;o:=o.push (<- elem' b j)
     if j==1 then return fb o i j
     let some q<-gal true (<- elem' a (i-1)) b 0 j (j-1)|return dn o i j
     let k:=j-q
     y:=k
     if k>0 then
       o:=o++(b.extract q j).reverse;j:=q
       if j==1 then return fb o i j
       if j==0 then return dn o i j
     i:=i-1;o:=o.push (<- elem' a i)
     if i==0 then return dn o i j
     if x<7&&y<7 then break
   g:=g+1
   smg g
 unsupported "internal:list.sort.merge-bound"):=rfl
def Eq3(lt:N5->N5->Bool)(a b o:Array N5)(i j:Nat):Prop:=Oc (a.toList.take i) (b.toList.take j) (lee lt)++o.toList.reverse=Oc a.toList b.toList (lee lt)
variable{a b o:Array N5}{i j k:Nat}
theorem Mp{a:Array N5}{k:Nat}(h:x∈a.toList.take k):∃j,j<k/\j<a.size/\x=att a j:=by obtain⟨j,b,c,e⟩:=qt4 (i:=0) (by simpa using h);exact⟨j,b,⋯,by rw[e,zAo]⟩
theorem qab6{a:Array N5}{i:Nat}(h:q<=i):a.toList.take i=a.toList.take q++(a.extract q i).toList:=by rw[qd5];conv=>lhs;rw[show i=q+(i-q) by lia,Pu]
theorem ext1{a:Array N5}{i:Nat}(h:0<i)(hi:i<=a.size):(a.extract (i-1) i).toList=[att a (i-1)]:=by rw[qd5,G6 ⋯,show i-(i-1)=1 by lia];rfl
theorem Eq3.done(h:Eq3 lt a b o i j)(c:i=0∨j=0):(a.extract 0 i++b.extract 0 j++o.reverse).toList=Oc a.toList b.toList (lee lt):=by rw[<-h,zB2,zB2,qd5,qd5,Array.toList_reverse];congr 1;rcases c with rfl|rfl;{simp};simp
theorem Eq3.first(h:Eq3 lt a b o i j)(c:j=1)(k:0<b.size)(d:∀n,n<a.size->lt (att b 0) (att a n)=true):(b.extract 0 j++a.extract 0 i++o.reverse).toList=Oc a.toList b.toList (lee lt):=by
 rw[<-h,zB2,zB2,qd5,qd5,Array.toList_reverse];congr 1;subst c;have:=mg_r (le:=lee lt) (B2:=[]) (B1:=b.toList.take 1) (X:=a.toList.take i) λy e x f=>by obtain⟨n,_,g,rfl⟩:=Mp f;obtain⟨m,l,p,rfl⟩:=Mp e;obtain rfl:m=0:=⋯;simp[d _ g]
 rw[zAi] at this;rw[this];simp
theorem Eq3.ga(h:Eq3 lt a b o i j)(f:Od lt)(c:Srt lt (att b) b.size)(g:q<=i)(s:0<j)(k:j<=b.size)(l:∀n,q<=n->n<i->n<a.size->lt (att b (j-1)) (att a n)=true):Eq3 lt a b (o++(a.extract q i).reverse) q j:=by unfold Eq3 at h ⊢;rw[<-h,qab6 g,Mm];{simp};intro x d y p;rw[qd5] at d;obtain⟨n,t,r,rfl⟩:=qt4 d;obtain⟨m,u,v,rfl⟩:=Mp p;have e:=l (q+n) ⋯ ⋯ r;show (!lt (att b m) (att a (q+n)))=false;cases e2:lt (att b m) (att a (q+n)) with|true=>rfl|false=>rw[f.tr _ _ _ e2 (c m (j-1) ⋯ ⋯)] at e;cases e
theorem Eq3.gb(h:Eq3 lt a b o i j)(e:Od lt)(c:Srt lt (att a) a.size)(f:q<=j)(hi:0<i)(g:i<=a.size)(k:∀n,q<=n->n<j->n<b.size->lt (att b n) (att a (i-1))=false):Eq3 lt a b (o++(b.extract q j).reverse) i q:=by unfold Eq3 at h ⊢;rw[<-h,qab6 f,Kz];{simp};intro y d x l;rw[qd5] at d;obtain⟨n,r,p,rfl⟩:=qt4 d;obtain⟨m,s,t,rfl⟩:=Mp l;show (!lt (att b (q+n)) (att a m))=true;rw[e.tr _ _ _ (c m (i-1) ⋯ ⋯) (k (q+n) ⋯ ⋯ p)];rfl
theorem Eq3.pa(h:Eq3 lt a b o i j)(f:Od lt)(c:Srt lt (att b) b.size)(hi:0<i)(d:i<=a.size)(g:0<j)(e:j<=b.size)(k:lt (att b (j-1)) (att a (i-1))=true):Eq3 lt a b (o.push (att a (i-1))) (i-1) j:=by
 have:=h.ga f c (q:=i-1) ⋯ g e λn l m _=>by rw[show n=i-1 by lia];exact k
 rwa[show o++(a.extract (i-1) i).reverse=o.push (att a (i-1)) from Array.toList_inj.mp (by rw[zB2,Array.toList_reverse,ext1 hi d,Array.toList_push];rfl)] at this
theorem Eq3.pb(h:Eq3 lt a b o i j)(f:Od lt)(c:Srt lt (att a) a.size)(hi:0<i)(d:i<=a.size)(g:0<j)(e:j<=b.size)(k:lt (att b (j-1)) (att a (i-1))=false):Eq3 lt a b (o.push (att b (j-1))) i (j-1):=by
 have:=h.gb f c (q:=j-1) ⋯ hi d λn l m _=>by rw[show n=j-1 by lia];exact k
 rwa[show o++(b.extract (j-1) j).reverse=o.push (att b (j-1)) from Array.toList_inj.mp (by rw[zB2,Array.toList_reverse,ext1 g e,Array.toList_push];rfl)] at this
theorem pz(h:¬(x==0)=true):0<x:=Nat.pos_of_ne_zero λe=>h (zBl.mpr e)
theorem p1(h:¬(x==1)=true)(h':0<x):1<x:=Nat.lt_of_le_of_ne h' λe=>h (zBl.mpr e.symm)
theorem dy{i j:Nat}(h:x+y+i+j<=N):x+i+j<=N:=⋯
theorem lc{i j:Nat}(h:x+i+j<=N)(h':q<=i):x+q+j<=N:=⋯
theorem ld{i j:Nat}(h:x+i+j<=N)(h':q<=j):x+i+q<=N:=⋯
theorem mw{i j:Nat}(h:x+i+j<=N)(h':0<i):x+1+(i-1)+j<=N:=⋯
theorem mv{i j:Nat}(h:x+i+j<=N)(h':0<j):x+1+i+(j-1)<=N:=⋯
theorem sH{β:Type}{Q:β->N6->Prop}{n:Nat}{f:Option Nat->StateT N6 Sem β}(e:Od lt)(g:Cm prog w A s kd P lt)(m:N7 st=kd)(o:P key)(p:∀i,i<arr.size->P (att arr i))(r:Srt lt (att arr) arr.size)(t:0<n)(hz:n<=arr.size)(h:∀q,q<=n->(0<q->B lt l key (att arr (q-1))=true)->(∀i,q<=i->i<n->B lt l key (att arr i)=false)->wpS (Nt prog w) A E s (f (some q)) Q st):wpS (Nt prog w) A E s (gal l key arr 0 n (n-1) >>= f) Q st:=Nz (wgs e g m o ⋯ p (λi j a b=>r _ _ ⋯ ⋯) ⋯ λk a b c=>h k a (λd=>zAo (k-1) ▸ b _ (Nat.sub_one_lt_of_lt d)) λi x y=>zAo i ▸ c i x y)
theorem wmhi(S:Od lt)(hC:Cm prog w A s kd P lt)(hk:N7 st=kd)(W:∀n,n<a.size->P (att a n))(X:∀n,n<b.size->P (att b n))(T:Srt lt (att a) a.size)(L:Srt lt (att b) b.size)(Y:0<a.size)(B:0<b.size)(h0:∀n,n<a.size->lt (att b 0) (att a n)=true)(hl:lt (att b (b.size-1)) (att a (a.size-1))=true)(h:∀r f,R st f->r.toList=Oc a.toList b.toList (lee lt)->Q r f):wpS (Nt prog w) A E s (mhi a b) Q st:=by
 have e1:Eq3 lt a b #[att a (a.size-1)] (a.size-1) b.size:=Eq3.pa (o:=#[]) (i:=a.size) (j:=b.size) (by unfold Eq3;rw[show a.toList.take a.size=a.toList from zAq (zC7 zB7),show b.toList.take b.size=b.toList from zAq (zC7 zB7)];simp) S L Y (zA3 _) B (zA3 _) hl;rw[qba5];refine rB (eB (Nat.sub_one_lt_of_lt Y) (wif (λc=>N0 (h _ st ⟨rfl,rfl,rfl,rfl⟩ (e1.done (.inl (eq_of_beq c))))) λc1=>wif (λc=>N0 (h _ st ⟨rfl,rfl,rfl,rfl⟩ (e1.first (eq_of_beq c) B h0))) λc2=>gB ?_));let D (c:Option (Array N5)):Prop:=∃r,c=some r/\r.toList=Oc a.toList b.toList (lee lt)
 let G (n:Nat) (o:Array N5) (i j:Nat):Prop:=Eq3 lt a b o i j/\0<i/\i<=a.size/\1<j/\j<=b.size/\n+i+j<=a.size+b.size;refine fB (λx c f=>R st f/\c.1=none/\G (x+1) c.2.2.2.1 c.2.1 c.2.2.1) (λc f=>R st f/\D c.1) ?_ ?_ ⟨⟨rfl,rfl,rfl,rfl⟩,rfl,e1,pz c1,zCe _ _,p1 c2 B,zA3 _,mw (x:=0) ⋯ Y⟩ ?_
 .rintro F z x ⟨_,i,j,o,g⟩ Z-hx ⟨r1,rfl,g1,g2,g3,g4,g5,g6⟩ K p n;subst z;refine fB (λy c f=>R st f/\c.1=none/\G (x+1+y) c.2.2.2.1 c.2.1 c.2.2.1) (λc f=>R st f/\(D c.1∨c.1=none/\G (x+2) c.2.2.2.1 c.2.1 c.2.2.1)) ?_ ?_ ⟨r1,rfl,g1,g2,g3,g4,g5,g6⟩ ?_;{rintro F z y ⟨_,i,j,o,_,_⟩ a0-hy ⟨l,rfl,M,k,m,C,v,H⟩ K p n;subst z;have U:=zCa C;have N:=Nat.sub_one_lt_of_le k m;have I:=Nat.sub_one_lt_of_le U v;refine eB I (eB N (lB hC (l.1.trans hk) (X _ I) (W _ N) (λhb=>?_) λhb=>?_));{have e2:=M.pa S L k m U v hb;exact eB N (wif (λc=>N0 (p _ _ ⟨l,.inl ⟨_,rfl,e2.done (.inl (eq_of_beq c))⟩⟩)) λc=>wif (λ_=>N0 (p _ _ ⟨l,.inr ⟨rfl,e2,pz c,zBc N,C,v,mw (dy H) k⟩⟩)) λ_=>N0 (n _ _ ⟨l,rfl,e2,pz c,zBc N,C,v,mw H k⟩))};have e2:=M.pb S T k m U v hb;have y0:=Nat.sub_pos_of_lt C;exact eB I (wif (λc=>N0 (p _ _ ⟨l,.inl ⟨_,rfl,e2.first (eq_of_beq c) B h0⟩⟩)) λc=>wif (λ_=>N0 (p _ _ ⟨l,.inr ⟨rfl,e2,k,m,p1 c y0,zBc I,mv (dy H) U⟩⟩)) λ_=>N0 (n _ _ ⟨l,rfl,e2,k,m,p1 c y0,zBc I,mv H U⟩))};{rintro c a0 ⟨l,k0,M,k,m,C,v,H⟩;exact⟨l,.inr ⟨k0,M,k,m,C,v,⋯⟩⟩};rintro F z ⟨c,c'⟩ a0 ⟨l,⟨r,rfl,e⟩|⟨e,M,k,m,C,v,H⟩⟩;{subst z;exact N0 (p _ _ ⟨l,r,rfl,e⟩)};cases e;subst z;refine rB (fB (λy c f=>R st f/\c.1=none/\G (x+2) c.2.2.2.1 c.2.1 c.2.2.1) (λc f=>R st f/\(D c.1∨c.1=none/\G (x+2) c.2.2.2.1 c.2.1 c.2.2.1)) ?_ ?_ ⟨l,rfl,M,k,m,C,v,H⟩ ?_)
  .rintro F z y ⟨_,i,j,o,g,_,_⟩ a2-hy ⟨r3,rfl,M,k,m,C,v,H⟩ K p n;subst z;have U:=zCa C;have I:=Nat.sub_one_lt_of_le U v;have y0:=Nat.sub_pos_of_lt C;dsimp -zeta only;extract_lets +onlyGivenNames _ _ _ _ _ _ _ _ _ _ _ _ J;suffices u:∀g,wpS (Nt prog w) A E s (J () g) K a2 from wif (λ_=>u _) λ_=>u _
   intro g;dsimp +zetaDelta -zeta only;refine mB r3 λa1 O=>eB I (sH S hC (O.1.trans hk) (X _ I) W T k m λq V q2 q3=>?_);dsimp -zeta only;extract_lets +onlyGivenNames _ _ J;have ea:=M.ga S L V U v λn h1 h2 _=>nf (q3 n h1 h2);suffices u:∀i o,Eq3 lt a b o i j->0<i->i<=a.size->x+2+i+j<=a.size+b.size->lt (att b (j-1)) (att a (i-1))=false->wpS (Nt prog w) A E s (J () i o) K a1 from wif (λc=>wif (λd=>N0 (p _ _ ⟨O,.inl ⟨_,rfl,ea.done (.inl (eq_of_beq d))⟩⟩)) λd=>u _ _ ea (pz d) (zA7 V m) (lc H V) (nt (q2 (pz d)))) λc=>by obtain rfl:=Nat.le_antisymm V (Nat.le_of_sub_eq_zero (Nat.eq_zero_of_not_pos c));exact u _ _ M k m H (nt (q2 k))
   intro i o e z1 z2 zb z;dsimp +zetaDelta -zeta only;have N:=Nat.sub_one_lt_of_le z1 z2;have e2:=e.pb S T z1 z2 U v z;refine eB I (wif (λd=>N0 (p _ _ ⟨O,.inl ⟨_,rfl,e2.first (eq_of_beq d) B h0⟩⟩)) λd=>?_);refine eB N (sH S hC (O.1.trans hk) (W _ N) X L y0 (zBc I) λq V q2 q3=>?_);dsimp -zeta only;extract_lets +onlyGivenNames _ _ _ J;have eb:=e2.gb S T V z1 z2 λn h1 h2 _=>q3 n h1 h2;suffices u:∀j o,Eq3 lt a b o i j->1<j->j<=b.size->x+2+i+j<=a.size+b.size->lt (att b (j-1)) (att a (i-1))=true->wpS (Nt prog w) A E s (J () j o) K a1 from wif (λc=>wif (λd=>N0 (p _ _ ⟨O,.inl ⟨_,rfl,eb.first (eq_of_beq d) B h0⟩⟩)) λd=>wif (λt=>N0 (p _ _ ⟨O,.inl ⟨_,rfl,eb.done (.inr (eq_of_beq t))⟩⟩)) λt=>u _ _ eb (p1 d (pz t)) (zA7 V (zBc I)) (ld (ld zb (zCe _ 1)) V) (q2 (pz t))) λc=>by obtain rfl:=Nat.le_antisymm V (Nat.le_of_sub_eq_zero (Nat.eq_zero_of_not_pos c));exact u _ _ e2 (p1 d y0) (zBc I) (ld zb (zCe _ 1)) (q2 y0)
   intro j o e3 y1 y2 y5 y4;have e4:=e3.pa S L z1 z2 (zCa y1) y2 y4;exact eB N (wif (λd=>N0 (p _ _ ⟨O,.inl ⟨_,rfl,e4.done (.inl (eq_of_beq d))⟩⟩)) λd=>wif (λ_=>N0 (p _ _ ⟨O,.inr ⟨rfl,e4,pz d,zBc N,y1,y2,lc y5 (zCe _ 1)⟩⟩)) λ_=>N0 (n _ _ ⟨O,rfl,e4,pz d,zBc N,y1,y2,lc y5 (zCe _ 1)⟩))
  {exact λ_ _ z=>⟨z.1,.inr z.2⟩};rintro F z ⟨c,c'⟩ a0 ⟨l,⟨r,rfl,e⟩|⟨e,M,k,m,C,v,H⟩⟩<;>subst z;{exact N0 (p _ _ ⟨l,r,rfl,e⟩)};cases e;exact mB l λa1 O=>N0 (n _ _ ⟨O,rfl,M,k,m,C,v,H⟩)
 {rintro c Z ⟨r1,_,g1,g2,g3,g4,g5,g6⟩;lia};rintro F z ⟨c,c'⟩ Z ⟨r1,r,rfl,e⟩;subst z;exact N0 (h r Z r1 e)
end
theorem qn1(h:xs[i]?=ys[j]?):att xs i=att ys j:=by
 have e:∀(a:Array N5) k,att a k=(a[k]?).getD (P0,P0):=λa k=>by simp[att,Array.getD_eq_getD_getElem?]
 rw[e,e,h]
theorem qak7(a:src<xs.size)(b:d<=src)(k:Nat):att (bubble xs src d) k=if k=src-d then att xs src else if src-d<k/\k<=src then att xs (k-1) else att xs k:=by have e:=getElem?_bubble a d b k;split at e;{rw[if_pos (by assumption)];exact qn1 e};rw[if_neg (by assumption)];split at e;{rw[if_pos (by assumption)];exact qn1 e};rw[if_neg (by assumption)];exact qn1 e
theorem qak6(a:j<=xs.size)(k:Nat):att (mirror xs i j ((j-i)/2)) k=if i<=k/\k<j then att xs (i+j-1-k) else att xs k:=by have e:=getElem?_mirror_all (i:=i) a k;split at e;{rw[if_pos (by assumption)];exact qn1 e};rw[if_neg (by assumption)];exact qn1 e
theorem qax6(h:i<a.size):att a i∈a.toList:=by simp[att,Array.getD,h]
theorem Srt.more(h:Srt lt f x)(d:Od lt)(e:0<x->lt (f x) (f (x-1))=false):Srt lt f (x+1):=λi j a b=>by
 by_cases c:j<x
 .exact h i j a c
 obtain rfl:j=x:=⋯
 by_cases q:i=j
 .rw[q];exact d.ir _
 exact d.tr _ _ _ (h i (j-1) ⋯ ⋯) (e ⋯)
structure Bt(a0:Array N5)(lo:Nat)(st st':N6):Prop where
 kd:N7 st'=N7 st
 fl:N2 st'=N2 st
 pd:N1 st'=N1 st
 pm:(N4 st').Perm a0
 pr:∀i,i<lo->att (N4 st') i=att (N4 st) i
section
variable{prog:Nu}{w:Nw}{A:Nv}{E:V'->Sh->Prop}{s:Sh}{kd:SortKind}{lt:N5->N5->Bool}{Z W:N6}{Y:Array N5}{X:Nat}
theorem Bt.sz(h:Bt Y X Z W):(N4 W).size=Y.size:=h.pm.size_eq
theorem Bt.mem(h:Bt Y X Z W)(hi:i<Y.size):att (N4 W) i∈Y.toList:=(zBp.mp h.pm).mem_iff.mp (qax6 (by rw[h.sz];exact hi))
theorem Bt.set(h:Bt Y X Z W)(b:xs.Perm (N4 W))(c:∀i,i<X->att xs i=att (N4 W) i):Bt Y X Z (N8 W xs):=⟨h.kd,h.fl,h.pd,b.trans h.pm,λi a=>(c i a).trans (h.pr i a)⟩
abbrev Cn(prog:Nu)(w:Nw)(A:Nv)(s:Sh)(kd:SortKind)(Y:Array N5)(lt:N5->N5->Bool):Prop:=Cm prog w A s kd (λx=>x∈Y.toList) lt
theorem aB{β:Type}{i j:Nat}{Q:β->N6->Prop}{f:Option Bool->StateT N6 Sem β}(b:Cn prog w A s kd Y lt)(c:N7 Z=kd)(h:Bt Y X Z W)(hi:i<Y.size)(a:j<Y.size)(h':lt (att (N4 W) i) (att (N4 W) j)=true->wpS (Nt prog w) A E s (f (some true)) Q W)(d:lt (att (N4 W) i) (att (N4 W) j)=false->wpS (Nt prog w) A E s (f (some false)) Q W):wpS (Nt prog w) A E s (ltAt' i j >>= f) Q W:=by refine Nz ?_;rw[ltAt'_eq];refine gB (eB (by rw[h.sz];exact hi) (eB (by rw[h.sz];exact a) (wlt b (h.kd.trans c) (h.mem hi) (h.mem a) ?_)));cases e:lt (att (N4 W) i) (att (N4 W) j) with|true=>exact h' e|false=>exact d e
theorem wmv(h:Q () (N8 W (bubble (N4 W) p (p-q)))):wpS (Nt prog w) A E s (moveDown' p q) Q W:=by rw[moveDown'_eq];exact N3 h
theorem qaU5(h:p<xs.size)(a:q<=p)(hi:i<q):att (bubble xs p (p-q)) i=att xs i:=by rw[qak7 h (zCe _ _),Nat.sub_sub_self a,if_neg (zAj hi),if_neg λc=>Nat.lt_asymm hi c.1]
theorem qbd7(h:p<xs.size)(a:q<=p):att (bubble xs p (p-q)) q=att xs p:=by rw[qak7 h (zCe _ _),Nat.sub_sub_self a,if_pos rfl]
theorem qbd6(h:p<xs.size)(a:q<=p)(h1:q<=i)(h2:i<p):att (bubble xs p (p-q)) (i+1)=att xs i:=by rw[qak7 h (zCe _ _),Nat.sub_sub_self a,if_neg (Nat.ne_of_gt (Nat.lt_succ_of_le h1)),if_pos ⟨Nat.lt_succ_of_le h1,h2⟩,Nat.add_sub_cancel]
theorem qaJ9{F:Nat->N5}{l:Nat}(e:Od lt)(c:l<=k)(s2:∀i j,i<=j->j<k->lt (f j) (f i)=false)(g:∀i,i<l->lt x (f i)=false)(n:∀i,l<=i->i<k->lt (f i) x=false)(h1:∀i,i<l->F i=f i)(h2:F l=x)(d:∀i,l<=i->i<k->F (i+1)=f i)(i j:Nat)(a:i<=j)(o:j<k+1):lt (F j) (F i)=false:=by rcases Nat.lt_trichotomy j l with h|h|h;{rw[h1 j h,h1 i (zC6 a h)];exact s2 i j a (zAa h c)};{subst h;rw[h2];rcases Nat.lt_or_eq_of_le a with q|rfl;{rw[h1 i q];exact g i q};rw[h2];exact e.ir _};cases j with|zero=>exact absurd h (zC1 _)|succ m=>have b:=Nat.lt_of_succ_lt_succ o;rw[d m (zBz h) b];rcases Nat.lt_trichotomy i l with q|q|q;{rw[h1 i q];exact s2 i m (zA7 (zBc q) (zBz h)) b};{subst q;rw[h2];exact n m (zBz h) b};cases i with|zero=>exact absurd q (zC1 _)|succ p=>rw[d p (zBz q) (zC6 (Nat.le_of_succ_le_succ a) b)];exact s2 p m (Nat.le_of_succ_le_succ a) b
theorem wbin(D:Od lt)(J:Cn prog w A s kd Y lt)(L:N7 Z=kd)(U:X+n<=Y.size)(M:C<=n)(h1:1<=C)(N:Bt Y X Z W)(O:Srt lt (λi=>att (N4 W) (X+i)) C)(h:∀e,Bt Y X Z e->Srt lt (λi=>att (N4 e) (X+i)) n->Q true e):wpS (Nt prog w) A E s (binarySort' X n C) Q W:=by
 rw[binarySort'_eq];refine fB (λk c e=>c=(none,())/\Bt Y X Z e/\Srt lt (λi=>att (N4 e) (X+i)) (min k n)) (λc e=>c=(none,())/\Bt Y X Z e/\Srt lt (λi=>att (N4 e) (X+i)) n) ?_ ?_ ⟨rfl,N,λi j a b=>O i j a ⋯⟩ ?_
 .rintro F z k c f P R ⟨rfl,B,m⟩ K p q;subst z;rw[show min k n=k by lia] at m;refine fB (λx c e=>e=f/\∃l r,c=(none,l,r)/\l<=r/\r<=k/\r-l<=k-x/\(∀i,i<l->lt (att (N4 f) (X+k)) (att (N4 f) (X+i))=false)/\(∀i,r<=i->i<k->lt (att (N4 f) (X+i)) (att (N4 f) (X+k))=false)) (λc e=>e=f/\∃l,c=(none,l,l)/\l<=k/\(∀i,i<l->lt (att (N4 f) (X+k)) (att (N4 f) (X+i))=false)/\(∀i,l<=i->i<k->lt (att (N4 f) (X+i)) (att (N4 f) (X+k))=false)) ?_ ?_ ⟨rfl,0,k,rfl,⋯,⋯,⋯,λi o=>⋯,λi h1 I=>⋯⟩ ?_;{rintro F z x c g-V ⟨rfl,l,r,rfl,S,t,T,u,v⟩ K p q;subst z;dsimp only;refine wif (λd=>?_) λd=>?_;{obtain rfl:l=r:=⋯;exact N0 (p _ _ ⟨rfl,l,rfl,t,u,v⟩)};exact aB J L B ⋯ ⋯ (λG=>N0 (q _ _ ⟨rfl,l,_,rfl,⋯,⋯,⋯,u,λi h1 I=>D.tr _ _ _ (D.as _ _ G) (m _ _ h1 I)⟩)) λG=>N0 (q _ _ ⟨rfl,_,r,rfl,⋯,⋯,⋯,λi h1=>D.tr _ _ _ (m i _ ⋯ ⋯) G,v⟩)};{rintro c g ⟨rfl,l,r,rfl,S,t,T,u,v⟩;obtain rfl:l=r:=⋯;exact⟨rfl,l,rfl,t,u,v⟩};rintro F z c g ⟨rfl,l,rfl,t,u,v⟩;subst z;dsimp only;have z:X+k<(N4 g).size:=by rw[B.sz];lia
  have y:=Nat.add_le_add_left t X;refine Nz (wmv (N0 (q _ _ ⟨rfl,B.set (bubble_perm _ _ _) λi o=>?_,?_⟩)));{exact qaU5 z y (zAa o (Nat.le_add_right _ _))};rw[show min (k+1) n=k+1 by lia];exact qaJ9 D t m u v (λi o=>qaU5 z y (Nat.add_lt_add_left o X)) (qbd7 z y) λi o H=>qbd6 z y (Nat.add_le_add_left o X) (Nat.add_lt_add_left H X)
 {grind};rintro F z c f ⟨rfl,B,m⟩;subst z;exact N0 (h f B m)
def Ds(lt:N5->N5->Bool)(Y:Array N5):Prop:=Y.toList.Pairwise λx y=>lt x y=true∨lt y x=true
theorem Ds.at(h:Ds lt Y)(b:Bt Y X Z W)(c:i≠j)(hi:i<Y.size)(n:j<Y.size)(e:lt (att (N4 W) i) (att (N4 W) j)=false):lt (att (N4 W) j) (att (N4 W) i)=true:=by have d:=((zBp.mp b.pm).pairwise_iff λh=>h.symm).mpr h;rw[Ox] at d;have g:∀k,k<Y.size->∃a,(N4 W).toList[k]'a=att (N4 W) k:=λk a=>⟨by rw[zB7,b.sz];exact a,by simp[att,Array.getD,show k<(N4 W).size by rw[b.sz];exact a]⟩;obtain⟨f,l⟩:=g i hi;obtain⟨m,e2⟩:=g j n;rcases Nat.lt_or_gt_of_ne c with q|q;{have:=d i j f m q;rw[l,e2,e] at this;simpa using this};have:=d j i m f q;rw[l,e2,e] at this;simpa using this
theorem wcnt(v:Od lt)(D:Cn prog w A s kd Y lt)(M:Ds lt Y)(G:N7 Z=kd)(T:X+m<=Y.size)(h1:1<=m)(r:Bt Y X Z W)(h:∀n f,Bt Y X Z f->1<=n->n<=m->Srt lt (λi=>att (N4 f) (X+i)) n->Q (some n) f):wpS (Nt prog w) A E s (countRun' X m) Q W:=by
 rw[countRun'_eq];refine fB (λx c f=>f=W/\c=(none,x)/\Srt lt (λi=>att (N4 W) (X+i)) x) (λc f=>f=W/\∃n,c=(none,n)/\1<=n/\n<=m/\Srt lt (λi=>att (N4 W) (X+i)) n/\(n=m∨lt (att (N4 W) (X+n)) (att (N4 W) (X+n-1))=true)) ?_ ?_ ⟨rfl,rfl,λi j a b=>by rw[show i=j by lia];exact v.ir _⟩ ?_;{rintro F z x c g o N ⟨rfl,rfl,t⟩ K p q;subst z;exact aB D G r ⋯ ⋯ (λu=>N0 (p _ _ ⟨rfl,x,rfl,o,⋯,t,.inr u⟩)) λu=>N0 (q _ _ ⟨rfl,rfl,t.more v λ_=>by rw[<-Nat.add_sub_assoc o];exact u⟩)};{rintro c g ⟨rfl,rfl,t⟩;rw[show max 1 m=m by lia] at t ⊢;exact⟨rfl,m,rfl,h1,zA3 _,t,.inl rfl⟩};rintro F z c g ⟨rfl,n,rfl,J,L,t,d⟩;subst z;dsimp only;refine wif (λ_=>N0 (h n g r J L t)) λc=>?_;have d:=d.resolve_left (by simpa using c);refine wif (λP=>aB D G r ⋯ ⋯ (λ_=>N0 (h n g r J L t)) λe=>?_) λP=>?_;{rw[M.at r ⋯ ⋯ ⋯ (by rw[Nat.add_sub_assoc J];exact t 0 (n-1) ⋯ ⋯)] at e;cases e};obtain rfl:n=1:=⋯;simp at c;refine rB ?_;have O:Od λx y=>lt y x:=⟨λx y q=>v.as _ _ q,λx y z p q=>v.tr _ _ _ q p⟩;refine fB (λx c f=>f=g/\c=(none,x,0)/\Srt (λx y=>lt y x) (λi=>att (N4 g) (X+i)) x) (λc f=>f=g/\∃n,c=(none,n,0)/\2<=n/\n<=m/\Srt (λx y=>lt y x) (λi=>att (N4 g) (X+i)) n) ?_ ?_ ⟨rfl,rfl,?_⟩ ?_;{rintro F z x c l o N ⟨rfl,rfl,B⟩ K p q;subst z;exact aB D G r ⋯ ⋯ (λu=>wif (λ_=>wif (λc=>absurd c (zC5 0)) λ_=>N0 (q _ _ ⟨rfl,rfl,B.more O λ_=>by rw[<-Nat.add_sub_assoc ⋯];exact v.as _ _ u⟩)) λc=>absurd rfl c) λu=>aB D G r ⋯ ⋯ (λ_=>N0 (p _ _ ⟨rfl,x,rfl,o,⋯,B⟩)) λe=>by rw[M.at r ⋯ ⋯ ⋯ u] at e;cases e};{rintro c l ⟨rfl,rfl,B⟩;rw[show max (1+1) m=m by lia] at B ⊢;exact⟨rfl,m,rfl,⋯,zA3 _,B⟩};{refine Srt.more (λi j a b=>?_) O λ_=>v.as _ _ d;obtain rfl:i=j:=⋯;exact v.ir _};rintro F z c l ⟨rfl,n,rfl,J,L,B⟩;subst z;refine wif (λc=>absurd c (zC5 0)) λ_=>?_;dsimp only;have z:X+n<=(N4 l).size:=by rw[r.sz];lia
 have H:=r.set (mirror_perm (N4 l) X (X+n) ((X+n-X)/2)) λi U=>by rw[qak6 z,if_neg ⋯]
 refine Nz (wpS_reverse ?_);refine fB (λx c f=>f=N8 l (mirror (N4 l) X (X+n) ((X+n-X)/2))/\c=(none,x)/\Srt lt (λi=>att (N4 f) (X+i)) x) (λc f=>f=N8 l (mirror (N4 l) X (X+n) ((X+n-X)/2))/\∃k,c=(none,k)/\1<=k/\k<=m/\Srt lt (λi=>att (N4 f) (X+i)) k) ?_ ?_ ⟨rfl,rfl,λi j a b=>?_⟩ ?_;{rintro F z x c I o N ⟨rfl,rfl,C⟩ K p q;subst z;exact aB D G H ⋯ ⋯ (λ_=>N0 (p _ _ ⟨rfl,x,rfl,⋯,⋯,C⟩)) λu=>N0 (q _ _ ⟨rfl,rfl,C.more v λ_=>by rw[<-Nat.add_sub_assoc ⋯];exact u⟩)};{rintro c I ⟨rfl,rfl,C⟩;rw[show max n m=m by lia] at C ⊢;exact⟨rfl,m,rfl,⋯,zA3 _,C⟩};{show lt (att (mirror _ _ _ _) _) (att (mirror _ _ _ _) _)=false;rw[qak6 z,qak6 z,if_pos ⋯,if_pos ⋯];have:=B (n-1-j) (n-1-i) ⋯ ⋯;rw[show X+(X+n)-1-(X+j)=X+(n-1-j) by lia,show X+(X+n)-1-(X+i)=X+(n-1-i) by lia];exact this};rintro F z c I ⟨rfl,k,rfl,R,S,C⟩;subst z;exact N0 (h k _ H R S C)
end
theorem qba6(i:Nat):mergeAt' i=(do
 let s<-get
 let (some (p,n,pw),some (q,m,_)):=((N1 s)[i]?,(N1 s)[i+1]?)|unsupported "internal:list.sort.pending"
 set (N9 s (((N1 s).setIfInBounds i (p,n+m,pw)).eraseIdxIfInBounds (i+1)))
 let some k<-gal false (<- elem' (N4 s) q) (N4 s) p n 0|return false
 let (p,n):=(p+k,n-k)
 if n==0 then return true
 let some m<-gal true (<- elem' (N4 s) (p+n-1)) (N4 s) q m (m-1)|return false
 if m==0 then return true
 let x:=(N4 s).extract p q
 let y:=(N4 s).extract q (q+m)
 let r<-if n<=m then mlo x y else mhi x y
 modify λs=>N8 s (r.toList.zipIdx.foldl (λa (z,j)=>a.setIfInBounds (p+j) z) (N4 s))
 return (N2 (<- get)).isNone):=rfl
theorem wr{p:Nat}:∀(L:List N5)(n:Nat)(a:Array N5),p+n+L.length<=a.size->((L.zipIdx n).foldl (λ(a:Array N5)(z:N5×Nat)=>a.setIfInBounds (p+z.2) z.1) a).toList=a.toList.take (p+n)++L++a.toList.drop (p+n+L.length)
 |[],n,a,_=>by simp|x::L,n,a,h=>by
  rw[zAp] at h;rw[List.zipIdx_cons,Pj,wr L (n+1) _ (by rw[Array.size_setIfInBounds];lia),Array.toList_setIfInBounds,<-Nat.add_assoc,zAp,
   List.drop_set_of_lt ⋯,List.take_set,Og,show a.toList[p+n]?.toList=[att a (p+n)] from ?_,O4 _ _ (by simp;lia),show p+n+1+L.length=p+n+(L.length+1) by lia]
  {simp[show min (p+n) a.size=p+n by lia]};rw[Array.getElem?_toList,qS7 ⋯];rfl
theorem qax7(h:i+n<j)(b:j<=a.size):att (a.extract i j) n=att a (i+n):=qn1 (by rw[Array.getElem?_extract];rw[if_pos ⋯])
section
variable{prog:Nu}{w:Nw}{A:Nv}{E:V'->Sh->Prop}{s:Sh}{kd:SortKind}{lt:N5->N5->Bool}{st:N6}{a0:Array N5}
theorem wset(h:Q ⟨⟩ a):wpS (Nt prog w) A E s (set a:StateT N6 Sem PUnit) Q st:=by unfold wpS;rw[StateT.run_set];exact M7 ⟨rfl,h⟩
theorem wmat(G:Od lt)(I:Cn prog w A s kd a0 lt)(J:N7 st=kd)(K:N2 st=none)(Y:N1 st = #[(0,n,F),(n,m,pv)])(H:(N4 st).Perm a0)(Z:0<n)(hm:0<m)(hz:n+m=a0.size)(h1:Srt lt (att (N4 st)) n)(h2:Srt lt (λi=>att (N4 st) (n+i)) m)(h:∀u,N2 u=none->N1 u = #[(0,n+m,F)]->(N4 u).toList=Oc ((N4 st).toList.take n) ((N4 st).toList.drop n) (lee lt)->Q true u):wpS (Nt prog w) A E s (mergeAt' 0) Q st:=by
 have a1:(N4 st).size=n+m:=H.size_eq.trans hz.symm;have D:∀i,i<(N4 st).size->att (N4 st) i∈a0.toList:=λi C=>(zBp.mp H).mem_iff.mp (qax6 C);rw[qba6];refine gB ?_;rw[Y];have ep:(#[(0,n,F),(n,m,pv)].setIfInBounds 0 (0,n+m,F)).eraseIdxIfInBounds (0+1) = #[(0,n+m,F)]:=by simp[Array.eraseIdxIfInBounds]
 refine Nz (wset ?_);rw[ep];refine eB ⋯ (Nz (wgs G I J (D _ ⋯) ⋯ D (λi j a b=>by dsimp only;rw[zAo,zAo];exact h1 i j a b) Z λk S T N=>?_));simp only[zAo] at T N ⊢;have sD:(N4 st).toList.drop n=att (N4 st) n::(N4 st).toList.drop (n+1):=G6 ⋯;have O:Oc ((N4 st).toList.take n) ((N4 st).toList.drop n) (lee lt)=(N4 st).toList.take k++Oc (((N4 st).toList.drop k).take (n-k)) ((N4 st).toList.drop n) (lee lt):=by
  rw[<-List.drop_take,<-show ((N4 st).toList.take n).take k=(N4 st).toList.take k by rw[Po,Nat.min_eq_left S]];conv=>lhs;rw[<-zBf k ((N4 st).toList.take n)]
  rw[sD,Mn (le:=lee lt)];intro x L;rw[Po,Nat.min_eq_left S] at L;obtain⟨i,U,i2,rfl⟩:=Mp L;exact T i U
 refine wif (λc=>N0 (h _ K rfl ?_)) λc=>?_
 .obtain rfl:k=n:=by simp at c;lia
  rw[O,Nat.sub_self,Pq,Pn,zBf]
 have c:k<n:=by simp at c;lia
 rw[show k+(n-k)-1=n-1 by lia];refine eB ⋯ (Nz (wgs G I J (D _ ⋯) ⋯ D h2 ⋯ λv v1 v2 v3=>?_));have V:Oc (((N4 st).toList.drop k).take (n-k)) ((N4 st).toList.drop n) (lee lt)=Oc (((N4 st).toList.drop k).take (n-k)) (((N4 st).toList.drop n).take v) (lee lt)++(N4 st).toList.drop (n+v):=by
  conv=>lhs;rw[<-zBf v ((N4 st).toList.drop n)]
  rw[O5,Kz (le:=lee lt)];intro y W x L;obtain⟨i,U,i2,rfl⟩:=qt4 L;rw[<-zAq (l:=(N4 st).toList.drop (n+v)) (zA3 _)] at W;obtain⟨j,_,j2,rfl⟩:=qt4 W;have e1:=h1 (k+i) (n-1) ⋯ ⋯;have e2:lt (att (N4 st) (n+(v+j))) (att (N4 st) (n-1))=false:=v3 (v+j) ⋯ ⋯;rw[<-Nat.add_assoc] at e2;show (!lt _ _)=true;rw[G.tr _ _ _ e1 e2];rfl
 dsimp only;refine wif (λc=>N0 (h _ K rfl ?_)) λd=>?_
 .obtain rfl:v=0:=by simpa using c
  rw[O,V,Pq,Pi,Nat.add_zero,<-zAs,<-Pu,show k+(n-k)=n by lia,zBf]
 have d:0<v:=by simp at d;lia
 have P:((N4 st).extract k n).size=n-k:=by rw[Array.size_extract];lia
 have X:((N4 st).extract n (n+v)).size=v:=by rw[Array.size_extract];lia
 have g:∀i,i<n-k->att ((N4 st).extract k n) i=att (N4 st) (k+i):=λi C=>qax7 ⋯ ⋯;have o:∀i,i<v->att ((N4 st).extract n (n+v)) i=att (N4 st) (n+i):=λi C=>qax7 ⋯ ⋯;have post:∀(r:Array N5)(f:N6),R (N9 st #[(0,n+m,F)]) f->r.toList=Oc ((N4 st).extract k n).toList ((N4 st).extract n (n+v)).toList (lee lt)->wpS (Nt prog w) A E s (do
  modify λs=>N8 s (Ow (λ(a:Array N5)(x:N5×Nat)=>match x with|(z,j)=>a.setIfInBounds (k+j) z) (N4 s) r.toList.zipIdx)
  let t<-get
  pure (N2 t).isNone) Q f:=by
  intro r f M e;have len:r.toList.length=n-k+v:=by rw[e,List.length_merge,zB7,zB7,P,X]
  refine Nz (N3 (gB ?_));show wpS _ _ _ _ (pure (N2 f).isNone) Q _;rw[M.2.2.2];show wpS _ _ _ _ (pure (N2 st).isNone) Q _;rw[K];refine N0 (h _ (M.2.2.2.trans K) M.2.2.1 ?_);show (Ow _ (N4 f) _).toList=_;rw[show N4 f=N4 st from M.2.1];have q:=wr (p:=k) r.toList 0 (N4 st) ⋯;rw[Nat.add_zero,len,show k+(n-k+v)=n+v by lia,e,qd5,qd5,show n+v-n=v by lia,zAs,<-V,<-O] at q;rw[e,qd5,qd5,show n+v-n=v by lia];exact q
 refine wif (λ_=>Nz (wmlo G I J (λi C=>?_) (λi C=>?_) (λi j a b=>?_) (λi j a b=>?_) ⋯ ⋯ ?_ (λi C=>?_) post)) λ_=>Nz (wmhi G I J (λi C=>?_) (λi C=>?_) (λi j a b=>?_) (λi j a b=>?_) ⋯ ⋯ (λi C=>?_) ?_ post);{rw[g i ⋯];exact D _ ⋯};{rw[o i ⋯];exact D _ ⋯};{rw[g i ⋯,g j ⋯];exact h1 _ _ ⋯ ⋯};{rw[o i ⋯,o j ⋯];exact h2 _ _ ⋯ ⋯};{rw[g 0 ⋯,o 0 ⋯];simpa[B] using N k (zA3 _) c};{rw[P,g _ ⋯,o i ⋯,show k+(n-k-1)=n-1 by lia];exact v2 i ⋯};{rw[g i ⋯];exact D _ ⋯};{rw[o i ⋯];exact D _ ⋯};{rw[g i ⋯,g j ⋯];exact h1 _ _ ⋯ ⋯};{rw[o i ⋯,o j ⋯];exact h2 _ _ ⋯ ⋯};{rw[g i ⋯,o 0 ⋯];simpa[B] using N (k+i) ⋯ ⋯};rw[P,X,g _ ⋯,o _ ⋯,show k+(n-k-1)=n-1 by lia];exact v2 _ ⋯
end
section
variable{prog:Nu}{w:Nw}{A:Nv}{E:V'->Sh->Prop}{s:Sh}{kd:SortKind}{lt:N5->N5->Bool}{st:N6}{a0:Array N5}
theorem qaz4(a:Srt lt (λj=>att xs (i+j)) n)(hz:i+n<=xs.size):((xs.toList.drop i).take n).Pairwise λx y=>lee lt x y=true:=by
 rw[Ox];intro p q b c d;rw[zB6,zBx,zB7] at b c;have e:∀p (h:p<((xs.toList.drop i).take n).length),((xs.toList.drop i).take n)[p]=att xs (i+p):=λp h=>by rw[Pd,Pe];rw[zB6,zBx,zB7] at h;simp[att,Array.getD,show i+p<xs.size by lia]
 rw[e,e];show (!lt _ _)=true;rw[a p q ⋯ ⋯];rfl
def Ke(lt:N5->N5->Bool)(a0:Array N5)(st:N6):Prop:=(N4 st).toList.Perm a0.toList/\(N4 st).toList.Pairwise (λx y=>lee lt x y=true)/\N2 st=none
structure One(lt:N5->N5->Bool)(kd:SortKind)(a0:Array N5)(n:Nat)(st:N6):Prop where
 pm:(N4 st).Perm a0
 k:N7 st=kd
 f:N2 st=none
 p:N1 st = #[(0,n,0)]
 s:Srt lt (att (N4 st)) n
structure Two(lt:N5->N5->Bool)(kd:SortKind)(a0:Array N5)(n m pw:Nat)(st:N6):Prop where
 pm:(N4 st).Perm a0
 k:N7 st=kd
 f:N2 st=none
 p:N1 st = #[(0,n,pw),(n,m,0)]
 s:Srt lt (att (N4 st)) n
 t:Srt lt (λi=>att (N4 st) (n+i)) m
theorem One.fin(h:One lt kd a0 n st)(c:n=a0.size):Ke lt a0 st:=by refine⟨zBp.mp h.pm,?_,h.f⟩;have:=qaz4 (λi j a b=>by dsimp only;rw[zAo,zAo];exact h.s i j a b) (by rw[h.pm.size_eq];lia);rwa[Os,zAq (by rw[zB7,h.pm.size_eq];lia)] at this
theorem wrun(D:Od lt)(J:Cn prog w A s kd a0 lt)(T:Ds lt a0)(O:N7 st=kd)(hf:N2 st=none)(P:N1 st = #[])(L:(N4 st).Perm a0)(G:a0.size=64)(h:∀l,Ke lt a0 l->Q () l):wpS (Nt prog w) A E s sortRuns' Q st:=by
 rw[sortRuns'_eq];refine gB ?_;dsimp only;rw[L.size_eq.trans G];have hm:minRun' 64 64 0=32:=rfl;rw[hm];refine fB (λx c l=>(x=0/\c=(none,0)/\l=st)∨(x=1/\∃n,c=(none,n)/\32<=n/\n<=64/\One lt kd a0 n l)∨(2<=x/\c=(none,64)/\∃n m B,n+m=64/\0<n/\0<m/\Two lt kd a0 n m B l)) (λc l=>c=(none,64)/\(One lt kd a0 64 l∨∃n m B,n+m=64/\0<n/\0<m/\Two lt kd a0 n m B l)) ?_ ?_ (.inl ⟨rfl,rfl,rfl⟩) ?_
 .rintro F z x c u-hx (⟨rfl,rfl,rfl⟩|⟨rfl,n,rfl,I,n2,o⟩|⟨x2,rfl,n,m,B,e,I,R,o⟩) K p q<;>subst z
  .dsimp only;refine wif (λc=>absurd c ⋯) λ_=>?_;have S:Bt a0 0 u u:=⟨rfl,rfl,rfl,L,λ_ _=>rfl⟩;refine Nz (wcnt D J T O ⋯ ⋯ S λn r C I n2 M=>?_);have fin:∀k g,Bt a0 0 u g->32<=k->k<=64->Srt lt (λi=>att (N4 g) (0+i)) k->One lt kd a0 k (N9 g ((N1 g).push (0,k,0))):=λk g v _ _ H=>
    ⟨v.pm,v.kd.trans O,v.fl.trans hf,by show (N1 g).push _=_;rw[v.pd,P];rfl,λi j a b=>by have:=H i j a b;dsimp only at this;rwa[zAo,zAo] at this⟩
   refine wif (λc=>?_) λc=>?_;{refine rB ?_;refine Nz (wbin D J O ⋯ ⋯ I C M λg v H=>?_);refine wif (λc=>by cases c) λ_=>?_;refine gB ?_;rw[show (N1 g).back?=none by rw[v.pd,P];rfl];exact Nz (N3 (N0 (q _ _ (.inr (.inl ⟨rfl,_,rfl,⋯,⋯,fin _ g v ⋯ ⋯ H⟩)))))};refine gB ?_;rw[show (N1 r).back?=none by rw[C.pd,P];rfl];exact Nz (N3 (N0 (q _ _ (.inr (.inl ⟨rfl,_,rfl,⋯,⋯,by rw[zAo];exact fin _ r C ⋯ ⋯ M⟩)))))
  .dsimp only;refine wif (λc=>?_) λc=>?_;{obtain rfl:n=64:=⋯;exact N0 (p _ _ ⟨rfl,.inl o⟩)};have S:Bt a0 n u u:=⟨rfl,rfl,rfl,o.pm,λ_ _=>rfl⟩;refine Nz (wcnt D J T o.k ⋯ ⋯ S λk r C k1 k2 M=>?_);have U:∀q g,Bt a0 n u g->q=64-n->Srt lt (λi=>att (N4 g) (n+i)) q->∀B,Two lt kd a0 n q B (N9 (N9 g ((N1 g).modify ((N1 g).size-1) λx=>(x.fst,x.2.fst,B))) (((N1 g).modify ((N1 g).size-1) λx=>(x.fst,x.2.fst,B)).push (n,q,0))):=λq g v hq H B=>
    ⟨v.pm,v.kd.trans o.k,v.fl.trans o.f,by show ((N1 g).modify _ _).push _=_;rw[v.pd,o.p];rfl,λi j a b=>by show lt (att (N4 g) j) (att (N4 g) i)=false;rw[v.pr i ⋯,v.pr j b];exact o.s i j a b,H⟩
   have N:∀g,Bt a0 n u g->(N1 g).back?=some (0,n,0)/\¬(N1 g).size>1:=λg v=>by rw[v.pd,o.p];exact⟨rfl,zC5 1⟩
   refine wif (λd=>?_) λd=>?_;{refine rB ?_;refine Nz (wbin D J o.k ⋯ ⋯ k1 C M λg v H=>?_);refine wif (λc=>by cases c) λ_=>?_;refine gB ?_;rw[(N g v).1];refine fB (λx c l=>l=g/\c=(none,())) (λc l=>l=g/\c=(none,())) ?_ (λ_ _ h=>h) ⟨rfl,rfl⟩ ?_;{rintro F z x c y - - ⟨rfl,rfl⟩ K p q;subst z;refine gB ?_;rw[if_neg (N y v).2];exact N0 (p _ _ ⟨rfl,rfl⟩)};rintro F z c y ⟨rfl,rfl⟩;subst z;exact Nz (N3 (Nz (N3 (N0 (q _ _ (.inr (.inr ⟨zA3 2,by rw[show n+min (64-n) 32=64 by lia],n,_,_,⋯,⋯,⋯,U _ y v ⋯ H _⟩)))))))};refine gB ?_;rw[(N r C).1];refine fB (λx c l=>l=r/\c=(none,())) (λc l=>l=r/\c=(none,())) ?_ (λ_ _ h=>h) ⟨rfl,rfl⟩ ?_;{rintro F z x c y - - ⟨rfl,rfl⟩ K p q;subst z;refine gB ?_;rw[if_neg (N y C).2];exact N0 (p _ _ ⟨rfl,rfl⟩)};rintro F z c y ⟨rfl,rfl⟩;subst z;exact Nz (N3 (Nz (N3 (N0 (q _ _ (.inr (.inr ⟨zA3 2,by rw[show n+k=64 by lia],n,_,_,⋯,⋯,⋯,U _ y C ⋯ M _⟩)))))))
  dsimp only;exact wif (λ_=>N0 (p _ _ ⟨rfl,.inr ⟨n,m,B,e,I,R,o⟩⟩)) λc=>absurd (zA3 _) c
 {rintro c u (⟨V,_⟩|⟨V,_⟩|⟨x2,rfl,o⟩);{lia};{lia};exact⟨rfl,.inr o⟩};rintro F z c u ⟨rfl,o⟩;subst z;refine fB (λx c l=>c=(none,())/\(x=0/\l=u∨Ke lt a0 l/\(N1 l).size<=1)) (λc l=>c=(none,())/\Ke lt a0 l) ?_ ?_ ⟨rfl,.inl ⟨rfl,rfl⟩⟩ ?_;{rintro F t x c r - - ⟨rfl,⟨rfl,rfl⟩|⟨f,z⟩⟩ K W q'<;>subst t;{refine gB ?_;rcases o with o|⟨n,m,B,e,I,R,o⟩;{rw[if_pos (by rw[o.p];exact zA3 1)];exact N0 (W _ _ ⟨rfl,o.fin G.symm⟩)};rw[o.p];refine wif (λc=>absurd c (by simp)) λ_=>?_;refine Nz (wmat D J o.k o.f o.p o.pm I R ⋯ o.s o.t λg f3 p3 X=>?_);refine N0 (q' _ _ ⟨rfl,.inr ⟨⟨?_,?_,f3⟩,by rw[p3];exact zA3 1⟩⟩);{rw[X];have q:=List.merge_perm_append (le:=lee lt) (xs:=(N4 r).toList.take n) (ys:=(N4 r).toList.drop n);rw[zBf] at q;exact q.trans (zBp.mp o.pm)};rw[X];have sz:(N4 r).size=64:=o.pm.size_eq.trans G;refine List.pairwise_merge (λa b c Y Z=>?_) (λa b=>?_) _ _ ?_ ?_;{simp only[Bool.not_eq_true',lee] at Y Z ⊢;exact D.tr _ _ _ Y Z};{cases q:lt b a with|false=>simp[lee,q]|true=>simp[lee,q,D.as _ _ q]};{have:=qaz4 (i:=0) (n:=n) (xs:=N4 r) (λi j a b=>by dsimp only;rw[zAo,zAo];exact o.s i j a b) ⋯;rwa[Os] at this};have:=qaz4 o.t ⋯;rwa[zAq (by rw[zBx,zB7];lia)] at this};refine gB ?_;rw[if_pos z];exact N0 (W _ _ ⟨rfl,f⟩)};{rintro c r ⟨rfl,⟨V,_⟩|⟨f,z⟩⟩;{lia};exact⟨rfl,f⟩};rintro F z c r ⟨rfl,f⟩;subst z;exact N0 (h r f)
end
noncomputable def plt(p q:Int×Int):Bool:=decide (p.1<q.1∨p.1=q.1/\p.2<q.2)
def TP(h:Heap)(v:V')(p:Int×Int):Prop:=∃b t u o n,v=.ref b/\h.get? b=some o/\o.cls=.type "tuple" /\ o.data=.seq #[.int p.1 t,.int p.2 u] n
section
variable{prog:Nu}{w:Nw}{A:Nv}{E:V'->Sh->Prop}{s:Sh}{kd:SortKind}{lt:N5->N5->Bool}{X:N6}{U:Array N5}
theorem wrunS(D:Od lt)(G:Cn prog w A s kd U lt)(I:Ds lt U)(u:N7 X=kd)(J:N2 X=none)(v:N1 X = #[])(t:(N4 X).Perm U)(h2:2<=U.size)(y:U.size<64)(h:∀d,Ke lt U d->Q () d):wpS (Nt prog w) A E s sortRuns' Q X:=by
 rw[sortRuns'_eq];refine gB ?_;obtain⟨f,L⟩:∃f,U.size=f+1:=⟨U.size-1,⋯⟩;have M:minRun' U.size U.size 0=U.size:=by
  conv=>lhs;rw[show minRun' U.size=minRun' (f+1) by rw[L]]
  rw[minRun'_succ,if_pos y];rfl
 dsimp only;rw[t.size_eq,M];refine fB (λx c d=>(x=0/\c=(none,0)/\d=X)∨(1<=x/\c=(none,U.size)/\One lt kd U U.size d)) (λc d=>c=(none,U.size)/\One lt kd U U.size d) ?_ ?_ (.inl ⟨rfl,rfl,rfl⟩) ?_
 .rintro F z x c l-R (⟨rfl,rfl,rfl⟩|⟨N,rfl,o⟩) K p q<;>subst z
  .dsimp only;refine wif (λc=>absurd c ⋯) λ_=>?_;have O:Bt U 0 l l:=⟨rfl,rfl,rfl,t,λ_ _=>rfl⟩;refine Nz (wcnt D G I u ⋯ ⋯ O λn m B P S H=>?_);have fin:∀k g,k=U.size->Bt U 0 l g->Srt lt (λi=>att (N4 g) (0+i)) k->One lt kd U U.size (N9 g ((N1 g).push (0,k,0))):=λk g e r C=>
    ⟨r.pm,r.kd.trans u,r.fl.trans J,by show (N1 g).push _=_;rw[r.pd,v,e];rfl,λi j a b=>by have:=C i j a ⋯;dsimp only at this;rwa[zAo,zAo] at this⟩
   refine wif (λc=>?_) λc=>?_;{refine rB ?_;refine Nz (wbin D G u ⋯ ⋯ P B H λg r C=>?_);refine wif (λc=>by cases c) λ_=>?_;refine gB ?_;rw[show (N1 g).back?=none by rw[r.pd,v];rfl];exact Nz (N3 (N0 (q _ _ (.inr ⟨⋯,by rw[show 0+min (U.size-0) U.size=U.size by lia],fin _ g ⋯ r C⟩))))};refine gB ?_;rw[show (N1 m).back?=none by rw[B.pd,v];rfl];exact Nz (N3 (N0 (q _ _ (.inr ⟨⋯,by rw[show 0+n=U.size by lia],fin _ m ⋯ B H⟩))))
  dsimp only;exact wif (λ_=>N0 (p _ _ ⟨rfl,o⟩)) λc=>absurd (zA3 _) c
 {rintro c l (⟨T,_⟩|⟨N,rfl,o⟩);{lia};exact⟨rfl,o⟩};rintro F z c l ⟨rfl,o⟩;subst z;refine fB (λx c d=>c=(none,())/\d=l) (λc d=>c=(none,())/\d=l) ?_ (λ_ _ h=>h) ⟨rfl,rfl⟩ ?_;{rintro F z x c m - - ⟨rfl,rfl⟩ K p q;subst z;refine gB ?_;rw[if_pos (by rw[o.p];exact zA3 1)];exact N0 (p _ _ ⟨rfl,rfl⟩)};rintro F z c m ⟨rfl,rfl⟩;subst z;exact N0 (h m (o.fin rfl))
theorem cmpP{q:Int×Int}(f:TP s.heap x p)(g:TP s.heap y q)(h:Q (plt p q) s):Nr (Nt prog w) A (keyLt' (tuples' true) x y) Q E s:=by obtain⟨b,t,u,o,n,rfl,i,_,j⟩:=f;obtain⟨c,m,v,B,C,rfl,k,_,l⟩:=g;have z:∀r:Bool,r=plt p q->Q r s:=λr e=>e ▸ h;refine W.kat_lt i j k l (W.kat_cons (wpAny_eqBool_int (W.kat_go (λa=>W.kat_yes (W.kat_cons (wpAny_eqBool_int (W.kat_go (λd=>W.kat_yes (W.kat_nil (z _ ?_))) λd=>W.kat_no (W.kat_one _ _ (lt_int (z _ ?_))))))) λa=>W.kat_no (oneLt_int (z _ ?_)))));{simp at a d;simp[plt,a,d]};{simp at a d;simp[plt,a]};simp at a;simp[plt,a]
theorem TP.keep(t:TP h v p)(k:∀b o,h.get? b=some o->o.cls=.type "tuple" -> h'.get? b=some o):TP h' v p:=by obtain⟨b,t,u,o,n,rfl,c,a,d⟩:=t;exact⟨b,t,u,o,n,rfl,k _ _ c a,a,d⟩
end
def kl(kf:V'->Int×Int)(x y:N5):Bool:=plt (kf x.1) (kf y.1)
theorem kl_od(kf:V'->Int×Int):Od (kl kf):=⟨λx y h=>by simp[kl,plt] at h ⊢;lia,λx y z a b=>by simp[kl,plt] at a b ⊢;lia⟩
section
variable{prog:Nu}{w:Nw}{A:Nv}{E:V'->Sh->Prop}{s:Sh}
theorem kl_ds(c:(vs.map kf).Nodup):Ds (kl kf) (pairsOf vs):=by unfold Ds;rw[pairsOf_toList,show vs.zip vs=vs.map λv=>(v,v) by induction vs with|nil=>rfl|cons v vs d=>simp at c;rw[Ot,d c.2];rfl,zCd];unfold List.Nodup at c;rw[zCd] at c;refine c.imp λ{a b} h=>?_;have e:¬((kf a).1=(kf b).1/\(kf a).2=(kf b).2):=λq=>h (Prod.ext q.1 q.2);simp only[kl,plt,zCc];lia
theorem qan3(i:s.heap.get? a=some (seqObj "list" vs.toArray n))(D:vs.length<=64)(l:(vs.map kf).Nodup)(F:∀h',(∀b o,s.heap.get? b=some o->o.cls=.type "tuple" -> h'.get? b=some o)->2<=vs.length->(∀(Q':SortKind->Sh->Prop),Q' kd {s with heap:=h'}->Nr (Nt prog w) A (keyKind' vs.toArray) Q' E {s with heap:=h'})/\Cm prog w A {s with heap:=h'} kd (λx=>x.1∈vs) (kl kf))(h:∀g:List V',g.Perm vs->(g.map kf).Pairwise (λp q=>plt q p=false)->P (.done (.ret .none)) {s with heap:=sortedHeap s.heap a vs g.toArray}):Nr (Nt prog w) A (Builtin.«list.sort» ⟨[.ref a],[]⟩) P E s:=by
 have G:vs.toArray.size=vs.length:=zA4;have la:a<s.heap.objs.size:=zA9 i;obtain⟨m,r⟩:∃e,(s.heap.update a (Obj.mapSeq λ_=>#[])).get? a=some (seqObj "list" #[] e):=⟨_,get?_update_seq i λ_=>#[]⟩;have u:(((s.heap.update a (Obj.mapSeq λ_=>#[])).push (seqObj "tuple" vs.toArray 0)).push (seqObj "list" #[] 0)).get? a=some (seqObj "list" #[] m):=zA2 _ (zA2 _ r);have H:∀b o,s.heap.get? b=some o->o.cls=.type "tuple" -> (((s.heap.update a (Obj.mapSeq λ_=>#[])).push (seqObj "tuple" vs.toArray 0)).push (seqObj "list" #[] 0)).get? b=some o:=λb o q I=>by
  have J:b≠a:=λz=>by rw[z,i] at q;cases q;simp at I
  exact zA2 _ (zA2 _ (by rw[Heap.get?_update_ne _ _ _ _ J];exact q))
 rw[list_sort_plain];refine J' (listItems_at i rfl (J' (listUpdate_at i rfl (J' (seqEpoch_at r rfl (J' (wpAny_newTuple (J' (wpAny_newList (Nb ?_) (zBg _))) (by show vs.length<=_;rw[Ng];lia))))) (by rw[G,Ng];lia) (zBg _))));show Nr (Nt prog w) A _ P E {s with heap:=((s.heap.update a (Obj.mapSeq λ_=>#[])).push (seqObj "tuple" vs.toArray 0)).push (seqObj "list" #[] 0)};have last:∀d:N6,(N4 d).toList.Perm (pairsOf vs).toList->(N4 d).toList.Pairwise (λx y=>lee (kl kf) x y=true)->N2 d=none->P (.done (.ret .none)) {s with heap:=sortedHeap s.heap a vs ((N4 d).map (·.2))}/\((N4 d).map (·.2)).size<=M9+1:=λd j K _=>by
  rw[pairsOf_toList] at j;have B:∀p∈(N4 d).toList,p.1=p.2:=λp L=>(mem_zip_self (j.mem_iff.mp L)).1;have e2:((N4 d).map (·.2))=((N4 d).toList.map (·.2)).toArray:=Array.toList_inj.mp (by rw[Array.toList_map]);have pv:((N4 d).toList.map (·.2)).Perm vs:=by have:=j.map Prod.snd;rwa[List.map_snd_zip (zA3 _)] at this
  rw[e2];refine⟨h _ pv ?_,by rw[zA4,pv.length_eq,Ng];lia⟩;rw[zCn,zCd];refine(List.Pairwise.and_mem.mp K).imp λ{x y} ⟨M,N,q⟩=>?_;show plt (kf y.2) (kf x.2)=false;rw[<-B x M,<-B y N];simpa[lee,kl] using q
 have tail:∀d:N6,Ke (kl kf) (pairsOf vs) d->Nr (Nt prog w) A (do
  let t:=(<- seqEpoch a) != m
  Builtin.List.listUpdate (.ref a) λ_=>(N4 d).map (·.2)
  if let some e:=N2 d then rule "list.sort.comparison-raised";throw e
  if t then rule "list.sort.modified";raiseError "ValueError" "list modified during sort"
  ret .none) P E {s with heap:=((s.heap.update a (Obj.mapSeq λ_=>#[])).push (seqObj "tuple" vs.toArray 0)).push (seqObj "list" #[] 0)}:=λd f=>by
  have z:=last d f.1 f.2.1 f.2.2;refine J' (seqEpoch_at u rfl (J' (listUpdate_at u rfl ?_ (zBg _) z.2)));rw[f.2.2];simp only[bne_self_eq_false,Bool.false_eq_true,if_false];exact M7 z.1
 by_cases c:vs.toArray.size<2;{rw[if_pos c,if_pos c];refine J' (M7 ?_);dsimp only;rw[StateT.run_pure];refine J' (M7 (tail (SortSt.mk' general' (vs.toArray.zip vs.toArray) #[] 7 none) ⟨List.Perm.refl _,?_,rfl⟩));show (pairsOf vs).toList.Pairwise _;rw[pairsOf_toList];match vs,c with|[],_=>exact .nil|[v],_=>simp|_::_::_,c=>simp at c;lia};rw[if_neg c,if_neg c];obtain⟨O,Q⟩:=F _ H ⋯;refine J' (O _ ?_);have C:Cn prog w A {s with heap:=((s.heap.update a (Obj.mapSeq λ_=>#[])).push (seqObj "tuple" vs.toArray 0)).push (seqObj "list" #[] 0)} kd (pairsOf vs) (kl kf):=λx y R S=>Q x y (mem_zip_self (pairsOf_toList vs ▸ R)).2 (mem_zip_self (pairsOf_toList vs ▸ S)).2;have k:wpS (Nt prog w) A E {s with heap:=((s.heap.update a (Obj.mapSeq λ_=>#[])).push (seqObj "tuple" vs.toArray 0)).push (seqObj "list" #[] 0)} sortRuns' (λ_ d=>Ke (kl kf) (pairsOf vs) d) (SortSt.mk' kd (vs.toArray.zip vs.toArray) #[] 7 none):=by rcases Nat.lt_or_ge vs.length 64 with q|q;{exact wrunS (kl_od kf) C (kl_ds l) rfl rfl rfl (Array.Perm.refl _) (by rw[pairsOf_size];lia) (by rw[pairsOf_size];exact q) λ_ f=>f};exact wrun (kl_od kf) C (kl_ds l) rfl rfl rfl (Array.Perm.refl _) (by rw[pairsOf_size];lia) λ_ f=>f
 refine J' (Nl k ?_ λ_ _ e=>e);rintro⟨⟨⟩,d⟩ T ⟨rfl,f⟩;exact tail d f
theorem sorted6{l:γ}(g:s.heap.IsList l vs.toArray)(d:vs.length<=64)(i:(vs.map kf).Nodup)(j:∀(A:Nv)(E:V'->Sh->Prop) h',(∀b o,s.heap.get? b=some o->o.cls=.type "tuple" -> h'.get? b=some o)->2<=vs.length->(∀(Q':SortKind->Sh->Prop),Q' kd {s with heap:=h'}->Nr (Nt prog w) A (keyKind' vs.toArray) Q' E {s with heap:=h'})/\Cm prog w A {s with heap:=h'} kd (λx=>x.1∈vs) (kl kf))(h:∀a:List V',a.Perm vs->(a.map kf).Pairwise (λp q=>plt q p=false)->Q (.ref (s.heap.objs.size+1)) {s with heap:=sortedAll s.heap vs a.toArray}):Nr (Nt prog w) A (call (.builtin "sorted") [.ref l]) Q E s:=by
 refine Calls.call_function_entry kind_sorted plain_sorted entry_sorted (args_sorted1 _) ?_;unfold Builtin.«sorted»;refine J' (M7 (J' (collect_list g (J' (wpAny_newList ?_ (by rw[Ng];lia))) (by rw[Ng];lia))));have e:((s.heap.push (seqObj "list" #[] 0)).update s.heap.objs.size (Obj.mapSeq (·++vs.toArray))).objs.size=s.heap.objs.size+1:=by rw[Heap.size_update,size_push']
 have f:(((s.heap.push (seqObj "list" #[] 0)).update s.heap.objs.size (Obj.mapSeq (·++vs.toArray))).push (seqObj "list" vs.toArray 0)).get? (s.heap.objs.size+1)=some (seqObj "list" vs.toArray 0):=by rw[<-e];exact zAv _ rfl
 have m:∀b o,s.heap.get? b=some o->(((s.heap.push (seqObj "list" #[] 0)).update s.heap.objs.size (Obj.mapSeq (·++vs.toArray))).push (seqObj "list" vs.toArray 0)).get? b=some o:=λb o q=>
  zA2 _ (by rw[Heap.get?_update_ne _ _ _ _ (zAj (zA9 q))];exact zA2 _ q)
 rw[e];exact J' (Nb (wpAny_call_entry slot_list_sort ⟨_,f,rfl⟩ entry_list_sort (qan3 f d i (λh' k c=>j _ _ h' (λb o q n=>k b o (m _ _ q) n) c) λa r t=>⟨_,rfl,(M7 ⟨_,rfl,h a r t⟩)⟩) (args_list_sort _)))
end
end S6
namespace LV
open PySem L2 PyProof.Rows
variable{ps:List (Int×Int)}
abbrev Gs(ps:List (Int×Int)):List (Int×Int):=ps.mergeSort λp q=>!S6.plt q p
def PrA(H:Hp)(v:V)(p:Int×Int):Prop:=∃b,v=.ref b/\H b=some (.q [.int p.1,.int p.2])
noncomputable def kfh(h:Heap):V'->Int×Int
 |.ref b=>match h.get? b with|some o=>(match o.data with|.seq xs _=>(numOf (xs.getD 0 .none),numOf (xs.getD 1 .none))|_=>(0,0))|none=>(0,0)
 |_=>(0,0)
theorem qbb1(t:S6.TP h v p):kfh h v=p:=by obtain⟨b,t,u,o,n,rfl,a,d,c⟩:=t;simp only[kfh,a,c];rfl
noncomputable def vOf:V'->V|.ref b=>.ref b|_=>.non
section
variable{X:Cx}{Fx:List (γ×Obj)}{σ:List (Option V)}{H:Hp}{s:Sh}
theorem qaM6(I:Rk X Fx σ H s)(r:Ri vs its)(t:Paired (PrA H) vs ps):its.map (kfh s.heap)=ps/\∀u∈its,S6.TP s.heap u (kfh s.heap u)/\∃b,u=.ref b/\H b=some (.q [.int (kfh s.heap u).1,.int (kfh s.heap u).2]):=by
 induction t generalizing its with
 |nil=>cases r;exact⟨rfl,nofun⟩|@cons v p vs ps h t f=>
  cases r with
  |@cons _ u _ its ru rt=>
   obtain⟨b,rfl,c⟩:=h;cases ru;obtain⟨w,q,⟨o,g,i,n,j⟩,_⟩:=I.tuple (.inl (.inl c));have d:S6.TP s.heap (.ref b) p:=by obtain⟨x,y,rfl,⟨t1,rfl⟩,t2,rfl⟩:=Ri.two q;exact⟨b,t1,t2,o,n,rfl,g,i,j⟩
   have e:=qbb1 d;obtain⟨k,l⟩:=f rt;refine⟨by rw[zAw,e,k],λu a=>?_⟩;rcases zAl.mp a with rfl|a;{rw[e];exact⟨d,b,rfl,c⟩};exact l u a
theorem qau7{h:Heap}:∀{a:List V'},(∀u∈a,∃b,u=.ref b/\H b=some (.q [.int (kfh h u).1,.int (kfh h u).2]))->Ri (a.map vOf) a/\Paired (PrA H) (a.map vOf) (a.map (kfh h))|[],_=>⟨.nil,.nil⟩|u::a,k=>by obtain⟨b,rfl,d⟩:=k u zAb;have c:=qau7 λv e=>k v (zA6 _ e);exact⟨.cons rfl c.1,.cons ⟨b,rfl,d⟩ c.2⟩
theorem qT3{h:Heap}{kf:V'->Int×Int}:∀{its:List V'},(∀u∈its,S6.TP h u (kf u))->∃fs,W.KatTups h its fs/\fs.length=its.length/\∀f∈fs,∃i t,f=P1 i t|[],_=>⟨[],trivial,rfl,nofun⟩|u::its,k=>by obtain⟨fs,f1,f2,f3⟩:=qT3 λv c=>k v (zA6 _ c);obtain⟨b,t,w,o,n,rfl,d,e,g⟩:=k u zAb;refine⟨P1 _ t::fs,W.KatTups.cons d e g rfl f1,by rw[zAp,f2];rfl,λf a=>?_⟩;rcases zAl.mp a with rfl|a;{exact⟨_,_,rfl⟩};exact f3 f a
theorem qac6(ps:List (Int×Int)):(Gs ps).Pairwise λp q=>S6.plt q p=false:=by
 refine(List.pairwise_mergeSort (λa b c d e=>?_) (λa b=>?_) ps).imp λ{a b} h=>by simpa using h
 {simp[S6.plt] at d e ⊢;lia};simp[S6.plt];lia
theorem qaz7(d:c.Perm ps)(e:c.Pairwise λp q=>S6.plt q p=false):c=Gs ps:=by refine List.Perm.eq_of_pairwise (λa b _ _ f g=>?_) e (qac6 ps) (d.trans (O9 _ _).symm);simp[S6.plt] at f g;grind
def qaL2(K:Qe):List V->Hp->VK->Prop:=λxs H Q=>∃a vs ps,xs=[.ref a]/\SqL K H a vs/\Paired (PrA H) vs ps/\ps.Nodup/\ps.length<=64/\∀l b,H l=none->Paired (PrA H) b (Gs ps)->Q (.ref l) (upd H l (.l b))
theorem qak5:CallR X (.builtin "sorted") (qaL2 X.K):=by
 intro Fx s σ H S U Q I r h;obtain⟨a,V,Y,rfl,B,t,C,Z,q⟩:=h;obtain⟨u,rfl,D⟩:=B7 r;cases D;obtain⟨f,F,G,hz⟩:=I.list B;obtain⟨j,g⟩:=qaM6 I F t;have J:f.length<=64:=by have:=congrArg Of j;rw[zAk] at this;lia
 refine S6.sorted6 (kd:=tuples' true) G.isList J (by rw[j];exact C) (λA E h' k c=>⟨λQ' l=>?_,λx y L M E Q l=>?_⟩) λd m N=>?_;{obtain⟨fs,f1,f2,f3⟩:=qT3 λu n=>(g u n).1.keep k;refine W.kat_kind (T:=.type "int") f1 ⋯ (λv O=>?_) rfl l;obtain⟨i,t,rfl⟩:=f3 v O;exact W.Looks.of_pure rfl};{exact S6.cmpP ((g _ L).1.keep k) ((g _ M).1.keep k) l};obtain⟨P,p⟩:=qau7 λu n=>(g u (m.mem_iff.mp n)).2;obtain⟨e,R⟩:=sortedAll_at s.heap f d.toArray;rw[(qaz7 (j ▸ m.map _) N)] at p;refine⟨.ref _,_,I.laid (λb o z=>sortedAll_old z) (Nat.le_succ _) (show ObjOk X.prog X.w _ _ _ (.l (d.map vOf)) from⟨?_,d,e,P,R⟩),rfl,q _ _ (I.hok.fresh (Nat.le_succ _)) p⟩;rw[zAk,m.length_eq,Ng];lia
noncomputable def Lj:D->Option (Int×Int)|.q [.int a,.int b]=>some (a,b)|_=>none
noncomputable def prD2(p:Int×Int):D:=.q [.int p.1,.int p.2]
def qaw6(x:D):Option D:=match x with|.l _ ys=>(ys.mapM Lj).bind λps=>gd (ps.Nodup/\ps.length<=64) (.l false ((Gs ps).map prD2))|_=>none
theorem qae2:∀{ys:List D}{ps:List (Int×Int)},ys.mapM Lj=some ps->ys=ps.map prD2|[],ps,h=>by cases h;rfl|y::ys,ps,h=>by rw[Ps] at h;obtain⟨p,a,h⟩:=zA1.mp h;obtain⟨c,b,h⟩:=zA1.mp h;cases h;rw[zAw,qae2 b];congr 1;unfold Lj at a;split at a;{cases a;rfl};cases a
theorem qaM7{F:γ->Prop}{H:Hp}:∀{ps:List (Int×Int)}{vs:List V}{A:List γ},Rc F H vs (ps.map prD2) A->Paired (PrA H) vs ps|[],_,_,r=>by cases r;exact .nil|p::ps,_,_,r=>by cases r with|cons h t=>obtain⟨a,d,rfl,e,r⟩:=h.tup_inv;obtain⟨v,w,_,_,rfl,b,c,_⟩:=r.two_inv;rw[b.int_inv,c.int_inv] at e;exact .cons ⟨_,rfl,e⟩ (qaM7 t)
theorem qaB0{H:Hp}(t:Paired (PrA H) a ps):Rc F H a (ps.map prD2) []:=by induction t with|nil=>exact .nil|cons h t c=>obtain⟨b,rfl,d⟩:=h;exact .cons (.q d (.cons (.int _) (.cons (.int _) .nil))) c
theorem qaH6{K:Qe}:CS1 true (qaL2 K) qaw6:=by intro F H v x B d Q r h q;cases x with|l z n=>obtain⟨c,e,f⟩:=zA1.mp h;obtain⟨⟨g,i⟩,rfl⟩:=qi3 f;cases qae2 e;obtain⟨a,j,A,rfl,k,m,_⟩:=r.lst_inv;exact⟨a,j,c,rfl,.inl (.inl k),qaM7 m,g,i,λl o b t=>q _ _ [l] (qx9 b (qaB0 t)) (Same.new b) (qg7 b)⟩|_=>cases h
end
end LV
namespace LV
open PySem L2
mutual
def D.plain:D->Bool|.q ds=>D.plains ds|.l z ds=>!z&&D.plains ds|.non=>true | .bl _=>true | .int _=>true | .str _=>true|_=>false
def D.plains:List D->Bool|[]=>true|d::r=>d.plain&&D.plains r
end
end LV
namespace LV
open PySem L2 PyProof.Rows
section
variable{c:Vc}{X:Cx}{e:Nx}{o n:VT}{s:VSp}
def tOrT(o n:VT):VT:=λds Q xe=>o ds Q xe∨n ds Q xe
theorem eAlt(g:VE c X e o)(i:VE c X e n):VE c X e (tOrT o n):=by refine⟨λFx s l H Q I b=>?_,λd Q Q' f k j a=>Q9 (g.m _ _ _ _ _ j a) (i.m _ _ _ _ _ j a)⟩;obtain⟨F,d,A,f,S,a,q⟩:=b;rcases q with q|q;{exact g.h Fx s l H Q I ⟨F,d,A,f,S,a,q⟩};exact i.h Fx s l H Q I ⟨F,d,A,f,S,a,q⟩
end
end LV
namespace L2
open PySem PySem.Spec PyProof.Rows
def tHdM(M:γ->Option Bool)(j:Nat)(ts tr:γ->TS):γ->TS:=λa D d H=>∃C c b,H a=some (Be a C c false)/\M C=some b/\if b=true then ts a (qaI1 j D) (d.set j (some (.ref a))) H else tr a D d H
theorem Ro.u64(a:Ro cm k A):A.units+64<cLine:=a.units
theorem Ro.mark{cm:Bool}{k:Nat}{A:Nv}(r:Ro cm k A)(v:Option V'):Ro false k (A.mark v):=⟨λz=>(nomatch z),r.dp,r.un⟩
section
variable{X:Cx}
theorem hd_go{j:Nat}{y:Str}{pos:Pos}{b₀:Ny}{suite:List Ny}{rest:List ExceptHandler}{ts tr:γ->TS}{Fx:List (γ×Obj)}{s:Sh}{B:St}{H:Hp}{D:By}{a:γ}{n:Nat}{b:Bool}(d:X.N.Nodup)(i:∀a,PSs (Xh X a) (b₀::suite) (ts a))(k:PH X rest tr)(e:X.N[j]?=some y)(c:X.env.scope.names.lookup y=some .local)(I:Rk X Fx B H s)(F:Fly n H s.heap a)(O:Old X Fx n)(q:if b=true then ts a (qaI1 j D) (B.set j (some (.ref a))) H else tr a D B H):(match (Except.ok (if b then Flow.brk else Flow.next):Result) with
     |.ok .brk=>codeAny (Nt X.prog X.w) (X.A.mark (some (.ref a))) (.handlers (.ref a) [.ExceptHandler none (some y) (b₀::suite) pos] X.env) (λr s₂=>match r with
         |.ok f=>Nr (Nt X.prog X.w) X.A (do bindName X.env y .none;unbindBehindTheSuite X.env y pos) (λ_ s₃=>SP X Fx D f s₃) X.xe s₂
         |.error x=>cameBackBy (Nt X.prog X.w) X.A X.env X.xe x s₂) s
     |.ok _=>Nr (Nt X.prog X.w) X.A (handleBy (.ref a) X.env rest) (SP X Fx D) X.xe s
     |.error x=>cameBackBy (Nt X.prog X.w) X.A X.env X.xe x s):=by
 cases b with
 |false=>
   exact k Fx s B H D a n I F O q
 |true=>
   refine codeAny_handlers_suite_as (qaq8 I F O λo I1 F1=>?_);refine qD6 (X:=Xh X a) (v:=.ref a) I1.h d e (.inl c) rfl (λl I2=>?_) (.inr c);refine Nl (i a Fx l (B.set j (some (.ref a))) H (qaI1 j D) I2 q) (λf p z=>?_) λ_ _ z=>z.elim
   cases f with
   |next=>obtain⟨B',H',J,z⟩:=z;exact qV9 (J.unh I.ok) d e c λg J4=>⟨_,H',J4,z⟩
   |brk=>obtain⟨B',H',J,z⟩:=z;exact qV9 (J.unh I.ok) d e c λg J4=>⟨_,H',J4,z⟩
   |cont=>obtain⟨B',H',J,z⟩:=z;exact qV9 (J.unh I.ok) d e c λg J4=>⟨_,H',J4,z⟩
   |ret u=>obtain⟨v,B',H',J,m,z⟩:=z;exact qV9 (J.unh I.ok) d e c λg J4=>⟨v,_,H',J4,m,z⟩
theorem qaY0(j:Nat){x y:Str}{C':γ}{np pos:Pos}{b₀:Ny}{suite:List Ny}{rest:List ExceptHandler}{ts tr:γ->TS}(d:X.N.Nodup)(c:Exc X.K C')(hm:X.mg x=some (.ref C'))(e:∀a,PSs (Xh X a) (b₀::suite) (ts a))(f:PH X rest tr)(g:X.N[j]?=some y:=by rfl)(i:X.env.scope.names.lookup y=some .local:=by rfl)(k:Gl X x:=by rfl)(l:N' x:=by decide):PH X (.ExceptHandler (some (.Name x np)) (some y) (b₀::suite) pos::rest) (tHdM (λC=>W.mroIn X.K C (.ref C')) j ts tr):=by intro Fx s B H D a n I F O h;obtain⟨C,r,b,m,o,q⟩:=h;obtain⟨t,u,p1,p,_⟩:=qR8 I.hok m;refine wpAny_handleBy_cons (codeAny_handlers_test (qK5 I.h k hm ?_ l)) (by intro z;cases z);exact qar6 I.kIn c p1 p o (hd_go d e f g i I F O q)
end
end L2
namespace LV
open PySem L2
variable{H:Hp}{x:Str}
abbrev VH:=Exn->VTS
inductive K4(c:Vc)(t:VH)(a:γ)(E:By)(b:St)(H:Hp):Prop
 |mk (x:Exn) (F:γ->Prop) (ds:Ds) (A:List γ) (e:VEnds) (r:RepX F H a x) (S:Rn c F H b ds A) (l:Lk c E F H A e) (q:t x e ds):K4 c t a E b H
structure VHs(c:Vc)(X:Cx)(hs:List ExceptHandler)(t:VH):Prop where
 h:PH X hs (K4 c t)
 m:∀x (e e':VEnds) ds,e.Le e'->t x e ds->t x e' ds
section
variable{c:Vc}{X:Cx}{Y Z:Pos}{j:Nat}{R:VTS}{U:VH}{V:Ny}{L:List Ny}{rest:List ExceptHandler}{y:Str}{M:γ->Option Bool}
theorem PH.mono{b:List ExceptHandler}{t t':γ->TS}(h:PH X b t)(i:∀a D J H,t' a D J H->t a D J H):PH X b t':=λFx s J H D a n I F O q=>h Fx s J H D a n I F O (i a D J H q)
theorem vhnil:VHs c X [] (λ_ _ _=>False):=⟨PH.mono qaX9 λ_ _ _ _ ⟨_,_,_,_,_,_,_,_,q⟩=>q,λ_ _ _ _ _ z=>z⟩
noncomputable def Hw(e:VEnds):VEnds:=⟨λ_=>False,e.rt,λ_=>False,λ_=>False,λ_ _=>False⟩
noncomputable abbrev cNo(c:Vc):Vc:={c with E:=λ_ _ _ _=>False}
def hAs(M:γ->Option Bool)(j:Nat)(R:VTS)(U:VH):VH:=λx e ds=>x.fs≠[]/\∃b,M x.C=some b/\if b=true then R (Hw e) (ds.set j (.exn x.C x.fs)) else U x e ds
theorem RepX.rep{F:γ->Prop}{a:γ}{x:Exn}(r:RepX F H a x)(h:x.fs≠[]):Rj F H (.ref a) (.exn x.C x.fs) []:=by obtain⟨g,e,q|⟨i,b,rfl,c,d,f⟩⟩:=r;{exact absurd q h};exact .exn e c d f
theorem hAs_m{X':Cx}{st:List Ny}(f:VSs (cNo c) X' st R)(g:VHs c X rest U):∀x (e a:VEnds) ds,e.Le a->hAs M j R U x e ds->hAs M j R U x a ds:=λx e a ds d ⟨h,b,i,q⟩=>⟨h,b,i,qC5 (f.m (Hw e) (Hw a) _ ⟨λ_ z=>z,d.rt,λ_ z=>z,λ_ z=>z,λ_ _ z=>z⟩) (g.m x e a ds d) q⟩
theorem qbc3(k:c.W j=false){f:TS}(g:f=Hd (cNo c) R){a:γ}{D:By}{J:St}(m:j<J.length)(q:K4 c (hAs M j R U) a D J H):tHdM M j (λ_=>f) (K4 c U) a D J H:=by subst g;obtain⟨x,F,n,A,e,r,S,l,h,b,p,q⟩:=q;obtain⟨t,u,_⟩:=id r;refine⟨x.C,t,b,u,p,?_⟩;cases b with|false=>exact⟨x,F,n,A,e,r,S,l,q⟩|true=>obtain⟨A',S',w⟩:=S.store k m (r.rep h) (by simpa using S.ok);exact⟨F,_,A',Hw e,⟨S'.loc,S'.ok,S'.len,S'.ag⟩,⟨λ_ _ _ _ _ z=>z.elim,λd i v J' H' F' T A2 q r S2 o s=>l.rt d i v J' H' F' T A2 q r ⟨S2.loc,S2.ok,S2.len,S2.ag⟩ o (w.trans s),λ_ _ _ _ _ z=>z.elim,λ_ _ _ _ _ z=>z.elim,λ_ _ _ _ _ _ _ z=>z.elim⟩,q⟩
theorem Mq(j:Nat){C':γ}(f:X.N.Nodup)(ex:Exc X.K C')(hm:X.mg x=some (.ref C'))(b:∀a,VSs (cNo c) (Xh X a) (V::L) R)(d:VHs c X rest U)(g:c.W j=false:=by rfl)(e:X.N[j]?=some y:=by rfl)(i:X.env.scope.names.lookup y=some .local:=by rfl)(k:Gl X x:=by rfl)(l:N' x:=by decide):VHs c X (.ExceptHandler (some (.Name x Z)) (some y) (V::L) Y::rest) (hAs (λC=>W.mroIn X.K C (.ref C')) j R U):=⟨λFx s J H D a n I F O q=>qaY0 j f ex hm (λa=>(b a).h) d.h e i k l Fx s J H D a n I F O (qbc3 g rfl (qp0 e Fx J H s I) q),hAs_m (b 0) d⟩
def sTryW(t:VTS)(th:VH):VTS:=λe ds=>t {e with xe:=λx a=>th x e a} ds
theorem stryW{body:List Ny}{h₀:ExceptHandler}{o:List ExceptHandler}{t:VTS}{th:VH}(p:∀E xe f,Lands (Xt X xe f) E->VSs {c with E:=E} (Xt X xe f) body t)(s:VHs c X (h₀::o) th)(g:X.stack=X.env::X.outer:=by rfl)(i:X.env.frame=some X.env.locals:=by rfl):VS c X (.Try body (h₀::o) [] [] Y) (sTryW t th):=by refine⟨PS.mono (qaX5 (λE xe f w=>(p E xe f w).h) s.h g i) λD J H j=>?_,λe G u h=>(p (λ_ _ _ _=>False) (λ_ _=>True) [] λ_ _ _ _ _ _ _ _ _ z=>z.elim).m _ _ _ ⟨h.nx,h.rt,h.bk,h.ct,λx b=>s.m x _ _ _ h⟩⟩;obtain⟨F,u,A,e,S,l,q⟩:=j;refine⟨λJ' y _ H'=>∃x a b F' A',y=.ref a/\th x e b/\RepX F' H' a x/\Rn c F' H' J' b A'/\Rl F H A F' H' A',⟨F,u,A,_,⟨S.loc,S.ok,S.len,S.ag⟩,⟨?_,?_,?_,?_,?_⟩,q⟩,λa J' H' ⟨x,I,b,F',A',B,C,k,S',n⟩=>?_⟩;{exact λb J' H' F' A' q S'=>l.nx b J' H' F' A' q ⟨S'.loc,S'.ok,S'.len,S'.ag⟩};{exact λd b v J' H' F' T A' q r S'=>l.rt d b v J' H' F' T A' q r ⟨S'.loc,S'.ok,S'.len,S'.ag⟩};{exact λb J' H' F' A' q S'=>l.bk b J' H' F' A' q ⟨S'.loc,S'.ok,S'.len,S'.ag⟩};{exact λb J' H' F' A' q S'=>l.ct b J' H' F' A' q ⟨S'.loc,S'.ok,S'.len,S'.ag⟩};{exact λx b J' a H' F' A' q k S' n=>⟨x,a,b,F',A',rfl,q,k,⟨S'.loc,S'.ok,S'.len,S'.ag⟩,n⟩};cases B;exact⟨J',rfl,λ_ _ z=>z,x,F',b,A',e,k,S',l.step n,C⟩
end
section
variable{c:Vc}{X:Cx}{e e2:Nx}{W p:Pos}{own:Bool}{f:FV}
theorem Rj.exn_inv{F:γ->Prop}{v:V}{C:γ}{fs:List (Str×D)}{B:List γ}(r:Rj F H v (.exn C fs) B):∃a dx b,v=.ref a/\B=[]/\H a=some (Be a C (some dx) false)/\H dx=some (XD dx b)/\b.map (·.1)=fs.map (·.1)/\Rc F H (b.map (·.2)) (fs.map (·.2)) []:=by cases r with|exn h g e r=>exact⟨_,_,_,rfl,rfl,h,g,e,r⟩
def Mr(K:Qe)(f:FV)(u:V'):VT:=λds Q _=>orF (f ds) λd=>∃C fs b,d=.exn C fs/\IsX K C/\Qf K (.ref C) u=some b/\Q (.bl b) ds
theorem eisX{d:V}{u:V'}(hm:X.mg "isinstance"=none)(o:VV c X e own f)(t:PE X e2 (tC d))(w:Rh d u)(g:∀l,Rh d l->l=u)(y:Gl X "isinstance" := by rfl)(h1:M8 [e,e2] X.env=(false,eval e X.env)::M8 [e2] X.env:=by rfl)(h2:M8 [e2] X.env=(false,eval e2 X.env)::M8 [] X.env:=by rfl)(i:((backTo W (M8 [e2] X.env)).any λx=>x.1)=false:=by rfl):VE c X (.Call (.Name "isinstance" p) [e,e2] [] W) (Mr X.K f u):=by refine⟨PE.mono (cbi qaH8 hm (qf6 o.h (qf6 t qu3 h2) h1) y rfl ∅ ∅ h1 i) λU H Q j=>?_,λm Q Q' z D E _=>qa5 λd ⟨C,n,b,h1,h2,G,I⟩=>⟨C,n,b,h1,h2,G,E _ _ I⟩⟩;obtain⟨F,m,A,z,S,x,q⟩:=j;obtain⟨P,J,C,n,b,rfl,ix,L,q⟩:=qa8.mp q;refine⟨F,m,A,_,S,J,λv H1 B r s _=>?_⟩;obtain⟨a,M,k,rfl,rfl,N,O,_⟩:=r.exn_inv;exact⟨a,d,u,C,M,false,k,b,rfl,w,g,N,O,ix,L,q _ _ F [] A (.bl b) (S.same s) (S.same s).ok (.same s)⟩
theorem Gu(C':γ){np:Pos}(hm:X.mg "isinstance"=none)(d:VV c X e own f)(g:X.mg x=some (.ref C'))(h:Gl X "isinstance" := by rfl)(a:Gl X x:=by rfl)(i:N' x:=by decide)(h1:M8 [e,.Name x np] X.env=(false,eval e X.env)::M8 [.Name x np] X.env:=by rfl)(h2:M8 [.Name x np] X.env=(false,eval (.Name x np) X.env)::M8 [] X.env:=by rfl)(b:((backTo W (M8 [.Name x np] X.env)).any λx=>x.1)=false:=by rfl):VE c X (.Call (.Name "isinstance" p) [e,.Name x np] [] W) (Mr X.K f (.ref C')):=eisX hm d (qaN6 C' g a i) rfl (λ_ z=>z) h h1 h2 b
theorem eisXt(n:String){np:Pos}(hm:X.mg "isinstance"=none)(g:VV c X e own f)(a:X.mg x=none)(h:Gl X "isinstance" := by rfl)(b:Gl X x:=by rfl)(i:Nc x=some (.type n):=by rfl)(j:x ≠ "__name__" := by decide)(k:N' x:=by decide)(h1:M8 [e,.Name x np] X.env=(false,eval e X.env)::M8 [.Name x np] X.env:=by rfl)(h2:M8 [.Name x np] X.env=(false,eval (.Name x np) X.env)::M8 [] X.env:=by rfl)(d:((backTo W (M8 [.Name x np] X.env)).any λx=>x.1)=false:=by rfl):VE c X (.Call (.Name "isinstance" p) [e,.Name x np] [] W) (Mr X.K f (.type n)):=eisX hm g (qaO2 n a b i j k) rfl (λ_ z=>z) h h1 h2 d
def Ms(K:Qe)(f:FV)(fl:Str):VT:=λds Q _=>orF (f ds) λd=>∃C fs v,d=.exn C fs/\Exc K C/\qd1 K C fl/\fs.lookup fl=some v/\Q v ds
theorem Ix{fl:Str}{K:Qe}(k:X.K=K)(l:VV c X e own f)(m:Nf e fl X.env (eval e X.env)=eval e X.env:=by rfl):VE c X (.Attribute e fl W) (Ms K f fl):=by subst k;refine⟨PE.mono (qaN9 l.h m) λU H Q g=>?_,λj Q Q' o p t _=>qa5 λd ⟨C,i,v,u,w,y,z,D⟩=>⟨C,i,v,u,w,y,z,t _ _ D⟩⟩;obtain⟨F,j,A,o,S,x,q⟩:=g;obtain⟨T,E,C,i,d,rfl,G,n,I,q⟩:=qa8.mp q;refine⟨F,j,A,_,S,E,λv H1 B r s _=>?_⟩;obtain⟨a,J,b,rfl,rfl,L,M,N,O⟩:=r.exn_inv;obtain⟨v,P,R⟩:=qC3 b i N O I;exact⟨a,C,J,false,b,v,rfl,L,M,G,n,P,q _ _ F [] A R (S.same s) (S.same s).ok (.same s)⟩
theorem qy3{X':Cx}:Lands X' (cNo c).E:=λ_ _ _ _ _ _ _ _ _ z=>z.elim
end
end LV
namespace LV
open PySem L2
noncomputable def D.tupOf:D->Option Ds|.q ys=>some ys|_=>none
theorem qay4{d:D}{ys:Ds}(h:d.tupOf=some ys):d=.q ys:=by cases d with|q a=>cases h;rfl|_=>cases h
section
variable{c:Vc}{X:Cx}{b:Nx}{rest:List Nx}{pos p:Pos}{tb:VT}
def tOrM(i:Nat)(tb:VT):VT:=λds Q xe=>∃z ys,rdN i ds=some (.l z ys)/\if ys=[] then tb ds Q xe else Q (.l z ys) (ds.set i .u)
theorem eorM(i:Nat){x:Str}(D:VE c X (.BoolOp .Or (b::rest) pos) tb)(E:X.N[i]?=some x:=by rfl)(R:Vis X.env.scope x:=by first|exact Q8 rfl|exact Q7 (Q8 rfl)|exact Q7 (Q7 rfl))(T:N' x:=by decide)(n:(x==("__classdict__" : Str))=false:=by decide):VE c X (.BoolOp .Or (.Name x p::b::rest) pos) (tOrM i tb):=by
 refine⟨λFx s σ H Q I ⟨F,G,A,J,S,U,q⟩=>?_,λG Q Q' J V K W ⟨z,g,e,q⟩=>⟨z,g,e,by by_cases L:g=[];{rw[if_pos L] at q ⊢;exact D.m _ _ _ _ _ K W q};rw[if_neg L] at q ⊢;exact K _ _ q⟩⟩;obtain⟨z,g,r,q⟩:=q;obtain⟨r,Y⟩:=ql3.mp r;obtain⟨v,B,C,M,O,t,Z⟩:=S.put1 r (qp4 Y);rw[zAr (qp0 E Fx σ H s I)] at M;obtain⟨a,j,Ael,rfl,ha,rs,_⟩:=O.lst_inv;refine PyProof.Rows.BoolOp_or (thn (qq0 E R T n Fx s σ H (λw H'=>w=.ref a/\H'=H) I ⟨_,M,rfl,rfl⟩) λu s1 d=>?_);obtain⟨w,H1,I1,P,l,e2⟩:=d;subst l e2;refine thn (qaW2 Fx s1 σ H1 (.ref a) u (λk H'=>k=!j.isEmpty/\H'=H1) I1 P ⟨_,.inl ⟨j,.inl (.inl ha),rfl⟩,rfl,rfl⟩) λk s2 d=>?_;obtain⟨H2,I2,l,e2⟩:=d;subst e2;have y:=rs.len;cases j with
 |nil=>have e:=List.eq_nil_of_length_eq_zero y.symm;rw[if_pos e] at q;subst l;exact D.h Fx s2 σ H2 Q I2 ⟨F,G,A,J,S,U,q⟩|cons v j=>
  have e:¬g=[]:=λz=>by rw[z] at y;cases y
  rw[if_neg e] at q;subst l;obtain⟨A',q1,q2⟩:=Z .u [] (Kp.same (λ_ _ z=>z)) (λ_ _ z=>z) (.u _);refine⟨.ref a,H2,I2,P,q _ H2 F B A' O ⟨q1,S.ok.count λb=>by rw[q2,t];simp,S.len,S.ag⟩ (S.ok.count λb=>by rw[zA0,q2,t];simp) ?_⟩;exact⟨λ_ _ e _=>e,λb o e z=>by rw[zA0,q2];have:=t b;simp;lia,λ_ f=>f,λ_ _ _ _ f=>f⟩
end
theorem vdct1{c:Vc}{X:Cx}{pos p1 p2:Pos}{i j:Int}{f g:Nat}:VV c X (.Dict [some (.Constant (.int i) f p1)] [.Constant (.int j) g p2] pos) true (λ_=>some (.dct false [(.inl i,.int j)])):=⟨PE.mono (qaO0 (qaB1 qF4 qF4 qaM8) rfl rfl (λz=>nomatch z) (show 1<=15 by decide)) λk H Q ⟨F,h,A,d,S,e,q⟩ p a=>by
   cases e;refine⟨qb1,[(.inl i,.int j)],rfl,show 1<=15 by decide,q _ _ [p] (.dct (kvs:=[(.inl i,.int j)]) (kds:=[(.inl i,.int j)]) qb1 rfl (.cons (.int _) .nil)) (λb o e=>?_) λ_=>qg7 a⟩;rw[qb2 (qc3 e a),qb2 (qc3 e a)];exact e⟩
def spX2(C:γ)(fl gl:Str):Sp:=λvs H Q _=>∃(e:γ)(v w:V),vs=[.ref e,v,w]/\H e=some (Be e C none true)/\∀dx,H dx=none->dx≠e->Q .non (upd (upd (upd H dx (XD dx [(fl,v)])) e (Be e C (some dx) true)) dx (XD dx (Bm gl w [(fl,v)])))
section
variable{c:Vc}{X:Cx}{e1 e2:Nx}{o1 o2:Bool}{fa fb:FV}{pos cpos np:Pos}{k:Nat}{f C:γ}{fd:δ}{ps:List Str}{x fl gl:Str}
def qaK7(C:γ)(fl gl:Str)(fa fb:FV):VTS:=λe ds=>orF (fa ds) λd=>orF (fb ds) λa=>d.imm=true/\a.imm=true/\e.xe ⟨C,[(fl,d),(gl,a)]⟩ ds
theorem qaK0(M:MkE X.K C f)(Fn:Gv X.prog X.w X.K X.mg X.base CX0 k f fd ps (spX2 C fl gl))(P:Room (k+1) X.A)(hm:X.mg x=some (.ref C))(Q:Binds X.K fd ps [])(R:Lands X c.E)(T:VV c X e1 o1 fa)(U:VV c X e2 o2 fb)(W:∀v w:V,Bm gl w [(fl,v)]=[(fl,v),(gl,w)]:=by exact λ_ _=>rfl)(Y:Gl X x:=by rfl)(n:N' x:=by decide)(J:M8 [e1,e2] X.env=(false,eval e1 X.env)::M8 [e2] X.env:=by rfl)(o:M8 [e2] X.env=(false,eval e2 X.env)::M8 [] X.env:=by rfl)(p:(backTo cpos (M8 [e2] X.env)).any (·.1)=false:=by rfl):VS c X (.Raise (some (.Call (.Name x np) [e1,e2] [] cpos)) none pos) (qaK7 C fl gl fa fb):=by
 refine⟨PS.mono (qae1 M Fn P hm Q R (qf6 T.h (qf6 U.h qu3 o) J) Y n J p) λE σ H r=>?_,λe e' j h=>qa5 λd=>qa5 λs z=>⟨z.1,z.2.1,h.xe _ _ z.2.2⟩⟩;obtain⟨F,j,A,ends,S,l,q⟩:=r;obtain⟨d,e1,q⟩:=qa8.mp q;obtain⟨s,e2,Z,m2,q⟩:=qa8.mp q;refine⟨F,j,A,d,S,e1,λv H1 B L t _=>⟨F,j,A,s,S.same t,e2,λy H2 B' N D _=>⟨by show 2<=1000;decide,λa na=>⟨a,v,y,rfl,qb1,λg h1 G=>⟨rfl,some g,by rw[qb2 (Ne.symm G),qb1],?_⟩⟩⟩⟩⟩;have nx:H2 g=none:=by rwa[qb2 G] at h1
 obtain rfl:=L.imm Z;obtain rfl:=N.imm m2;rw[W];have m:Same H2 (upd (upd (upd (upd (upd H2 a (Be a C none true)) g (XD g [(fl,v)])) a (Be a C (some g) true)) g (XD g [(fl,v),(gl,y)])) a (Be a C (some g) false)):=λb u i=>by
  have I:b≠a:=λz=>by rw[z,na] at i;cases i
  have O:b≠g:=λz=>by rw[z,nx] at i;cases i
  rw[qb2 I,qb2 O,qb2 I,qb2 O,qb2 I];exact i
 refine l.xe ⟨C,[(fl,d),(gl,s)]⟩ j σ a _ F A q ⟨some g,qb1,.inr ⟨g,[(fl,v),(gl,y)],rfl,?_,rfl,?_⟩⟩ (((S.same t).same D).same m) (((Rl.same t).trans (Rl.same D)).trans (Rl.same m));{rw[qb2 G,qb1]};exact .cons (A:=[]) (B:=[]) ((L.same D).same m) (.cons (A:=[]) (B:=[]) (N.same m) .nil)
end
def gCatT:D->D->Option D|.q (x::xs),.q (y::ys)=>gd (D.imms (x::xs)=true/\D.imms (y::ys)=true/\(x::xs).length+(y::ys).length<=big) (.q ((x::xs)++y::ys))|_,_=>none
theorem qaO9{K:Qe}:A7 true (rCatT K) gCatT:=by intro F H v w x y B d Q r h q;obtain⟨A,A2,j,k⟩:=r.both;unfold gCatT at h;split at h;{obtain⟨c,rfl⟩:=qi3 h;obtain⟨a,l,rfl,m,g⟩:=j.tup_inv;obtain⟨b,n,rfl,o,q2⟩:=k.tup_inv;have e:=g.len;have f:=q2.len;exact⟨a,b,l,n,rfl,rfl,.inl (.inl m),.inl (.inl o),(λz=>by rw[z] at e;cases e),(by rw[e,f];exact zA7 c.2.2 qh1),(λz=>by rw[z] at f;cases f),λ_ p i=>q _ _ [] (qK0 i ((g.imms0 c.1).append (q2.imms0 c.2.1))) (Same.new i) New.nil⟩};cases h
theorem rlow{cm:Bool}{k:Nat}{A:Nv}(r:Ro cm k A):Ro false k A:=⟨(λh=>nomatch h),r.dp,r.un⟩
section
variable{c:Vc}{X:Cx}{tg e:Nx}{body:List Ny}{g:VTG}{t:VTS}{te:VT}{pos:Pos}
def sForT(te:VT)(g:VTG)(t:VTS):VTS:=λe ds=>te ds (λd ds1=>orF d.tupOf λys=>D.imms ys=true/\Gf g t e ys ds1) e.xe
theorem sforT(U:PassesOwn (Nt X.prog X.w) X.A X.env X.xe)(hi:VE c X e te)(u:VG c X tg g)(L:VSs c X body t)(M:X.calm=true:=by rfl)(C:∀v,Na e X.env v=pure v:=by intro _;rfl):VS c X (.For tg e body [] pos) (sForT te g t):=by
 refine⟨PS.mono (qao3 U M (qaX8 hi.h) u.h L.h C) λE σ H D=>?_,λn V f N=>hi.m _ _ _ _ _ (λd j=>qa5 λp=>Qb (qm9 u L N p j)) N.xe⟩;obtain⟨F,f,A,n,S,l,q⟩:=D;refine⟨F,f,A,n.xe,S,l.xe,hi.m _ _ _ _ _ (λd j q v H1 F1 T A1 W S1 Y Z=>?_) (λ_ _ z=>z) q⟩;obtain⟨p,ey,hm,qf⟩:=qa8.mp q;obtain rfl:=qay4 ey;obtain⟨a,s,rfl,k,O⟩:=W.tup_inv;have G:Rl F H A F1 H1 A1:=Z.count λb=>by rw[zA0];lia
 refine⟨a,rfl,⟨s,.inl (.inl k)⟩,qaS8 (K:=X.K) (a:=a) (xs:=s) (λi σ H=>∃F f A,Rn c F H σ f A/\Lk c E F H A n/\Rc F H s p T/\H a=some (.q s)/\Ok F H (T++A)/\Gf g t n (p.drop i) f) ⟨F1,j,A1,S1,l.step G,O,k,Y,qf⟩ ?_ ?_ ?_⟩;{rintro i σ H _ ⟨F,f,A,S,l,r,k,o,q⟩;exact .inl (.inl k)}
 .rintro i x σ H hx ⟨F,f,A,S,l,r,k,o,q⟩;obtain⟨y,B,P,Q⟩:=r.getV hx;have:=Q.imm (qk9 hm P);subst this;rw[ql0 P] at q;refine qT2 u S l Q (λI σ' H' F' A' q' S' J=>?_) q;have R:=J.kp S.ok S.loc.cells;have hT:∀b∈T,¬(A.count b≠0):=λb hb M=>by have:=o.sep b;rw[zA0] at this;have:=qb6.mp hb;lia
  obtain⟨o',_⟩:=J.frame o r.cells S'.ok;exact⟨F',I,A',S',l.step J,r.keep R hT,R.q k,o',q'⟩
 rintro σ H ⟨F,f,A,S,l,r,k,o,q⟩;rw[O.len,Oq] at q;exact l.nx _ _ _ _ _ q S Rl.refl
end
end LV
namespace HT
open PySem PyProof.Rows
noncomputable def lexGt:List Int->List Int->Bool|[],[]=>false|[],_::_=>false|_::_,[]=>true|x::xs,y::ys=>if x=y then lexGt xs ys else decide (x>y)
theorem qy2(x y:Int)(xs ys:List Int):lexGt (x::xs) (y::ys)=if x=y then lexGt xs ys else decide (x>y):=rfl
theorem qt5:lexGt [] []=false:=rfl
theorem qG1(y:Int)(ys:List Int):lexGt [] (y::ys)=false:=rfl
theorem qG2(x:Int)(xs:List Int):lexGt (x::xs) []=true:=rfl
theorem qaA6(A:Nv)(s:Sh)(a:Int)(t:Tok)(c:Int)(u:Tok)(prog:Nu)(w:Nw)(E Q:V'->Sh->Prop)(h:Q (.bool (decide (a>c))) s):Nr (Nt prog w) A (richCompare .Gt (.int a t) (.int c u)) Q E s:=(PyProof.Rows.gt_int h:Nr (Nt prog w) A (M' .Gt (.int a t) (.int c u)) Q E s)
section
open PySem.SeqAt
open PySem.AutoSeq1 (wpAny_loadPart')
open PySem.MeetsSeq PySem.MeetsSeq2 PySem.MeetsSeq3
theorem qI0(l b:γ)(items items2:Array V')(n P:Nat)(Q I:Option γ)(S J:Array (Option V'))(ns C:List Int)(hi:IntsAre items.toList ns)(N:IntsAre items2.toList C):Meets (Builtin.«tuple.__gt__» ⟨[.ref l,.ref b],[]⟩)
 (λ_ R s=>s.heap.get? l=some {cls:=.type "tuple",dict:=Q,data:=.seq items n,slots:=S}/\s.heap.get? b=some {cls:=.type "tuple",dict:=I,data:=.seq items2 P,slots:=J}/\R (.ok (.ret (.bool (lexGt ns C)))) s) :=
 .of_wp λprog w A R s h=>by
  obtain⟨D,g,d,E,F⟩:=s;obtain⟨T,U,h⟩:=h;have f2:=AutoSeq1.sub_tuple_tuple;have Z:items.size=ns.length:=by rw[<-hi.length];simp
  have z2:items2.size=C.length:=by rw[<-N.length];simp
  wp_walk using wpAny_loadPart' T,wpAny_loadPart' U,wpAny_forIn_list _ (λrest b K=>b.1=none/\K=⟨D,g,d,E,F⟩/\∃(G H:List V')(i j:List Int),rest=G.zip H/\IntsAre G i/\IntsAre H j/\i.length+items2.size=j.length+items.size/\R (.ok (.ret (.bool (lexGt i j)))) ⟨D,g,d,E,F⟩) _
  case turn=>
   rintro⟨y,x⟩ rest b K ⟨r,rfl,G,H,i,j,k,v,m,f,o⟩;cases v with
   |nil=>rw[List.zip_nil_left] at k;cases k
   |cons a t z=>
    cases m with
    |nil=>rw[List.zip_nil_right] at k;cases k
    |cons c u B=>
     rw[Ot] at k;injection k with L hrest
     injection L with V W
     subst V W;rw[qy2] at o;simp only[zAp] at f;obtain⟨e,X,p⟩:=qaH0 A.in1 ⟨D,g,d,E,F⟩ a t c u;refine J' (X prog w _ _ ?_);cases e with
     |true=>
      rw[if_pos (p.mp rfl)] at o
      wp_walk
      exact⟨rfl,rfl,_,_,_,_,hrest,z,B,⋯,o⟩
     |false=>
      rw[if_neg (λq=>absurd (p.mpr q) zA8)] at o;have M:=qaA6 A.in1 ⟨D,g,d,E,F⟩ a t c u prog w
      wp_walk using M
      exact⟨_,rfl,by simpa using o⟩
  case fin=>
   rintro⟨b1,b2⟩ K ⟨r,rfl,G,H,i,j,k,v,m,f,o⟩;simp only at r;subst r;have O:lexGt i j=decide (items.size>items2.size):=by
    cases v with
    |nil=>
     cases m with
     |nil=>
      simp only[zBw] at f;rw[qt5];exact(zB3 ⋯).symm
     |cons c u Y=>
      simp only[zBw,zAp] at f;rw[qG1];exact(zB3 ⋯).symm
    |cons a t O=>
     cases m with
     |nil=>
      simp only[zBw,zAp] at f;rw[qG2];exact(zAn ⋯).symm
     |cons c u Y=>
      rw[Ot] at k;cases k
   rw[O] at o
   wp_walk
   exact⟨_,rfl,by simpa[Builtin.Tuple.tupleCompareSizes] using o⟩
  case h=>
   exact⟨rfl,rfl,items.toList,items2.toList,ns,C,rfl,hi,N,⋯,h⟩
end
section
variable{prog:Nu}{w:Nw}{A:Nv}{E:V'->Sh->Prop}{s:Sh}
theorem qah8{l b:γ}{items items2:Array V'}{ns a:List Int}{Q:V'->Sh->Prop}(j:IsTup s.heap l items)(k:IsTup s.heap b items2)(hi:IntsAre items.toList ns)(m:IntsAre items2.toList a)(o:A.units<cLine)(h:Q (.bool (lexGt ns a)) s):Nr (Nt prog w) A (M' .Gt (.ref l) (.ref b)) Q E s:=by
 obtain⟨⟨p,q,data,r⟩,i,t,n,u⟩:=id j;obtain⟨⟨cls2,d,data2,e⟩,c,f,v,g⟩:=id k;subst t u f g;exact richCompare_meets_room (op:=.Gt) ⟨_,i,rfl⟩ ⟨_,c,rfl⟩ F.slot_tuple_gt F.entry_tuple_gt (F.args_tuple_gt_2 _ _) (qI0 l b items items2 n v q d r e ns a hi m)
  ⟨i,c,show P4 (lexGt ns a)≠Value.notImplemented/\Q (.bool (lexGt ns a)) s from⟨(λx=>nomatch x),h⟩⟩ o
end
end HT
namespace L2
open PySem PySem.Spec PyProof.Rows
def rGtT(K:Qe):R2:=λx y H Q=>∃a b ns c,x=.ref a/\y=.ref b/\SqT K H a (ns.map V.int)/\SqT K H b (c.map V.int)/\Q (.bl (HT.lexGt ns c)) H
theorem qaZ8{X:Cx}(c:X.A.units<cLine):OpR X (M' .Gt) (rGtT X.K):=by intro Fx s o H x y v u Q I d e h;obtain⟨a,b,f,g,rfl,rfl,i,j,q⟩:=h;cases d;cases e;obtain⟨k,l,p1,_⟩:=I.tuple i;obtain⟨its2,m,n,_⟩:=I.tuple j;exact HT.qah8 p1 n (qy5 l) (qy5 m) c ⟨.bl (HT.lexGt f g),H,I,rfl,q⟩
end L2
namespace LV
open PySem L2
def gGtT(x y:D):Option D:=match x,y with|.q xs,.q ys=>(intsD xs).bind λns=>(intsD ys).map λa=>.bl (HT.lexGt ns a)|_,_=>none
theorem qaZ0{K:Qe}:A7 true (rGtT K) gGtT:=by intro F H v w x y B d Q r h q;cases x with|q p=>(cases y with|q s=>obtain⟨f,g,h⟩:=zA1.mp h;obtain⟨i,j,h⟩:=zAc.mp h;subst h;obtain⟨t,u,A',C',e,k,l,_⟩:=r.two_inv;cases e;obtain⟨a,A,rfl,m,n⟩:=k.tup_inv;obtain⟨b,C,rfl,o,c⟩:=l.tup_inv;cases n.intsD g;cases c.intsD j;exact⟨a,b,f,i,rfl,rfl,.inl (.inl m),.inl (.inl o),q _ H [] (.bl _) (λ_ _ z=>z) New.nil⟩|_=>cases h)|_=>cases h
end LV
namespace LV.My
open PySem L2 Row _root_.My
variable{N i j l r:Nat}{Q:DK}{R:Ds->D->Prop}{S ks ns:List Int}{b z':Bool}{d p v x y:D}{ds xs ys:Ds}{e:VEnds}{f fa fb:FV}{fl m:Str}{fs:List (Str×D)}{k:Int}{qc:VTT}{s:VSp}{t u:VTS}{ta tb te:VT}{tr:VTB}{xe:XKd}{α:Type}
noncomputable def _root_.LV.D.whole:D->Bool|.int _=>true|_=>false
noncomputable def _root_.LV.D.within(l m:Int):D->Bool|.int i=>decide (l<=i)&&decide (i<=m)|_=>false
def _root_.LV.D.num:D->Bool:=D.within 0 1000000000000000000
noncomputable def fx3(g:D->D->D->Option D):Ds->Option D|[x,y,z]=>g x y z|_=>none
theorem qag4(h:Ga (fx1 g) ds Q xe):ds.length=1:=by match ds,h with|[_],_=>rfl
theorem qaQ8(h:Ga (fx3 g) ds Q xe):ds.length=3:=by match ds,h with|[_,_,_],_=>rfl
theorem imm1(h:Ga (fx1 g) ds Q xe):Kc (wOf [true]) 0 ds=true:=by match ds,h with|[_],_=>rfl
theorem imm3(h:Ga (fx3 g) ds Q xe):Kc (wOf [true,true,true]) 0 ds=true:=by match ds,h with|[_,_,_],_=>rfl
theorem Mt(h:Ga (fx1 g) ds Q xe):∃x d,ds=[x]/\g x=some d/\Q d [x]:=by match ds,h with|[x],h=>obtain⟨d,e,q⟩:=qa8.mp h;exact⟨x,d,rfl,e,q⟩
theorem pure3(h:Ga (fx3 g) ds Q xe):∃x y z d,ds=[x,y,z]/\g x y z=some d/\Q d [x,y,z]:=by match ds,h with|[x,y,z],h=>obtain⟨d,e,q⟩:=qa8.mp h;exact⟨x,y,z,d,rfl,e,q⟩
theorem qd4{t:String}(h:x.kind=some t):x.known=true:=by cases x<;>first|rfl|cases h
def Aw(P:Ds->D->Prop):VSp:=λds Q _=>∃d,P ds d/\Q d ds
theorem qb5:B9 (Aw P):=λ_ _ _ _ _ a _ ⟨d,p,q⟩=>⟨d,p,a _ _ q⟩
noncomputable def Rg(ps:Pr):Ds:=ps.map λp=>.q [.int p.1,.int p.2]
noncomputable def kvD(ps:Pr):List (Key×D):=ps.map λp=>(.inl p.1,.int p.2)
def Ra(z:Bool)(C:γ)(n:Int)(wr:Bool)(ps:Pr):D:=.ins z C [("rooms",.int n),("wraps",.bl wr),("homes",.l z (Rg ps)),("home_numbers",.dct z (kvD ps))]
noncomputable def Hb:Option Int->D|none=>.non|some k=>.int k
def Rf(n:Nat)(g:Nat->Option Int):Ds:=(Ob n).map λi=>Hb (g i)
noncomputable def Re(ks:List Int):Ds:=ks.map .int
theorem qK8:∀ps:Pr,D.imms (Rg ps)=true|[]=>rfl|p::r=>by show (D.imms [.int p.1,.int p.2]&&D.imms (Rg r))=true;rw[qK8 r];rfl
theorem qo0:∀ks:List Int,D.imms (Re ks)=true|[]=>rfl|k::r=>by show (true&&D.imms (Re r))=true;rw[qo0 r];rfl
theorem qah4{α:Type}{f:α->D}(h:∀a,(f a).imm=true):∀l:List α,D.imms (l.map f)=true|[]=>rfl|a::r=>by show ((f a).imm&&D.imms (r.map f))=true;rw[h a,qah4 h r];rfl
theorem qaR9(o:Option Int):(Hb o).imm=true:=by cases o<;>rfl
theorem qV7(n:Nat)(g:Nat->Option Int):D.imms (Rf n g)=true:=qah4 (λi=>qaR9 _) _
theorem qaw3:∀ks:List Int,intsD (Re ks)=some ks|[]=>rfl|k::r=>by show (intsD (Re r)).map (λis=>k::is)=some (k::r);rw[qaw3 r];rfl
theorem qy9:∀ks:List Int,flats (Re ks)=some (ks.map V.int)|[]=>rfl|k::r=>by show (Option.bind (some (V.int k)) λv=>(flats (Re r)).bind λa=>some (v::a))=_;rw[qy9 r];rfl
theorem qn5(ks:List Int):(Re ks).length=ks.length:=zAk _
theorem qt6(n:Nat)(g:Nat->Option Int):(Rf n g).length=n:=by simp[Rf]
theorem qC7{n:Nat}{g:Nat->Option Int}(h:i<n):(Rf n g)[i]?=some (Hb (g i)):=by unfold Rf;rw[zBd,List.getElem?_range h];rfl
theorem qaK3{n:Nat}{g:Nat->Option Int}{o:Option Int}:(Rf n g).set i (Hb o)=Rf n (λj=>if j=i then o else g j):=by apply List.ext_getElem?;intro j;by_cases a:j<n;{rw[qC7 a];by_cases e:i=j;{subst e;rw[zC2 (by rw[qt6];exact a),if_pos rfl]};rw[zBi e,qC7 a,if_neg (Ne.symm e)]};rw[zBu (by rw[zCo,qt6];lia),zBu (by rw[qt6];lia)]
theorem qae7:∀ps:Pr,qZ5 (Rg ps)=some (kvD ps)|[]=>rfl|p::r=>by show (Option.bind (some ((Sum.inl p.1:Key),D.int p.2)) λq=>(qZ5 (Rg r)).bind λps=>some (q::ps))=_;rw[qae7 r];rfl
theorem qao2{ps:Pr}{m:Int}(h:¬k∈ps.map (·.1)):Hn (kvD ps) (.inl k) (.int m)=kvD (ps++[(k,m)]):=by unfold Hn;rw[if_neg];{unfold kvD;rw[zBn];rfl};intro e;obtain⟨q,a,e⟩:=zC3.mp e;obtain⟨r,b,rfl⟩:=zAy.mp a;exact h (zAy.mpr ⟨r,b,Sum.inl.inj (zAe e)⟩)
theorem qU8:∀(a ps:Pr),((ps++a).map (·.1)).Nodup->qt3 (kvD ps) (kvD a)=kvD (ps++a)
 |[],ps,_=>by rw[zAi];rfl|q::a,ps,h=>by
  show qt3 (Hn (kvD ps) (.inl q.1) (.int q.2)) (kvD a)=_;have b:¬q.1∈ps.map (·.1):=by rw[zBn,zAw,zCf] at h;exact λz=>h.2.2 _ z _ zAb rfl
  rw[qao2 b,qU8 a (ps++[(q.1,q.2)]) (by rw[zAs];exact h),zAs];rfl
theorem qap7(h:(ps.map (·.1)).Nodup):qt3 [] (kvD ps)=kvD ps:=qU8 ps [] h
theorem qax0(h:(ps.map (·.1)).Nodup):Kq (.l z (Rg ps))=some (.dct false (kvD ps)):=by show (qZ5 (Rg ps)).map (λps=>D.dct false (qt3 [] ps))=_;rw[qae7];show some (D.dct false (qt3 [] (kvD ps)))=_;rw[qap7 h]
theorem qat4(k:Int):∀ps:Pr,Gm (kvD ps) (.inl k)=(ps.lookup k).map .int
 |[]=>rfl|(p,m)::r=>by
  show Gm ((.inl p,.int m)::kvD r) _=_;by_cases e:p=k;{subst e;simp[Gm,zAu]};have a:Gm ((.inl p,D.int m)::kvD r) (.inl k)=Gm (kvD r) (.inl k):=by simp[Gm,zC0,e]
  rw[a,qat4 k r];have:(k==p)=false:=by simpa using λz=>e z.symm
  simp only[zAu,this]
theorem qa2{o:Option α}{a:α}{k:α->Prop}(e:o=some a)(h:k a):orF o k:=by rw[e];exact h
theorem G7{p:Prop}[Decidable p]{a b:Prop}(h:p)(x:a):if p then a else b:=by rw[if_pos h];exact x
theorem Ju{p:Prop}[Decidable p]{a b:Prop}(h:¬p)(x:b):if p then a else b:=by rw[if_neg h];exact x
theorem ite_b{p:Bool}{a b:Prop}(h1:p=true->a)(h2:p=false->b):if p=true then a else b:=by cases p with|true=>exact h1 rfl|false=>exact h2 rfl
noncomputable def B6:Option Int->D|some f=>.int f|none=>.non
theorem qH8(b:rdN i ds=some x)(h:s [x] (λd ys=>orF (Au [.sl i] ys (ds.set i .u)) λa=>Q d a) (λe ys=>orF (Au [.sl i] ys (ds.set i .u)) λa=>xe e a)):qj2 s [] (tbN i A6) ds Q xe:=⟨by rw[b];rfl,by show orF (rdN i ds) _;rw[b];exact h⟩
theorem qF3{f:Ds->Option D}(e:f ds=some d)(q:Q d ds):Ga f ds Q xe:=qa2 e q
theorem qp1(e:R ds d)(q:Q d ds):Aw R ds Q xe:=⟨d,e,q⟩
theorem qc1{K:Ds->List Pl->Ds->Prop}(a:rdN i ds=some x)(h:tr ds (λxs ps ds1=>orF (rdN i ds1) λd=>K (d::xs) (.sl i::ps) (ds1.set i .u)) xe):tbN i tr ds K xe:=⟨by rw[a];rfl,h⟩
theorem qe1(b:f ds=some y)(h:tr ds (λxs ps a=>K (y::xs) (.no::ps) a) xe):tbV (Bs f) tr ds K xe:=qa2 b h
theorem rd0{r:Ds}(h:d.known=true):rdN 0 (d::r)=some d:=ql3.mpr ⟨rfl,h⟩
theorem qai6{β:Type}(f:α->β)(l:List α):l.filterMap (λa=>some (f a))=l.map f:=by simp
section
variable{z:Bool}{C:γ}{n:Int}{wr:Bool}{ps:Pr}
theorem qD0{f:Str}(h:fs.lookup f=some d):D.fld C f (.ins z C fs)=some d:=by show (if C=C then fs.lookup f else none)=some d;rw[if_pos rfl,h]
theorem qe8:D.fld C "rooms" (Ra z C n wr ps)=some (.int n):=qD0 (by rfl)
theorem qH0:D.fld C "wraps" (Ra z C n wr ps)=some (.bl wr):=qD0 (by rfl)
theorem qaa7:D.fld C "home_numbers" (Ra z C n wr ps)=some (.dct z (kvD ps)):=qD0 (by rfl)
theorem qaw2(h:fs.lookup m=none):(D.ins z C fs).isM C m=true:=by show (decide (C=C)&&(fs.lookup m).isNone)=true;rw[zAn rfl,h];rfl
theorem qi1(h:([("rooms",.int n),("wraps",.bl wr),("homes",.l z (Rg ps)),("home_numbers",.dct z (kvD ps))]:List (Str×D)).lookup m=none):(Ra z C n wr ps).isM C m=true:=qaw2 h
theorem Ba(h:fa ds=some x)(h':g x=some y):f1 g fa ds=some y:=qaG3.mpr ⟨x,h,h'⟩
theorem Ae(h:fa ds=some x)(h':fb ds=some y)(h2:g x y=some d):f2 g fa fb ds=some d:=qaG2.mpr ⟨x,y,h,h',h2⟩
theorem qk7:(D.ins false C fs).ownI C=some fs:=by show (if C=C then some fs else none)=some fs;rw[if_pos rfl]
end
theorem qn4{C:γ}(b:rdN i ds=some p)(hm:p.isM C m=true)(h:tr ds (λxs ps ds1=>orF (rdN i ds1) λd=>s (d::(xs++[])) (λr ys=>orF (Au (.sl i::ps) ys (ds1.set i .u)) λa=>Q r a) (λx ys=>orF (Au (.sl i::ps) ys (ds1.set i .u)) λa=>xe x a)) xe):qz8 C m s [] i tr ds Q xe:=⟨qa2 b hm,h⟩
theorem qJ0{f:Ds->Option D}(a:rdN i ds=some x)(e:f [x]=some d)(b:Au [.sl i] [x] (ds.set i .u)=some ds)(q:Q d ds):qj2 (Ga f) [] (tbN i A6) ds Q xe:=qH8 a (qF3 e (qa2 b q))
theorem qF9(c:rdN i ds=some x)(b:rdN j ds=some y)(a:rdN i (ds.set j .u)=some x)(r:R [x,y] d)(e:Au [.sl i,.sl j] [x,y] ((ds.set j .u).set i .u)=some ds)(q:Q d ds):qj2 (Aw R) [] (tbN i (tbN j A6)) ds Q xe:=qc1 c (qc1 b (qa2 b (qa2 a (qp1 r (qa2 e q)))))
theorem qR3{w:D}(e:rdN i ds=some x)(f:rdN j ds=some y)(c:rdN l ds=some w)(a:rdN j (ds.set l .u)=some y)(b:rdN i ((ds.set l .u).set j .u)=some x)(r:R [x,y,w] d)(g:Au [.sl i,.sl j,.sl l] [x,y,w] (((ds.set l .u).set j .u).set i .u)=some ds)(q:Q d ds):qj2 (Aw R) [] (tbN i (tbN j (tbN l A6))) ds Q xe:=qc1 e (qc1 f (qc1 c (qa2 c (qa2 a (qa2 b (qp1 r (qa2 g q)))))))
theorem Mu{C:γ}(c:rdN i ds=some p)(hm:p.isM C m=true)(b:rdN j ds=some x)(a:rdN i (ds.set j .u)=some p)(r:R [p,x] d)(e:Au [.sl i,.sl j] [p,x] ((ds.set j .u).set i .u)=some ds)(q:Q d ds):qz8 C m (Aw R) [] i (tbN j A6) ds Q xe:=qn4 c hm (qc1 b (qa2 b (qa2 a (qp1 r (qa2 e q)))))
theorem qap8{C:γ}(e:rdN i ds=some p)(hm:p.isM C m=true)(f:rdN j ds=some x)(c:rdN l ds=some y)(a:rdN j (ds.set l .u)=some x)(b:rdN i ((ds.set l .u).set j .u)=some p)(r:R [p,x,y] d)(g:Au [.sl i,.sl j,.sl l] [p,x,y] (((ds.set l .u).set j .u).set i .u)=some ds)(q:Q d ds):qz8 C m (Aw R) [] i (tbN j (tbN l A6)) ds Q xe:=qn4 e hm (qc1 f (qc1 c (qa2 c (qa2 a (qa2 b (qp1 r (qa2 g q)))))))
theorem Jv{t:VT}(h:∀(Q:DK)(xe:XKd),Q (.bl true) ds->t ds Q xe)(h2:u e ds):Ig (sIf (Gr (ttE t)) n Jt) u e ds:=h _ _ h2
theorem if_e{t:VT}{v:VTS}(h:∀(Q:DK)(xe:XKd),Q (.bl b) ds->t ds Q xe)(h1:b=true->u e ds)(h2:b=false->v e ds):sIf (ttE t) u v e ds:=h _ _ (by
 exact ite_b h1 h2)
theorem if_v{v:VTS}(h:f ds=some (.bl b))(h1:b=true->u e ds)(h2:b=false->v e ds):sIf (ttV f) u v e ds:=by show orF ((f ds).bind D.asB) _;rw[h];exact ite_b h1 h2
theorem Iy{u v:VT}(h:f ds=some (.bl b))(h1:b=true->u ds Q xe)(h2:b=false->v ds Q xe):tIfE (ttV f) u v ds Q xe:=by show orF ((f ds).bind D.asB) _;rw[h];exact ite_b h1 h2
theorem qm4(e:f ds=some d)(q:Q d ds):Bs f ds Q xe:=qa2 e q
theorem qg2(b:Bool)(h:f ds=some (.bl b))(h1:b=true->u {e with nx:=w e} ds)(h2:b=false->w e ds):Ig (sIf (ttV f) u Jt) w e ds:=if_v h h1 h2
theorem qk5{t:VT}(h:t ds e.rt e.xe):Me t e ds:=h
theorem qg6(d:D)(h:f ds=some d)(q:e.rt d ds):Me (Bs f) e ds:=qa2 h q
theorem At(a:Ds)(h:ds=a)(q:t e a):t e ds:=h ▸ q
theorem qy4{z:Bool}(h:rdN i ds=some (.l z ys)):A8 (fx2 Jp) (Ay (rdN i) (Ay (kC (D.ty "list")) λ_=>some [])) ds=some (.bl true):=by unfold A8 Ay;rw[h];rfl
theorem qk8{z:Bool}(h:rdN i ds=some (.l z ys)):A8 (fx1 Ia) (Ay (rdN i) λ_=>some []) ds=some (.int (ys.length:Nat)):=by unfold A8 Ay;rw[h];rfl
theorem qf8{Q:Bool->Ds->Prop}(h:f ds=some (.bl b))(q:Q b ds):ttV f ds Q xe:=by show orF ((f ds).bind D.asB) _;rw[h];exact q
theorem qg3{Q:Bool->Ds->Prop}(h:f ds=some (.bl b))(q:Q (!b) ds):Gr (ttV f) ds Q xe:=qf8 h q
theorem qh7{t u:VTT}{Q:Bool->Ds->Prop}(b c:Bool)(h1:∀Q:Bool->Ds->Prop,Q b ds->t ds Q xe)(h2:b=false->∀Q:Bool->Ds->Prop,Q c ds->u ds Q xe)(q:Q (b||c) ds):ttOr t u ds Q xe:=h1 _ (by
 cases b with
 |false=>exact h2 rfl _ q
 |true=>exact q)
theorem qj8{t u:VTT}{Q:Bool->Ds->Prop}(b c:Bool)(h1:∀Q:Bool->Ds->Prop,Q b ds->t ds Q xe)(h2:b=true->∀Q:Bool->Ds->Prop,Q c ds->u ds Q xe)(q:Q (b&&c) ds):ttAnd t u ds Q xe:=h1 _ (by
 cases b with
 |false=>exact q
 |true=>exact h2 rfl _ q)
theorem qc8(b:Bool)(h:∀Q:Bool->Ds->Prop,Q b ds->qc ds Q e.xe)(h1:b=true->t {e with nx:=w e} ds)(h2:b=false->w e ds):Ig (sIf qc t Jt) w e ds:=h _ (ite_b h1 h2)
theorem qah7{t:VT}(h:∀(Q:DK)(xe:XKd),Q (.bl true) ds->t ds Q xe)(h2:e.nx ds):sIf (Gr (ttE t)) n Jt e ds:=h _ _ h2
theorem qaF1:Ib C (Ra z C n wr ps) (.adr C)=some (.bl true):=by show (if C=C then (Ra z C n wr ps).isC C else none)=_;rw[if_pos rfl];show (if C=C then some (D.bl true) else none)=_;rw[if_pos rfl]
theorem qf7{g:VTG}{t:VTS}{e:VEnds}(I:Nat->Ds->Prop):∀(xs:List D)(i:Nat)(ds:Ds),I i ds->(∀(j:Nat)(x:D),xs[j]?=some x->∀ds,I (i+j) ds->∀K:Ds->Prop,(∀a,I (i+j+1) a->K a)->g x ds λds1=>t {e with nx:=K,ct:=K,bk:=e.nx} ds1)->(∀a,I (i+xs.length) a->e.nx a)->Gf g t e xs ds|[],_,ds,h,_,hn=>hn ds h|x::xs,i,ds,h,hs,hn=>hs 0 x rfl ds h _ λa f=>qf7 I xs (i+1) a f (λj y k b c K l=>hs (j+1) y k b (by rw[show i+(j+1)=i+1+j by lia];exact c) K λd m=>l d (by rw[show i+1+j+1=i+(j+1)+1 by lia];exact m)) λb c=>hn b (by rw[zAp,show i+(xs.length+1)=i+1+xs.length by lia];exact c)
theorem qG9(h:f ds=some (.int n))(a:Jg n=true)(k:Gf g t e (Bo 0 n.toNat) ds):qan8 (Li (tbV (Gq f) A6)) g t e ds:=by show orF (f ds) _;rw[h];exact⟨rfl,a,k⟩
theorem qR2(a:0<=n)(h1:n<=1000):Jg n=true:=by unfold Jg;grind
theorem qP9{m:Nat}(h:(Bo 0 m)[j]?=some x):j<m/\x=.int (j:Int):=by by_cases a:j<m;{rw[qad9 a] at h;cases h;exact⟨a,by rw[Int.zero_add]⟩};rw[zBu (by unfold Bo;rw[zAk,zBb];lia)] at h;cases h
def Iz(p:Int->Bool)(y:D):Option D:=y.asI.bind λk=>if p k=true then some (.int k) else none
theorem qaw0{p:Int->Bool}(h:p k=true):Iz p (.int k)=some (.int k):=if_pos h
theorem qaw1{p:Int->Bool}(h:p k=false):Iz p (.int k)=none:=if_neg (by grind)
theorem qR5(p:Int->Bool):∀ks:List Int,(Re ks).filterMap (Iz p)=Re (ks.filter p)|[]=>rfl|k::ks=>by show Pt (Iz p) (D.int k::Re ks)=_;rw[zBs];cases h:p k with|true=>rw[qaw0 h,Om h];show D.int k::(Re ks).filterMap (Iz p)=_;rw[qR5 p ks];rfl|false=>rw[qaw1 h,Ol (by rw[h];decide),qR5 p ks]
theorem qaT2(h1:fa ds=some (.bl a))(h2:fb ds=some (.bl b)):fOr fa fb ds=some (.bl (a||b)):=by unfold fOr;rw[h1,h2];cases a<;>rfl
theorem qaj3(h1:fa ds=some (.bl a))(h2:fb ds=some (.bl b)):fAnd fa fb ds=some (.bl (a&&b)):=by unfold fAnd;rw[h1,h2];cases a<;>rfl
theorem qb3(ds1:Ds)(h1:∀K:Ds->Prop,K ds1->t {e with nx:=K} ds)(h2:u e ds1):Ig t u e ds:=h1 (u e) h2
theorem qc0(R:Ds->Prop)(h1:∀K:Ds->Prop,(∀ds1,R ds1->K ds1)->t {e with nx:=K} ds)(h2:∀ds1,R ds1->u e ds1):Ig t u e ds:=h1 (u e) h2
theorem qay0(I:Nat->Ds->Prop)(n:Nat)(h:I n ds)(c:∀n ds,I n ds->∀K:Ds->Prop,(∀m a,m<n->I m a->K a)->qc ds (λb ds1=>if b=true then t {e with nx:=K,ct:=K,bk:=e.nx} ds1 else e.nx ds1) e.xe):qaK6 qc t e ds:=by
 have d:∀N n ds,n<N->I n ds->whN qc t e N ds:=by intro N;induction N with|zero=>intro n ds h;exact absurd h (zC1 _)|succ N f=>intro n ds i h;exact c n ds h _ λm a j g=>f m a ⋯ g
 exact⟨n+1,d (n+1) n ds (Nat.lt_succ_self n) h⟩
theorem qS6(f:rdN i ds=some x)(c:rdN j ds=some y)(b:rdN i (ds.set j .u)=some x)(h:s [x,y] (λd ys=>orF (Au [.sl i,.sl j] ys ((ds.set j .u).set i .u)) λa=>Q d a) (λe ys=>orF (Au [.sl i,.sl j] ys ((ds.set j .u).set i .u)) λa=>xe e a)):qj2 s [] (tbN i (tbN j A6)) ds Q xe:=qc1 f (qc1 c (qa2 c (qa2 b h)))
theorem qaU4{w:D}(g:rdN i ds=some x)(k:rdN j ds=some y)(f:rdN l ds=some w)(b:rdN j (ds.set l .u)=some y)(c:rdN i ((ds.set l .u).set j .u)=some x)(h:s [x,y,w] (λd ys=>orF (Au [.sl i,.sl j,.sl l] ys (((ds.set l .u).set j .u).set i .u)) λa=>Q d a) (λe ys=>orF (Au [.sl i,.sl j,.sl l] ys (((ds.set l .u).set j .u).set i .u)) λa=>xe e a)):qj2 s [] (tbN i (tbN j (tbN l A6))) ds Q xe:=qc1 g (qc1 k (qc1 f (qa2 f (qa2 b (qa2 c h)))))
theorem qba7{C:γ}{k:Nat}{w:D}(f:rdN i ds=some p)(hm:p.isM C m=true)(g:rdN j ds=some x)(h:rdN l ds=some y)(e:rdN k ds=some w)(a:rdN l (ds.set k .u)=some y)(b:rdN j ((ds.set k .u).set l .u)=some x)(c:rdN i (((ds.set k .u).set l .u).set j .u)=some p)(r:R [p,x,y,w] d)(n:Au [.sl i,.sl j,.sl l,.sl k] [p,x,y,w] ((((ds.set k .u).set l .u).set j .u).set i .u)=some ds)(q:Q d ds):qz8 C m (Aw R) [] i (tbN j (tbN l (tbN k A6))) ds Q xe:=qn4 f hm (qc1 g (qc1 h (qc1 e (qa2 e (qa2 a (qa2 b (qa2 c (qp1 r (qa2 n q)))))))))
theorem qaz8(h:ds[j]?=some d):ds.set j d=ds:=by obtain⟨a,e⟩:=zA5.mp h;rw[<-e];exact List.set_getElem_self a
theorem qc7(h:ds[i]?=some d)(a:d.known=true):rdN i ds=some d:=ql3.mpr ⟨h,a⟩
def Rp(ns:List Int)(b:D):Prop:=∃x y z,b=bagD x y z ns/\Bg x y z ns
theorem Rp.known{b:D}(h:Rp ns b):b.known=true:=by obtain⟨x,y,z,rfl,_⟩:=h;rfl
def qO2:VSp:=λds Q _=>∃b m ns,ds=[b,.int m]/\Rp ns b/\0<m/\m<2 ^ 200/\∀v a,0<=v->v<m->Rp ns a->Q (.int v) [a,.int m]
theorem qc6{b:D}{m:Int}(d:ds[i]?=some b)(B:Rp ns b)(e:f ds=some (.int m))(g:0<m)(h1:m<2 ^ 200)(q:∀v a,0<=v->v<m->Rp ns a->Q (.int v) (ds.set i a)):qj2 qO2 [] (tbN i (tbV (Bs f) A6)) ds Q xe:=by have c:=qc7 d B.known;refine qc1 c (qe1 e (qa2 c ⟨b,m,ns,rfl,B,g,h1,λv a h j B'=>?_⟩));show Q (.int v) ((ds.set i .u).set i a);rw[Pc];exact q v a h j B'
theorem qv9{b:D}{m:Int}(f:ds[i]?=some b)(B:Rp ns b)(c:ds[j]?=some (.int m))(d:i≠j)(g:0<m)(h1:m<2 ^ 200)(q:∀v a,0<=v->v<m->Rp ns a->Q (.int v) (ds.set i a)):qj2 qO2 [] (tbN i (tbN j A6)) ds Q xe:=by
 have l:=(zA5.mp c).1;refine qS6 (qc7 f B.known) (qc7 c rfl) (qc7 (by rw[zBi (Ne.symm d)];exact f) B.known) ⟨b,m,ns,rfl,B,g,h1,λv a h k B'=>?_⟩;show Q (.int v) ((((ds.set j .u).set i .u).set i a).set j (.int m));have e:(((ds.set j .u).set i .u).set i a).set j (.int m)=ds.set i a:=by rw[Pc,List.set_comm _ _ (Ne.symm d),Pc];exact qaz8 (by rw[zBi d];exact c)
 rw[e];exact q v a h k B'
theorem Mv{i j:Int}(h:small j=true):Jm (.int i) (.int j)=some (.int (i*j)):=qi2 (by grind)
theorem mulL{i j:Int}(h:small i=true):Jm (.int i) (.int j)=some (.int (i*j)):=qi2 (by grind)
theorem qaH3{i j:Int}(h:0<j)(h1:j<2 ^ 200):gDiv (.int i) (.int j)=some (.int (i/j)):=qi2 (by show (decide (0<j)&&decide (j<2 ^ 200))=true;rw[zAn h,zAn h1];rfl)
theorem G8{x:Int}(h:0<n):La (.int x) (.int n)=some (.int (x%n)):=qi2 (zAn h)
theorem qac7{i:Int}(h:-(2 ^ 64)<i)(h':i<2 ^ 64):small i=true:=by unfold small;rw[zAn h,zAn h'];rfl
theorem Mw{z:Bool}{g:Nat->Option Int}(h:r<N):gIx (.l z (Rf N g)) (.int (r:Int))=some (Hb (g r)):=qM4 (qC7 h)
theorem qaF0{g:Nat->Option Int}(h:r<N):ixN (Rf N g).length (r:Int)=some r:=by rw[qt6];unfold ixN;simp[h]
theorem qO6{n:Nat}{g:Nat->Option Int}{c:Int}:(Rf n g).set i (.int c)=Rf n (Row.set g i c):=qaK3 (o:=some c)
theorem qaD5(N:Nat):(Oa N [D.non]).flatten=Rf N (λ_=>none):=by unfold Rf;induction N with|zero=>rfl|succ N a=>rw[List.replicate_succ',List.flatten_append,a,O3,zBn];rfl
theorem qaf3(a:0<=n)(h1:n<=64):Jm (.l false [.non]) (.int n)=some (.l false (Rf n.toNat λ_=>none)):=by rw[<-qaD5];exact qi2 ⟨rfl,by show 1*n.toNat<=1000000;lia,⋯,⋯⟩
theorem qao0{g g':Nat->Option Int}(h:∀i,i<N->g i=g' i):Rf N g=Rf N g':=by unfold Rf;apply List.map_congr_left;intro i a;rw[h i (zAm.mp a)]
theorem qv6(h:f ds=some (.int n))(a:Jg n=true)(k:Gf g t e (Bo 0 n.toNat) ds):qan8 (Li (tbV (Bs f) A6)) g t e ds:=by show orF (f ds) _;rw[h];exact⟨a,k⟩
theorem qaq7{g:VTG}{n:Int}(h:rdN i ds=some (.int n))(a:Jg n=true)(k:Gf g t e (Bo 0 n.toNat) (ds.set i .u)):qan8 (Li (tbN i A6)) g t e ds:=by refine⟨by rw[h];rfl,?_⟩;exact qa2 h ⟨a,k⟩
theorem qaD4{z:Bool}:J1 true (.int k) (.l z (Re ks))=some (.bl (!decide (k∈ks))):=by show ((flats (Re ks)).bind λa=>some (D.bl (if true=true then !inV (.int k) a else inV (.int k) a)))=_;rw[qy9];show some (D.bl (!inV (.int k) (ks.map V.int)))=_;rw[qah3]
theorem qaR3{z:Bool}:J1 false (.int k) (.l z (Re ks))=some (.bl (decide (k∈ks))):=by show ((flats (Re ks)).bind λa=>some (D.bl (if false=true then !inV (.int k) a else inV (.int k) a)))=_;rw[qy9];show some (D.bl (inV (.int k) (ks.map V.int)))=_;rw[qah3]
theorem qV2(lo:Int)(n:Nat):(Bo lo n).length=n:=by unfold Bo;grind
theorem qy6(e:f ds=some d)(hi:d.imm=true)(q:Q d ds):Gq f ds Q xe:=qa2 e ⟨hi,q⟩
theorem qT7(h:f ds=some d)(hi:d.imm=true)(q:e.nx (ds.set i d)):Gw (Gq f) (gNm i) e ds:=qy6 h hi q
theorem qp8(h:f ds=some d)(q:e.nx (ds.set i d)):Gw (Bs f) (gNm i) e ds:=qm4 h q
theorem qy7{n:Nat}{K:Ds->Prop}(hi:ds[i]?=some (.l false ys))(a:fb ds=some (.int k))(b:ixN ys.length k=some n)(q:K (ds.set i (.l false (ys.set n d)))):G5 (λ_=>some (i,[])) fb d ds K:=by refine qa2 rfl ?_;refine qa2 (by show (A9 ds i []).bind D.own=_;rw[qG7 hi];rfl) ?_;refine qa2 (by rw[a];rfl) ?_;refine qa2 b ?_;rw[qE1 hi];exact q
theorem qT4{n:Nat}(a:f ds=some d)(b:d.imm=true)(hi:ds[i]?=some (.l false ys))(c:fb ds=some (.int k))(g:ixN ys.length k=some n)(q:e.nx (ds.set i (.l false (ys.set n d)))):Gw (Gq f) (G5 (λ_=>some (i,[])) fb) e ds:=qy6 a b (qy7 hi c g q)
theorem qac1{n:Nat}(a:f ds=some d)(hi:ds[i]?=some (.l false ys))(b:fb ds=some (.int k))(c:ixN ys.length k=some n)(q:e.nx (ds.set i (.l false (ys.set n d)))):Gw (Bs f) (G5 (λ_=>some (i,[])) fb) e ds:=qm4 a (qy7 hi b c q)
theorem qh8(b:f ds=some y)(hi:y.imm=true)(h:tr ds (λxs ps a=>K (y::xs) (.no::ps) a) xe):tbV (Gq f) tr ds K xe:=qy6 b hi h
theorem qal0(hi:ds[i]?=some (.l false ys))(a:f ds=some d)(b:ys.length<big)(q:Q .non (ds.set i (.l false (ys++[d])))):Hs gApp i (tbV (Bs f) A6) ds Q xe:=by
 have e:(rdN i ds).bind D.own=some ys:=by rw[qc7 hi rfl];rfl
 refine⟨by rw[e];rfl,qe1 a ?_⟩;exact qa2 e (qa2 (if_pos b) q)
theorem qaU8(hi:ds[i]?=some (.l false ys))(a:ds[j]?=some d)(b:d.known=true)(c:i≠j)(f:ys.length<big)(q:Q .non ((ds.set j .u).set i (.l false (ys++[d])))):Hs gApp i (tbN j A6) ds Q xe:=by
 have e:(rdN i ds).bind D.own=some ys:=by rw[qc7 hi rfl];rfl
 have e2:(rdN i (ds.set j .u)).bind D.own=some ys:=by rw[qc7 (by rw[zBi (Ne.symm c)];exact hi) rfl];rfl
 refine⟨by rw[e];rfl,qc1 (qc7 a b) ?_⟩;exact qa2 (qc7 a b) (qa2 e2 (qa2 (if_pos f) q))
theorem qaQ0{p:List Nat}(h1:pf ds=some (i,p))(h2:(A9 ds i p).bind D.own=some ys)(a:ds[i]?=some d0)(h:tr (ds.set i .u) (λxs _ ds1=>orF (g ys xs) λz=>Q z.2 (Bi (ds1.set i d0) i p (.l false z.1))) xe):Ir g pf tr ds Q xe:=by unfold Ir;rw[h1];show orF ((A9 ds i p).bind D.own) _;rw[h2];rw[a];exact h
theorem qbe0{f:Int->Int->Int}{a:FV}{x y:Int}(hi:ds[i]?=some (.l false ys))(b:fb ds=some (.int k))(c:0<=k)(d:ys[k.toNat]?=some (.int x))(g:a ds=some (.int y))(q:e.nx (ds.set i (.l false (ys.set k.toNat (.int (f x y)))))):sAugV f (λ_=>some (i,[])) fb a e ds:=by refine qa2 rfl ?_;refine qa2 (by show (A9 ds i []).bind D.own=_;rw[qG7 hi];rfl) ?_;refine qa2 (by rw[b];rfl) ⟨c,?_⟩;refine qa2 (by rw[d];rfl) ?_;refine qa2 (by rw[g];rfl) ?_;rw[qE1 hi];exact q
theorem and_e(b:Bool)(h:fa ds=some (.bl b))(h1:b=true->tb ds Q xe)(h2:b=false->Q (.bl false) ds):Ks (Bs fa) tb ds Q xe:=qm4 (xe:=xe) (Q:=λx ds=>orF x.asB λk=>if k=true then tb ds Q xe else Q (.bl false) ds) h (ite_b h1 h2)
theorem qp5{K:Ds->Prop}(h:K (ds.set i d)):gNm i d ds K:=h
theorem qc2(h:K [] [] ds):A6 ds K xe:=h
theorem qz1(h:te ds (λ_ a=>e.nx a) e.xe):sExpr te e ds:=h
theorem qR6{K:Ds->Prop}(h:K ((ds.set i x).set j y)):Kv 2 (qL4 (gNm i) (qL4 (gNm j) Iq)) (.q [x,y]) ds K:=⟨rfl,h⟩
theorem qal6{Q:Bool->Ds->Prop}(h:Q true ds):qYes ds Q xe:=h
theorem qV3:Re S++[.int k]=Re (S++[k]):=by unfold Re;rw[zBn];rfl
theorem qaJ1(h:tr ds (λxs _ ds1=>xs.length<=big/\a ds1 (λys c b=>K (.q xs::ys) (.no::c) b) xe) xe):tbV (Js tr) a ds K xe:=h
theorem qf4(h:ta ds (λx ds1=>tr ds1 (λxs ps a=>K (x::xs) (.no::ps) a) xe) xe):tbV ta tr ds K xe:=h
theorem qaJ2(a:fa ds=some x)(b:fb ds=some y)(c:x.imm=true)(d:y.imm=true):A8 gTup (Ay fa (Ay fb λ_=>some [])) ds=some (.q [x,y]):=by unfold A8 Ay;rw[a,b];refine qi2 ⟨?_,by show 2<=1000000;decide⟩;show (x.imm&&(y.imm&&true))=true;rw[c,d];rfl
theorem qv7:Bz ys none (some (r:Int))=ys.take r:=by unfold Bz;rw[(HT.qad7 _ _ r),HT.qP8,Os,Nat.sub_zero];grind
theorem qbc7(h:y∈enD ys):∃i v,y=.q [.int (i:Nat),v]/\ys[i]?=some v:=by obtain⟨⟨v,i⟩,a,rfl⟩:=zAy.mp h;exact⟨i,v,rfl,List.mem_zipIdx_iff_getElem?.mp a⟩
theorem qaL0{g:Nat->Option Int}(h:d∈Rf N g):d=.non∨∃k,d=.int k:=by unfold Rf at h;obtain⟨i,_,rfl⟩:=zAy.mp h;cases g i with|none=>exact .inl rfl|some k=>exact .inr ⟨k,rfl⟩
theorem qx4{Q:Bool->Ds->Prop}(h:ta ds (λx ds1=>orF ((fb ds1).bind (g x)) λd=>orF d.asB λb=>Q b ds1) xe):ttE (t2v g ta fb) ds Q xe:=h
theorem ql4(h:tr ds (λxs ps ds1=>s (xs++[]) (λd ys=>orF (Au ps ys ds1) λa=>Q d a) (λx ys=>orF (Au ps ys ds1) λa=>xe x a)) xe):qj2 s [] tr ds Q xe:=h
theorem qt8(b:fa ds=some x)(h:tb ds (λy a=>orF (g x y) λd=>Q d a) xe):t2 g (Bs fa) tb ds Q xe:=qm4 b h
theorem qI2(h:ta ds (λx ds1=>orF ((fb ds1).bind (g x)) λd=>Q d ds1) xe):t2v g ta fb ds Q xe:=h
theorem qaJ5(h:ta ds (λx ds1=>orF (fb ds1) λy=>y.imm=true/\orF (g x y) λd=>Q d ds1) xe):L8 g ta fb ds Q xe:=h
theorem qq4(h:tr ds (λxs _ ds1=>xs.length<=big/\Q (.l false xs) ds1) xe):tLstV tr ds Q xe:=h
theorem qe6(h:te ds (λd a=>e.nx (a.set i d)) e.xe):Gw te (gNm i) e ds:=h
theorem qaU9(h:ta ds (λx ds1=>orF x.asB λk=>if k=true then tb ds1 Q xe else Q (.bl false) ds1) xe):Ks ta tb ds Q xe:=h
theorem qU9(h:tr ds (λxs ps ds1=>s (.ins false C []::(xs++[])) (λd ys=>d.isN=some true/\orF ys.head? λself=>orF (Au ps ys.tail ds1) λa=>Q self a) (λx ys=>orF (Au ps ys.tail ds1) λa=>xe x a)) xe):qY3 C s [] tr ds Q xe:=h
theorem qf2{K:Ds->List Pl->Ds->Prop}(b:f ds=some y)(h:tr ds (λxs ps a=>K (y.fz::xs) (.no::ps) a) xe):tbV (tFzV (Bs f)) tr ds K xe:=qa2 b h
theorem I8(h:te ds (λd ds1=>Q d.fz ds1) xe):tFzV te ds Q xe:=h
def okN:Nat->D->Bool|n+1,.l _ xs=>xs.all (okN n)|n+1,.q xs=>xs.all (okN n)|_,x=>x.dk.isSome||x.flat.isSome
theorem qn0{f:D->D->Option Bool}:∀{xs:List D},(∀x∈xs,f x x=some true)->Hm f xs xs=some true|[],_=>rfl|x::xs,h=>by show ((f x x).bind λa=>(Hm f xs xs).bind λb=>some (a&&b))=_;rw[h x zAb,qn0 λy c=>h y (zA6 _ c)];rfl
theorem qaj5(h:(x.dk.isSome||x.flat.isSome)=true):eqZ x x=some true:=by unfold eqZ;split;{rfl};rename_i hn;rw[zB1,Bool.and_true,Bool.not_eq_true] at hn;rw[hn,Bool.false_or] at h;cases x with|non=>rfl|bl b=>show some (eqV (.bl b) (.bl b))=_;rw[qz2 rfl]|int i=>show some (eqV (.int i) (.int i))=_;rw[qz2 rfl]|str i=>show some (eqV (.str i) (.str i))=_;rw[qz2 rfl]|_=>cases h
theorem qz3:∀{n:Nat}{x:D},okN n x=true->eqN n x x=some true|0,x,h=>by rw[qR9];refine qaj5 ?_;cases x<;>exact h|n+1,x,h=>by cases x with|l z b=>exact qn0 λy a=>qz3 (zBo.mp h y a)|q b=>exact qn0 λy a=>qz3 (zBo.mp h y a)|_=>exact qaj5 h
theorem qbd4{src:List (Option Nat)}{g:VTG}{qf:VTT}(h:tr ds (λxs _ ds1=>orF (Mi xs) λj=>Jg j=true/\Iw src g qf te (Bo 0 j.toNat) ds1 Q) xe):tCR1 src (Li tr) g qf te ds Q xe:=h
theorem qaE5(h:(Re ks)[i]?=some y):∃z,ks[i]?=some z/\y=.int z:=by unfold Re at h;rw[zBd] at h;cases e:ks[i]? with|none=>rw[e] at h;cases h|some z=>rw[e] at h;exact⟨z,rfl,(Qc h).symm⟩
theorem qv8(h:ks[i]?=some k):ks.take (i+1)=ks.take i++[k]:=by rw[Og,h];rfl
theorem qQ8(b:ks.Nodup)(h:ks[i]?=some k):¬k∈ks.take i:=λz=>by
 obtain⟨j,a⟩:=zC8 z;rw[List.getElem?_take] at a;split at a
 .rename_i hlt
  obtain⟨d,c⟩:=zA5.mp h;obtain⟨e,e2⟩:=zA5.mp a
  have:=(Pg b).mp (e2.trans c.symm)
  lia
 cases a
theorem qai3:∀ps:Pr,D.fzs (Rg ps)=Rg ps|[]=>rfl|p::r=>congrArg (D.q [.int p.1,.int p.2]::·) (qai3 r)
theorem qaS7:∀ps:Pr,D.fzk (kvD ps)=kvD ps|[]=>rfl|p::r=>congrArg ((Sum.inl p.1,D.int p.2)::·) (qaS7 r)
theorem qai4:(Ra z C n wr ps).fz=Ra true C n wr ps:=by show D.ins true C [("rooms",.int n),("wraps",.bl wr),("homes",.l true (D.fzs (Rg ps))),("home_numbers",.dct true (D.fzk (kvD ps)))]=_;rw[qai3,qaS7];rfl
theorem qbd2{z:Bool}{T:List Int}{lo hi:FO}{l h:Option Int}(a:rdN i ds=some (.l z (Re S)))(h1:lo ds=some l)(h2:hi ds=some h)(e:Bz (Re S) l h=Re T):fsl (rdN i) lo hi ds=some (.l false (Re T)):=by unfold fsl;rw[a,Option.bind_some,h1,Option.bind_some,h2,Option.bind_some,if_pos (show noT (D.l z (Re S))=true from rfl)];show gd (D.imms (Bz (Re S) l h)=true) (D.l false (Bz (Re S) l h))=_;rw[e];exact qi2 (qo0 T)
theorem qaV3(h:A.length+B.length<=1000):Jd (.l z (Re A)) (.l z' (Re B))=some (.l false (Re (A++B))):=by rw[show Re (A++B)=Re A++Re B from zBn];exact qi2 ⟨qo0 A,qo0 B,by rw[qn5,qn5];unfold big;lia⟩
theorem co_to(h:tr ds (λxs _ ds1=>orF (gc xs) λd=>Q d ds1) xe):tcO gc (Li tr) ds Q xe:=h
theorem qaS1{t:VT}{C:γ}{n:Int}(b:Bool)(h:∀(Q:DK)(xe:XKd),Q (.bl b) ds->t ds Q xe)(h1:b=true->u e ds)(h2:b=false->e.xe ⟨C,[(fl,.int n)]⟩ ds):Ig (sIf (Gr (ttE t)) (qau1 C fl (Bs (kC (.int n)))) Jt) u e ds:=h _ _ (by
 cases b with
 |true=>exact h1 rfl
 |false=>exact⟨rfl,h2 rfl⟩)
theorem qS9{l m n:Int}(h1:l<=n)(h2:n<=m):(D.int n).within l m=true:=by show (decide (l<=n)&&decide (n<=m))=true;rw[zAn h1,zAn h2];rfl
theorem qaI2{p:List Nat}{w:V}{ps:List Pl}(h:A9 ds i p=some (.hole w)):Au (.pl i p w::ps) (y::ys) ds=Au ps ys (Bi ds i p y):=by show (match A9 ds i p with|some (.hole a)=>if a=w then Au ps ys (Bi ds i p y) else none|_=>none)=_;rw[h];exact if_pos rfl
theorem Mx{C:γ}(a:rdN i ds=some p)(hm:p.isM C m=true)(r:R [p] d)(b:Au [.sl i] [p] (ds.set i .u)=some ds)(q:Q d ds):qz8 C m (Aw R) [] i A6 ds Q xe:=qn4 a hm (qc2 (qa2 a (qp1 r (qa2 b q))))
theorem qam1(h:tr ds (λxs _ ds1=>xs.length<=big/\Q (.q xs) ds1) xe):Js tr ds Q xe:=h
theorem qam5(h:ta ds (λx ds1=>tb ds1 (λy a=>orF (g x y) λd=>Q d a) xe) xe):t2 g ta tb ds Q xe:=h
theorem qaW3(h:rdN i ds=some d)(q:Q d.fz (ds.set i d.fz)):tFz i ds Q xe:=qa2 h q
def Af(n:Int)(wr:Bool)(ps:Pr):D:=.q [.int n,.bl wr,.l true (Rg ps)]
theorem qax8(hi:ds[i]?=some (.l false ys))(a:f ds=some d)(b:d.imm=true)(c:ys.length<big)(q:Q .non (ds.set i (.l false (ys++[d])))):Hs gApp i (tbV (Gq f) A6) ds Q xe:=by
 have e:(rdN i ds).bind D.own=some ys:=by rw[qc7 hi rfl];rfl
 refine⟨by rw[e];rfl,qh8 a b ?_⟩;exact qa2 e (qa2 (if_pos c) q)
local macro_rules | `(tactic| walk_at "s")=>`(tactic| exact⟨rfl,rfl,rfl,by decide +kernel,rfl,by decide +kernel,by decide +kernel⟩)
local macro_rules | `(tactic| walk_at "m")=>`(tactic| (intro _ _ _ _ _ k l;repeat' first|exact id|exact k _ _|exact l _ _|refine Exists.imp λ_=>?_|refine And.imp ?_ ?_|refine Q9 ?_ ?_|refine forall_imp λ_=>?_))
local macro_rules | `(tactic| walk_at "l")=>`(tactic| (intro _ _ _ h;(repeat (first|refine Exists.elim h λ_ h=>?_|refine And.elim (λh _=>?_) h));rw[h];exact⟨rfl,rfl⟩))
theorem lt2:2<=big:=by show 2<=1000000;decide
theorem lt3:3<=big:=by show 3<=1000000;decide
theorem lt4:4<=big:=by show 4<=1000000;decide
noncomputable def top(i:Nat):Ny:=PySem.Challenge.pw_homeward_k33_rows_refused.main.body.getD i (.Pass ⟨0,0,0,0⟩)
abbrev qau0:Ny:=top 0
abbrev qo7:Ny:=qh3 (top 3) 0
abbrev qm0:Ny:=qh3 (top 4) 0
abbrev ql8:Ny:=qh3 (top 7) 0
abbrev qw6:Ny:=top 17
abbrev qg8:Ny:=top 18
abbrev qs0:Ny:=top 19
abbrev qo6:Ny:=top 20
abbrev qh9:Ny:=top 21
abbrev qk0:Ny:=top 22
abbrev qs3:Ny:=qh3 (top 23) 0
abbrev qk2:Ny:=qh3 (top 23) 2
abbrev qs4:Ny:=qh3 (top 23) 4
abbrev qx1:Ny:=qh3 (top 23) 5
abbrev qg9:Ny:=qh3 (top 23) 6
abbrev qo5:Ny:=top 25
abbrev qe9:Ny:=top 26
abbrev qw5:Ny:=top 27
abbrev qr9:Ny:=top 28
abbrev qw7:Ny:=top 29
abbrev qs1:Ny:=top 31
abbrev qk1:Ny:=top 32
abbrev qj9:Ny:=top 33
abbrev qw8:Ny:=top 34
abbrev qt2:Ny:=top 36
abbrev qn8:Ny:=top 37
abbrev qC0:Ny:=top 38
abbrev qx0:Ny:=qh3 (top 39) 0
abbrev qi0:Ny:=qh3 (top 39) 1
abbrev qi6:Ny:=qh3 (top 39) 2
abbrev qI9:Ny:=qh3 (top 39) 3
abbrev ql9:Ny:=qh3 (top 39) 4
abbrev qE9:Ny:=qh3 (top 39) 5
abbrev qw9:Ny:=qh3 (top 39) 6
abbrev qs2:Ny:=qh3 (top 39) 8
abbrev qP3:Ny:=top 41
abbrev qaA2:Ny:=top 42
abbrev qad3:Ny:=top 43
abbrev qad6:Ny:=top 44
abbrev qaA1:Ny:=top 45
abbrev qP7:Ny:=top 46
abbrev qx2:Ny:=top 47
abbrev qF1:Ny:=top 48
abbrev qk4:Ny:=top 49
abbrev qP5:Ny:=top 50
abbrev qx3:Ny:=top 51
abbrev qad4:Ny:=top 52
abbrev qad2:Ny:=top 53
abbrev qP4:Ny:=top 54
abbrev qad5:Ny:=top 55
abbrev qP6:Ny:=top 56
abbrev qaA0:Ny:=top 57
abbrev qF0:Ny:=top 58
abbrev qk3:Ny:=top 59
abbrev Jw:Ny:=top 60
set_option genInjectivity false in
set_option genSizeOf false in
structure Adr where
 f0:γ
 d0:δ
 f1:γ
 d1:δ
 f2:γ
 d2:δ
 f3:γ
 d3:δ
 f4:γ
 d4:δ
 f5:γ
 d5:δ
 f6:γ
 d6:δ
 f7:γ
 d7:δ
 f8:γ
 d8:δ
 f9:γ
 d9:δ
 f10:γ
 d10:δ
 f11:γ
 d11:δ
 f12:γ
 d12:δ
 f13:γ
 d13:δ
 f14:γ
 d14:δ
 f15:γ
 d15:δ
 f16:γ
 d16:δ
 f17:γ
 d17:δ
 f18:γ
 d18:δ
 f19:γ
 d19:δ
 f20:γ
 d20:δ
 f21:γ
 d21:δ
 f22:γ
 d22:δ
 f23:γ
 d23:δ
 f24:γ
 d24:δ
 f25:γ
 d25:δ
 f26:γ
 d26:δ
 f27:γ
 d27:δ
 f28:γ
 d28:δ
 f29:γ
 d29:δ
 f30:γ
 d30:δ
 f31:γ
 d31:δ
 f32:γ
 d32:δ
 f33:γ
 d33:δ
 f34:γ
 d34:δ
 f35:γ
 d35:δ
 f36:γ
 d36:δ
 f37:γ
 d37:δ
 f38:γ
 d38:δ
 f39:γ
 d39:δ
 f40:γ
 d40:δ
 f41:γ
 d41:δ
 f42:γ
 d42:δ
 f43:γ
 d43:δ
 f44:γ
 d44:δ
 f45:γ
 d45:δ
 f46:γ
 d46:δ
 f47:γ
 d47:δ
 f48:γ
 d48:δ
 f49:γ
 d49:δ
 f50:γ
 d50:δ
 f51:γ
 d51:δ
 f52:γ
 d52:δ
 f53:γ
 d53:δ
 f54:γ
 d54:δ
 Cr:Tok
 Cv:Tok
 Cw:Tok
 Ca:γ
 Cg:γ
 Cs:γ
 Cd:γ
 Cf:γ
 D6:γ
 Cp:γ
 Cc:γ
 D4:γ
 D0:γ
 D8:γ
 D2:γ
 Cy:γ
structure Txt(K:Qe)(mg:Str->Option V')(a:Adr):Prop where
 d0:Df K mg "_wall" "_wall" qau0 a.f0 a.d0 ["k"]
 d1:Md K a.Cd "__init__" "Wrong.__init__" qo7 a.f1 a.d1 ["self", "at"]
 d2:Md K a.Cf "__init__" "NoRoom.__init__" qm0 a.f2 a.d2 ["self", "room"]
 d3:Md K a.Cc "__init__" "Unkept.__init__" ql8 a.f3 a.d3 ["self", "word", "room"]
 d4:Df K mg "is_whole" "is_whole" qw6 a.f4 a.d4 ["thing"]
 d5:Df K mg "is_whole_within" "is_whole_within" qg8 a.f5 a.d5 ["thing", "least", "most"]
 d6:Df K mg "is_number" "is_number" qs0 a.f6 a.d6 ["thing"]
 d7:Df K mg "are_parted" "are_parted" qo6 a.f7 a.d7 ["numbers"]
 d8:Df K mg "is_number_pair" "is_number_pair" qh9 a.f8 a.d8 ["thing"]
 d9:Df K mg "is_home_list" "is_home_list" qk0 a.f9 a.d9 ["thing"]
 d10:Md K a.Ca "__init__" "Plan.__init__" qs3 a.f10 a.d10 ["self", "rooms", "wraps", "homes"]
 d11:Md K a.Ca "is_room" "Plan.is_room" qk2 a.f11 a.d11 ["self", "thing"]
 d12:Md K a.Ca "home" "Plan.home" qs4 a.f12 a.d12 ["self", "key"]
 d13:Md K a.Ca "far" "Plan.far" qx1 a.f13 a.d13 ["self", "key", "room"]
 d14:Md K a.Ca "goes_ahead" "Plan.goes_ahead" qg9 a.f14 a.d14 ["self", "room", "one", "other"]
 d15:Df K mg "room_ahead" "room_ahead" qo5 a.f15 a.d15 ["plan", "room"]
 d16:Df K mg "word_by_room_ahead" "word_by_room_ahead" qe9 a.f16 a.d16 ["plan", "rooms", "room"]
 d17:Df K mg "word_due" "word_due" qw5 a.f17 a.d17 ["plan", "rooms", "room"]
 d18:Df K mg "is_turned" "is_turned" qr9 a.f18 a.d18 ["plan", "rooms"]
 d19:Df K mg "fault_of" "fault_of" qw7 a.f19 a.d19 ["plan", "rooms"]
 d20:Df K mg "are_crowd" "are_crowd" qs1 a.f20 a.d20 ["plan", "keys", "room"]
 d21:Df K mg "crowded_room" "crowded_room" qk1 a.f21 a.d21 ["plan", "keys"]
 d22:Df K mg "refuse_crowd" "refuse_crowd" qj9 a.f22 a.d22 ["plan", "keys"]
 d23:Df K mg "bring_in" "bring_in" qw8 a.f23 a.d23 ["plan", "rooms", "key"]
 d24:Df K mg "room_behind" "room_behind" qt2 a.f24 a.d24 ["plan", "room"]
 d25:Df K mg "is_drawn_from" "is_drawn_from" qn8 a.f25 a.d25 ["plan", "rooms", "room"]
 d26:Df K mg "draw_back" "draw_back" qC0 a.f26 a.d26 ["plan", "rooms", "room"]
 d27:MdN K a.Cg "__init__" "Row.__init__" qx0 a.f27 a.d27 ["self", "plan", "rooms"]
 d28:Md K a.Cg "rooms_held" "Row.rooms_held" qi0 a.f28 a.d28 ["self"]
 d29:Md K a.Cg "keys_held" "Row.keys_held" qi6 a.f29 a.d29 ["self"]
 d30:Md K a.Cg "many" "Row.many" qI9 a.f30 a.d30 ["self"]
 d31:Md K a.Cg "room_of" "Row.room_of" ql9 a.f31 a.d31 ["self", "key"]
 d32:Md K a.Cg "put" "Row.put" qE9 a.f32 a.d32 ["self", "key"]
 d33:Md K a.Cg "take" "Row.take" qw9 a.f33 a.d33 ["self", "key"]
 d34:Md K a.Cg "deeds" "Row.deeds" qs2 a.f34 a.d34 ["self"]
 d35:Df K mg "_law_whole" "_law_whole" qP3 a.f35 a.d35 ["_law_found"]
 d36:Df K mg "_law_bag" "_law_bag" qaA2 a.f36 a.d36 ["_law_script"]
 d37:Df K mg "_law_take" "_law_take" qad3 a.f37 a.d37 ["_law_bag_here", "_law_many"]
 d38:Df K mg "_law_home" "_law_home" qad6 a.f38 a.d38 ["_law_plan", "_law_key"]
 d39:Df K mg "_law_far" "_law_far" qaA1 a.f39 a.d39 ["_law_plan", "_law_key", "_law_room"]
 d40:Df K mg "_law_ahead" "_law_ahead" qP7 a.f40 a.d40 ["_law_plan", "_law_room", "_law_one", "_law_other"]
 d41:Df K mg "_law_passing" "_law_passing" qx2 a.f41 a.d41 ["_law_plan", "_law_keys"]
 d42:Df K mg "_law_housed" "_law_housed" qF1 a.f42 a.d42 ["_law_plan", "_law_keys"]
 d43:Df K mg "_law_drawn_homes" "_law_drawn_homes" qk4 a.f43 a.d43 ["_law_bag_here", "_law_size", "_law_many"]
 d44:Df K mg "_law_drawn" "_law_drawn" qP5 a.f44 a.d44 ["_law_bag_here", "_law_most"]
 d45:Df K mg "_law_fitting" "_law_fitting" qx3 a.f45 a.d45 ["_law_plan", "_law_keys"]
 d46:Df K mg "_law_sort" "_law_sort" qad4 a.f46 a.d46 ["_law_e"]
 d47:Df K mg "_law_word" "_law_word" qad2 a.f47 a.d47 ["_law_plan", "_law_rooms", "_law_room"]
 d48:Df K mg "_law_fault" "_law_fault" qP4 a.f48 a.d48 ["_law_plan", "_law_rooms"]
 d49:Df K mg "_law_made" "_law_made" qad5 a.f49 a.d49 ["_law_plan", "_law_rooms"]
 d50:Df K mg "_law_asked" "_law_asked" qP6 a.f50 a.d50 ["_law_row", "_law_way", "_law_thing"]
 d51:Df K mg "_law_odd" "_law_odd" qaA0 a.f51 a.d51 ["_law_bag_here"]
 d52:Df K mg "_law_spoilt" "_law_spoilt" qF0 a.f52 a.d52 ["_law_bag_here", "_law_rooms", "_law_keys"]
 d53:Df K mg "_law_refused_row" "_law_refused_row" qk3 a.f53 a.d53 ["_law_there", "_law_bag_here", "_law_plan", "_law_rooms", "_law_keys"]
 d54:Df K mg "law" "law" Jw a.f54 a.d54 ["_law_script"]
 E9:mg "MOST_NUMBER"=some (.int 1000000000000000000 a.Cr)
 Eb:mg "MOST_ROOMS"=some (.int 64 a.Cv)
 Ec:mg "MOST_HOMES"=some (.int 64 a.Cw)
 Ee:mg "ValueError"=none
 Fv:mg "abs"=none
 Fq:mg "all"=none
 El:mg "bool"=none
 Ff:mg "dict"=none
 Ef:mg "enumerate"=none
 Eo:mg "int"=none
 Cb:mg "isinstance"=none
 D3:mg "len"=none
 Cz:mg "list"=none
 Fp:mg "max"=none
 Fi:mg "min"=none
 Cq:mg "range"=none
 Fw:mg "set"=none
 Fa:mg "sorted"=none
 Er:mg "tuple"=none
 Ce:Cl K mg "Plan" a.Ca
 Em:Mk K a.Ca a.f10
 Ch:qd1 K a.Ca "rooms"
 Cu:qd1 K a.Ca "wraps"
 Ed:qd1 K a.Ca "homes"
 Ct:qd1 K a.Ca "home_numbers"
 Fo:IsO K a.Ca
 Ci:Cl K mg "Row" a.Cg
 Fh:Mk K a.Cg a.f27
 Dc:qd1 K a.Cg "plan"
 Co:qd1 K a.Cg "held"
 De:qd1 K a.Cg "done"
 Dr:mg "HomeError"=some (.ref a.Cs)
 Dl:Exc K a.Cs
 Cj:mg "Wrong"=some (.ref a.Cd)
 D5:Exc K a.Cd
 Fj:Qf K (.ref a.Cd) (.type "ValueError")=some true
 Ck:MkE K a.Cd a.f1
 Dh:qd1 K a.Cd "at"
 Fg:IsX K a.Cd
 E3:Qf K (.ref a.Cd) (.ref a.Cf)=some false
 E6:Qf K (.ref a.Cd) (.ref a.D6)=some false
 Dk:Qf K (.ref a.Cd) (.ref a.Cp)=some false
 Dx:Qf K (.ref a.Cd) (.ref a.Cc)=some false
 E4:Qf K (.ref a.Cd) (.ref a.D4)=some false
 E2:Qf K (.ref a.Cd) (.ref a.D0)=some false
 E5:Qf K (.ref a.Cd) (.ref a.D8)=some false
 Dy:Qf K (.ref a.Cd) (.ref a.D2)=some false
 Do:Qf K (.ref a.Cd) (.ref a.Cy)=some false
 En:W.mroIn K a.Cd (.ref a.Cs)=some true
 Db:W.mroIn K a.Cd (.ref a.Cd)=some true
 Fd:W.mroIn K a.Cd (.ref a.Cc)=some false
 Eg:mg "NoRoom"=some (.ref a.Cf)
 Es:Exc K a.Cf
 Fs:Qf K (.ref a.Cf) (.type "ValueError")=some true
 Eu:MkE K a.Cf a.f2
 Ea:qd1 K a.Cf "room"
 Ft:IsX K a.Cf
 F8:Qf K (.ref a.Cf) (.ref a.Cd)=some false
 F6:Qf K (.ref a.Cf) (.ref a.D6)=some false
 Ek:Qf K (.ref a.Cf) (.ref a.Cp)=some false
 F5:Qf K (.ref a.Cf) (.ref a.Cc)=some false
 Ev:Qf K (.ref a.Cf) (.ref a.D4)=some false
 Ew:Qf K (.ref a.Cf) (.ref a.D0)=some false
 F7:Qf K (.ref a.Cf) (.ref a.D8)=some false
 Ez:Qf K (.ref a.Cf) (.ref a.D2)=some false
 Ep:Qf K (.ref a.Cf) (.ref a.Cy)=some false
 Ej:W.mroIn K a.Cf (.ref a.Cs)=some true
 Fb:W.mroIn K a.Cf (.ref a.Cd)=some false
 F9:W.mroIn K a.Cf (.ref a.Cc)=some false
 Fl:mg "There"=some (.ref a.D6)
 Eh:mg "NotThere"=some (.ref a.Cp)
 E7:mg "Unkept"=some (.ref a.Cc)
 D7:Exc K a.Cc
 Et:Qf K (.ref a.Cc) (.type "ValueError")=some true
 F4:MkE K a.Cc a.f3
 Da:qd1 K a.Cc "word"
 D9:qd1 K a.Cc "room"
 Ey:IsX K a.Cc
 Dt:Qf K (.ref a.Cc) (.ref a.Cd)=some false
 Dm:Qf K (.ref a.Cc) (.ref a.Cf)=some false
 Dv:Qf K (.ref a.Cc) (.ref a.D6)=some false
 Dg:Qf K (.ref a.Cc) (.ref a.Cp)=some false
 Dp:Qf K (.ref a.Cc) (.ref a.D4)=some false
 Dn:Qf K (.ref a.Cc) (.ref a.D0)=some false
 Dw:Qf K (.ref a.Cc) (.ref a.D8)=some false
 Dq:Qf K (.ref a.Cc) (.ref a.D2)=some false
 Di:Qf K (.ref a.Cc) (.ref a.Cy)=some false
 Ei:W.mroIn K a.Cc (.ref a.Cs)=some true
 E8:W.mroIn K a.Cc (.ref a.Cd)=some false
 Du:W.mroIn K a.Cc (.ref a.Cc)=some true
 Fe:mg "Unlike"=some (.ref a.D4)
 Fk:mg "NoText"=some (.ref a.D0)
 Fm:mg "NoRow"=some (.ref a.D8)
 Fc:mg "NoPlan"=some (.ref a.D2)
 Ex:mg "TooMany"=some (.ref a.Cy)
section
variable{P:Nu}{w:Nw}{K:Qe}{mg:Str->Option V'}{base:Heap}{a:Adr}
theorem qI8:qa9 ["self", "at"] ["self", "at"] (qa4 qo7):=by walk_at "s"
theorem qb8(T:Txt K mg a):Gv P w K mg base CX0 1 a.f1 a.d1 ["self", "at"] (spX1 a.Cd "at"):=by refine T.d1.F.ok qI8 (λb H Q E h=>?_) (λc A outer s H b Q E j h=>?_);{obtain⟨e,v,rfl,_⟩:=h;rfl};obtain⟨e,v,rfl,d,k⟩:=h;exact⟨_,(qJ1 (qU1 (pv 0) (pv 1))),_,rfl,_,rfl,e,a.Cd,rfl,T.D5,T.Dh,.inl ⟨d,λf g i=>k f g i⟩⟩
theorem qZ4:qa9 ["thing"] ["thing"] (qa4 qw6):=by walk_at "s"
def qY5:VSp:=Ga (fx1 λx=>x.kind.map λ_=>.bl x.whole)
theorem qZ8(T:Txt K mg a):VFn P w K mg base 1 a.f4 a.d4 ["thing"] qY5:=by refine VFn.mk' T.d4.F qZ4 (wOf [true]) qv4 (λ_ _ _=>qag4) (λ_ _ _=>imm1) (λ_ _ _ _ _ _ _ c=>⟨_,(Ag (An (qa3 (vand (vbi qj0 qB7.ops T.Cb (qa0 (vnm 0) (qa0 (vty "int" T.Eo) qa6 rfl) rfl)) (Lf (vnot (vbi qj0 qB7.ops T.Cb (qa0 (vnm 0) (qa0 (vty "bool" T.El) qa6 rfl) rfl)))))))),λf Q g h=>?_⟩);obtain⟨x,d,rfl,e,q⟩:=Mt h;obtain⟨t,b,rfl⟩:=zAc.mp e;cases x<;>first|exact q|cases b
theorem qr4:qa9 ["thing", "least", "most"] ["thing", "least", "most"] (qa4 qg8):=by walk_at "s"
def qr0:VSp:=Ga (fx3 λx l m=>x.kind.bind λ_=>l.asI.bind λi=>m.asI.map λj=>.bl (x.within i j))
theorem qg1(T:Txt K mg a):VFn P w K mg base 2 a.f5 a.d5 ["thing", "least", "most"] qr0:=by
 refine VFn.mk' T.d5.F qr4 (wOf [true,true,true]) qv4 (λ_ _ _=>qaQ8) (λ_ _ _=>imm3) (λ_ _ _ _ _ _ _ b=>⟨_,(Ag (An (Jq (Ah T.d4 (qZ8 T) qa1 (rm b) (vaN 0 Ab)) (Ld (qa3 (vch Ii Ij Ii Ij (vnm 1) (vnm 0) (vnm 2))))))),λo Q p h=>?_⟩);obtain⟨x,l,m,d,rfl,e,q⟩:=pure3 h;obtain⟨t,c,e⟩:=zA1.mp e;obtain⟨i,f,e⟩:=zA1.mp e;obtain⟨j,g,rfl⟩:=zAc.mp e;cases l<;>cases f;cases m<;>cases g;cases x with
 |int n=>
  refine⟨rfl,?_⟩;show orF (f3 gLe gLe (rdN 1) (rdN 0) (rdN 2) [.int n,.int i,.int j]) _;have k:f3 gLe gLe (rdN 1) (rdN 0) (rdN 2) [.int n,.int i,.int j]=some (.bl (decide (i<=n)&&decide (n<=j))):=by show (if decide (i<=n)=true then some (D.bl (decide (n<=j))) else some (.bl false))=_;cases decide (i<=n)<;>rfl
  rw[k];exact q
 |_=>first|exact⟨rfl,q⟩|cases c
theorem qI7:qa9 ["numbers"] ["numbers"] (qa4 qo6):=by walk_at "s"
def qI4:VSp:=Aw λds d=>∃z ks,ds=[.l z (Re ks)]/\ks.length<=1000/\d=.bl (decide ks.Nodup)
theorem qJ6(T:Txt K mg a):VFn P w K mg base 1 a.f7 a.d7 ["numbers"] qI4:=by
 refine VFn.mk2 T.d7.F qI7 (wOf [true]) qb5 (by walk_at "l") (λ_ _ _ _ _ _ _ e=>⟨_,(Ag (An (qa3 (v2 (A5 (qi8 e.u64) (qb0 _)) Bc (vlenS T.D3 T.Fw (vnm 0)) (vbi qu8 qu7.ops T.D3 (qa0 (vnm 0) qa6 rfl)))))),λj Q k h=>?_⟩);obtain⟨d,⟨z,b,rfl,f,rfl⟩,q⟩:=h;have g:f1 Ky (rdN 0) [.l z (Re b)]=some (.int (qm6 b)):=by show ((intsD (Re b)).bind λc=>gd (c.length<=1000) (.int (qm6 c)))=_;rw[qaw3];exact qi2 f
 have e2:f2 gEq (f1 Ky (rdN 0)) (A8 (fx1 Ia) (Ay (rdN 0) λx=>some [])) [.l z (Re b)]=some (.bl (decide b.Nodup)):=by show ((f1 Ky (rdN 0) [.l z (Re b)]).bind λx=>gEq x (.int (Re b).length))=_;rw[g,qn5];show some (D.bl ((qm6 b:Int)==(b.length:Int)))=_;have:=qS0 b;by_cases h:b.Nodup;{rw[zAn h,this.mpr h,zB1]};have i:¬((qm6 b:Int)=(b.length:Int)):=λz=>h (this.mp (by exact_mod_cast z));rw[zB3 h,beq_false_of_ne i]
 exact qa2 e2 q
theorem qO8:qa9 ["thing"] ["thing"] (qa4 qs0):=by walk_at "s"
def qo4:VSp:=Ga (fx1 λx=>x.kind.map λ_=>.bl x.num)
theorem qd3(T:Txt K mg a):VFn P w K mg base 3 a.f6 a.d6 ["thing"] qo4:=by refine VFn.mk' T.d6.F qO8 (wOf [true]) qv4 (λ_ _ _=>qag4) (λ_ _ _=>imm1) (λ_ _ _ _ _ _ _ b=>⟨_,(Ag (An (Ah T.d5 (qg1 T) qa1 (rm b) (vaN 0 (vaV (qa3 Ad) (vaV (qa3 (vgi T.E9)) Ab)))))),λf Q g h=>?_⟩);obtain⟨x,d,rfl,e,q⟩:=Mt h;obtain⟨t,c,rfl⟩:=zAc.mp e;cases x<;>first|exact⟨rfl,q⟩|cases c
theorem qu1:qa9 ["thing"] ["thing"] (qa4 qh9):=by walk_at "s"
def _root_.LV.D.pairB:D->Bool|.q [x,y]=>x.num&&y.num|_=>false
def _root_.LV.D.kinded:D->Bool|.q ds=>(ds.all λd=>d.kind.isSome&&d.imm)&&decide (ds.length<=1000)|_=>true
def qt9:VSp:=Ga (fx1 λx=>if x.kinded=true then x.kind.map λ_=>.bl x.pairB else none)
theorem qu5(T:Txt K mg a):VFn P w K mg base 4 a.f8 a.d8 ["thing"] qt9:=by
 refine VFn.mk' T.d8.F qu1 (wOf [true]) qv4 (λ_ _ _=>qag4) (λ_ _ _=>imm1) (λ_ _ _ _ _ _ _ f=>⟨_,(Ag (An (Jq (qa3 (vbi qj0 qB7.ops T.Cb (qa0 (vnm 0) (qa0 (vty "tuple" T.Er) qa6 rfl) rfl))) (Jq (qa3 (v2 (A5 (qi8 f.u64) (qb0 _)) Bc (vbi qu8 qu7.ops T.D3 (qa0 (vnm 0) qa6 rfl)) Ad)) (Jq (Ah T.d6 (qd3 T) qa1 (rm f) (vaV (qc4 (v2 (Av qb4) Am (vnm 0) Ad)) Ab)) (Ld (Ah T.d6 (qd3 T) qa1 (rm f) (vaV (qc4 (v2 (Av qb4) Am (vnm 0) Ad)) Ab)))))))),λb Q m h=>?_⟩);obtain⟨x,d,rfl,e,q⟩:=Mt h;cases x with
 |q b=>
  by_cases c:(D.q b).kinded=true
  .rw[if_pos c] at e;cases e;have c:=zAh.mp c;have i:=zBo.mp c.1;match b with
   |[]=>exact q|[_]=>exact q|[x,y]=>
    have j:=zAh.mp (i x (by simp));have l:=zAh.mp (i y (by simp));obtain⟨t,n⟩:=zB4.mp j.1;obtain⟨u,o⟩:=zB4.mp l.1;refine⟨j.2,?_⟩;refine qa2 (a:=D.bl x.num) (by show (x.kind.map _)=_;rw[n];rfl) ?_;refine ite_b (λg=>⟨l.2,qa2 (a:=D.bl y.num) (by show (y.kind.map _)=_;rw[o];rfl) ?_⟩) λg=>?_
    .have:(D.q [x,y]).pairB=y.num:=by show (x.num&&y.num)=_;rw[g];rfl
     rw[this] at q;exact q
    have:(D.q [x,y]).pairB=false:=by show (x.num&&y.num)=_;rw[g];rfl
    rw[this] at q;exact q
   |x::y::z::r=>
    have e2:f2 gEq (A8 (fx1 Ia) (Ay (rdN 0) λx=>some [])) (kC (D.int 2)) [.q (x::y::z::r)]=some (.bl false):=by
     show some (D.bl (((x::y::z::r).length:Int)==2))=_;have:(((x::y::z::r).length:Int)==2)=false:=by
      have:((x::y::z::r).length:Int)≠2:=by simp;lia
      simpa using this
     rw[this]
    have:orF (f2 gEq (A8 (fx1 Ia) (Ay (rdN 0) λx=>some [])) (kC (D.int 2)) [.q (x::y::z::r)]) (λd=>orF d.asB λk=>if k=true then Ks (qj2 qo4 [] (tbV (Gq (f2 gIx (rdN 0) (kC (D.int 0)))) A6)) (qj2 qo4 [] (tbV (Gq (f2 gIx (rdN 0) (kC (D.int 1)))) A6)) [.q (x::y::z::r)] (λd b=>Q d (fin (wOf [true]) 0 [.q (x::y::z::r)] b)) (λp b=>m p (fin (wOf [true]) 0 [.q (x::y::z::r)] b)) else Q (.bl false) [.q (x::y::z::r)]):=by rw[e2];exact q
    exact this
  rw[if_neg c] at e;cases e
 |_=>first|(cases e;exact q)|cases e
theorem qA5:qa9 ["thing"] ["thing"] (qa4 qk0):=by walk_at "s"
noncomputable def Kf:D->Option Int|.q (.int k::_)=>some k|_=>none
def _root_.LV.D.homesB:D->Bool|.l _ ys=>decide (ys.length<=64)&&(ys.all D.pairB&&decide (ys.filterMap Kf).Nodup)|_=>false
def _root_.LV.D.lstOk(p:D->Bool):D->Bool|.l _ ys=>D.imms ys&&ys.all p&&decide (ys.length<=1000)|x=>x.kind.isSome
def Mz(y:D):Bool:=y.kind.isSome&&y.kinded
theorem qaD2(h:x.num=true):∃n,x=.int n/\Ap n:=by cases x with|int n=>have:=zAh.mp h;exact⟨n,rfl,zAe this.1,zAe this.2⟩|_=>cases h
theorem qs6(h:Ap n):(D.int n).num=true:=by show (decide (0<=n)&&decide (n<=1000000000000000000))=true;rw[zAn h.1,zAn h.2];rfl
theorem qaO5(h:y.pairB=true):∃k m,y=.q [.int k,.int m]/\Ap k/\Ap m:=by cases y with|q a=>(match a,h with|[x,y],h=>have h:=zAh.mp h;obtain⟨k,rfl,b⟩:=qaD2 h.1;obtain⟨m,rfl,c⟩:=qaD2 h.2;exact⟨k,m,rfl,b,c⟩)|_=>cases h
theorem qae2:∀{ys:Ds},ys.all D.pairB=true->∃ps:Pr,ys=Rg ps/\∀p∈ps,Ap p.1/\Ap p.2|[],_=>⟨[],rfl,λp h=>by simp at h⟩|y::r,h=>by rw[Oh,zBk] at h;obtain⟨k,m,rfl,b,c⟩:=qaO5 h.1;obtain⟨ps,rfl,d⟩:=qae2 h.2;refine⟨(k,m)::ps,rfl,λp a=>?_⟩;rcases zAl.mp a with rfl|a;{exact⟨b,c⟩};exact d p a
theorem qag9:∀ps:Pr,(Rg ps).filterMap Kf=ps.map (·.1)|[]=>rfl|p::r=>by show p.1::(Rg r).filterMap Kf=_;rw[qag9 r];rfl
theorem qaV0:∀{ps:Pr},(∀p∈ps,Ap p.1/\Ap p.2)->(Rg ps).all D.pairB=true|[],_=>rfl|p::r,h=>by show (((D.int p.1).num&&(D.int p.2).num)&&(Rg r).all D.pairB)=true;rw[qs6 (h p zAb).1,qs6 (h p zAb).2,qaV0 λq a=>h q (zA6 _ a)];rfl
theorem qaV1:∀ps:Pr,(Rg ps).all Mz=true|[]=>rfl|p::r=>by show (true&&(Rg r).all Mz)=true;rw[qaV1 r];rfl
theorem qK9(h:L7 ps):(D.l z (Rg ps)).homesB=true/\(D.l z (Rg ps)).lstOk Mz=true:=by
 have a:(Rg ps).length<=64:=by simpa[Rg] using h.len
 constructor;{show (decide ((Rg ps).length<=64)&&((Rg ps).all D.pairB&&decide ((Rg ps).filterMap Kf).Nodup))=true;rw[zAn a,qaV0 h.nums,qag9,zAn h.nd];rfl};show (D.imms (Rg ps)&&(Rg ps).all Mz&&decide ((Rg ps).length<=1000))=true;rw[qK8,qaV1,zAn ⋯];rfl
theorem qX7{α:Type}(f:α->Bool):∀l:List α,bools (l.map λa=>.bl (f a))=some (l.map f)|[]=>rfl|a::r=>by show (bools (r.map λa=>D.bl (f a))).map (λb=>f a::b)=_;rw[qX7 f r];rfl
theorem qaV2(f:α->Bool)(l:List α):gAll (.l false (l.map λa=>.bl (f a)))=some (.bl (l.all f)):=by show (bools (l.map λa=>D.bl (f a))).map (λb=>D.bl (b.all id))=_;rw[qX7];show some (D.bl ((l.map f).all id))=_;rw[Py];rfl
def qA0:VSp:=Aw λds d=>∃x,ds=[x]/\x.lstOk Mz=true/\d=.bl x.homesB
theorem qB0(T:Txt K mg a):VFn P w K mg base 5 a.f9 a.d9 ["thing"] qA0:=by
 refine VFn.mk2 T.d9.F qA5 (wOf [true]) qb5 (by walk_at "l") (λ_ _ _ _ _ _ _ A=>⟨_,(Aa (sif (tor (Bn (tv (vbi qj0 qB7.ops T.Cb (qa0 (vnm 0) (qa0 (vty "list" T.Cz) qa6 rfl) rfl)))) (Ho (q2 (Al Gg (qb0 _)) Gj (vbi qu8 qu7.ops T.D3 (qa0 (vnm 0) qa6 rfl)) (vgi T.Ec)))).te (Ag (An (qa3 vbl))) As) (Ag (An (Jq (ebi (qX6 rfl) qaT9.ops T.Fq (Gy (vaV (ecN (NY:=["pair"]) (src:=[none]) 0 (blk (λf C g H0 i=>(Bf 0 (show (["pair"]:List Str).Nodup by decide +kernel))) (λf C g H0 i=>Iu) (λf C g H0 i=>(Ah T.d8 (qu5 T) qt0 (rm A) (vaN 0 Ab))))) Ab))) (Ld (Ah T.d7 (qJ6 T) qa1 (rm A) (vaV (ecN (NY:=["pair"]) (src:=[none]) 0 (blk (λf C g H0 i=>(Bf 0 (show (["pair"]:List Str).Nodup by decide +kernel))) (λf C g H0 i=>Iu) (λf C g H0 i=>(qc4 (v2 (Av qb4) Am (vnm 0) Ad))))) Ab))))))),λJ Q L h=>?_⟩);obtain⟨d,⟨x,rfl,j,rfl⟩,q⟩:=h;cases x with
 |l z b=>
  have j:=zAh.mp j;have k:=zAh.mp j.1;have B:=zAe j.2;refine ite_b (p:=decide ((64:Int)<(b.length:Nat))) (λh=>?_) (λh=>?_)
  .have o:¬b.length<=64:=by have:=zAe h;lia
   have:(D.l z b).homesB=false:=by show (decide (b.length<=64)&&_)=false;rw[zB3 o];rfl
   rw[this] at q;exact q
  have o:b.length<=64:=by have:=zBj h;lia
  have E:(D.l z b).homesB=(b.all D.pairB&&decide (b.filterMap Kf).Nodup):=by show (decide (b.length<=64)&&_)=_;rw[zAn o];rfl
  have m:=zBo.mp k.2;refine⟨k.1,?_⟩;refine qo2 (λι=>∃d,ι=[d]) (λy=>some (.bl y.pairB)) b [] _ (by show 0+b.length<big;unfold big;lia) ⟨_,rfl⟩ ?_ ?_;{rintro y s ι u ⟨d,rfl⟩ R v c;have G:=zAh.mp (m y s);obtain⟨t,H⟩:=zB4.mp G.1;refine qH8 (x:=y) (rd0 (qd4 H)) (qa2 (a:=D.bl y.pairB) ?_ ?_);{show (if y.kinded=true then y.kind.map _ else none)=_;rw[if_pos G.2,H];rfl};exact⟨c,v _ ⟨_,rfl⟩⟩};rintro ι ⟨d,rfl⟩;rw[zBh,qai6];refine qa2 (qaV2 D.pairB b) (ite_b (λr=>?_) λr=>?_)
  .obtain⟨n,rfl,M⟩:=qae2 r;refine⟨qK8 n,qo2 (λι=>∃d,ι=[d]) (λy=>(Kf y).map .int) (Rg n) [] _ (by show 0+(Rg n).length<big;unfold big;lia) ⟨_,rfl⟩ ?_ ?_⟩;{rintro y s ι u ⟨d,rfl⟩ R v c;obtain⟨p,I,rfl⟩:=zAy.mp s;exact⟨rfl,c,v _ ⟨_,rfl⟩⟩};rintro ι ⟨d,rfl⟩;have e:[]++(Rg n).filterMap (λy=>(Kf y).map D.int)=Re (n.map (·.1)):=by rw[zBh];unfold Rg Re;rw[Ou,zCn];exact qai6 _ _
   rw[e];rw[E,r,qag9] at q;exact⟨_,⟨false,_,rfl,by simp;simp[Rg] at o;lia,rfl⟩,q⟩
  rw[E,r] at q;exact q
 |_=>first|exact q|cases j
theorem qP1:qa9 ["self", "rooms", "wraps", "homes"] ["self", "rooms", "wraps", "homes"] (qa4 qs3):=by walk_at "s"
def qO0(C:γ):VSp:=λds Q _=>∃n wr z ps,ds=[.ins false C [],.int n,.bl wr,.l z (Rg ps)]/\1<=n/\n<=64/\L7 ps/\Q .non [Ra false C n wr ps,.int n,.bl wr,.l z (Rg ps)]
theorem qav8:Jo (.l z (Rg ps))=some (.l false (Rg ps)):=qi2 (qK8 ps)
theorem qx7(T:Txt K mg a):VFn P w K mg base 6 a.f10 a.d10 ["self", "rooms", "wraps", "homes"] (qO0 a.Ca):=by refine VFn.mk2 T.d10.F qP1 (wOf [true,true,true,true]) (by walk_at "m") (by walk_at "l") (λ_ _ _ _ _ _ _ f=>⟨_,(Aa (sif (Bn (te (Ah T.d5 (qg1 T) qa1 (rm f) (vaN 1 (vaV (qa3 Ad) (vaV (qa3 (vgi T.Eb)) Ab)))))) (Ag (qq9 T.Ck (qb8 T) (rm f) T.Cj T.d1.b qa1 (qa3 Ad))) As) (Aa (sif (Bn (tv (vbi qj0 qB7.ops T.Cb (qa0 (vnm 2) (qa0 (vty "bool" T.El) qa6 rfl) rfl)))) (Ag (qq9 T.Ck (qb8 T) (rm f) T.Cj T.d1.b qa1 (qa3 Ad))) As) (Aa (sif (Bn (te (Ah T.d9 (qB0 T) qa1 (rm f) (vaN 3 Ab)))) (Ag (qq9 T.Ck (qb8 T) (rm f) T.Cj T.d1.b qa1 (qa3 Ad))) As) (Aa (Kb rfl (vpn 0) (qc4 (vnm 1)) T.Ce.cl T.Ch) (Aa (Kb rfl (vpn 0) (qc4 (vnm 2)) T.Ce.cl T.Cu) (Aa (Kb rfl (vpn 0) (qa3 (Hq qf0 qz6.ops T.Cz (qa0 (vnm 3) qa6 rfl))) T.Ce.cl T.Ed) (Ag (Kb rfl (vpn 0) (qa3 (Hq (qM2 rfl) qax2.ops T.Ff (qa0 (vnm 3) qa6 rfl))) T.Ce.cl T.Ct)))))))),λo Q i h=>?_⟩);obtain⟨n,wr,z,e,rfl,j,k,g,q⟩:=h;refine qb3 [.ins false a.Ca [],.int n,.bl wr,.l z (Rg e)] (λK c=>?_) (qb3 [.ins false a.Ca [],.int n,.bl wr,.l z (Rg e)] (λK c=>c) (qb3 [.ins false a.Ca [],.int n,.bl wr,.l z (Rg e)] (λK c=>?_) ?_));{refine qah7 (λQ i q=>ql4 (qc1 (x:=.int n) rfl (qe1 (y:=.int 1) rfl (qe1 (y:=.int 64) rfl (qc2 (qa2 (a:=D.int n) rfl (qF3 (d:=D.bl true) ?_ q))))))) c;show some (D.bl ((D.int n).within 1 64))=_;rw[qS9 j k]};{refine qH8 rfl ⟨D.bl true,⟨_,rfl,(qK9 g).2,by rw[(qK9 g).1]⟩,c⟩};refine qb3 [.ins false a.Ca [("rooms",.int n)],.int n,.bl wr,.l z (Rg e)] (λK c=>⟨rfl,qa2 (a:=(0,[])) rfl (qa2 qk7 ⟨∅,c⟩)⟩) ?_;refine qb3 [.ins false a.Ca [("rooms",.int n),("wraps",.bl wr)],.int n,.bl wr,.l z (Rg e)] (λK c=>⟨rfl,qa2 (a:=(0,[])) rfl (qa2 qk7 ⟨by show 1<100;decide,c⟩)⟩) ?_;refine qb3 [.ins false a.Ca [("rooms",.int n),("wraps",.bl wr),("homes",.l false (Rg e))],.int n,.bl wr,.l z (Rg e)] (λK c=>?_) ?_;{refine qa2 (qav8 (z:=z)) ?_;exact qa2 (a:=(0,[])) rfl (qa2 qk7 ⟨by show 2<100;decide,c⟩)};refine qa2 (qax0 (z:=z) g.nd) ?_;exact qa2 (a:=(0,[])) rfl (qa2 qk7 ⟨by show 3<100;decide,q⟩)
theorem qE2:qa9 ["self", "word", "room"] ["self", "word", "room"] (qa4 ql8):=by walk_at "s"
theorem qF5(T:Txt K mg a):Gv P w K mg base CX0 1 a.f3 a.d3 ["self", "word", "room"] (spX2 a.Cc "word" "room"):=by
 refine T.d3.F.ok qE2 (λd H Q E h=>?_) (λf A outer s H d Q E j h=>?_);{obtain⟨e,v,y,rfl,_⟩:=h;rfl};obtain⟨e,v,y,rfl,g,k⟩:=h;exact⟨_,(qQ0 (qU1 (pv 0) (pv 1))
  (qJ1 (qU1 (pv 0) (pv 2)))),_,rfl,_,rfl,e,a.Cc,rfl,T.D7,T.Da,.inl ⟨g,λb i c=>⟨_,rfl,_,rfl,e,a.Cc,rfl,T.D7,T.D9,.inr ⟨b,[("word",v)],qb1,by rw[qb2 c,qb1],by show 1<1000;decide,k b i c⟩⟩⟩⟩
theorem qA6:qa9 ["self", "thing"] ["self", "thing"] (qa4 qk2):=by walk_at "s"
def qA2(C:γ):VSp:=Aw λds d=>∃z n wr ps x t,ds=[Ra z C n wr ps,x]/\x.kind=some t/\d=.bl (x.within 0 (n-1))
theorem qn9(T:Txt K mg a):VFn P w K mg base 3 a.f11 a.d11 ["self", "thing"] (qA2 a.Ca):=by refine VFn.mk2 T.d11.F qA6 (wOf [true,true]) qb5 (by walk_at "l") (λ_ _ _ _ _ _ _ f=>⟨_,(Ag (An (Ah T.d5 (qg1 T) qa1 (rm f) (vaN 1 (vaV (qa3 Ad) (vaV (qa3 (v2 (Aj qm3) qm2 (Bq rfl (vnm 0) T.Ce.cl T.Ch) Ad)) Ab)))))),λi Q j h=>?_⟩);obtain⟨d,⟨z,n,wr,b,x,t,rfl,c,rfl⟩,q⟩:=h;have e:rdN 1 [Ra z a.Ca n wr b,x]=some x:=ql3.mpr ⟨rfl,qd4 c⟩;have g:f2 gSub (f1 (D.fld a.Ca "rooms") (rdN 0)) (kC (.int 1)) [Ra z a.Ca n wr b,x]=some (.int (n-1)):=Ae (Ba rfl qe8) rfl rfl;show qj2 _ _ (tbN 1 _) [Ra z a.Ca n wr b,x] _ _;refine qc1 e ?_;refine qe1 (y:=.int 0) rfl ?_;refine qe1 g ?_;refine qa2 e ?_;refine qF3 (d:=.bl (x.within 0 (n-1))) ?_ (qa2 rfl q);show x.kind.bind _=_;rw[c];rfl
theorem qP2:qa9 ["self", "key"] ["self", "key"] (qa4 qs4):=by walk_at "s"
def qO1(C:γ):VSp:=Aw λds d=>∃z n wr ps k,ds=[Ra z C n wr ps,.int k]/\1<=n/\Ap k/\d=.int (qd2 n ps k)
theorem qai0{z:Bool}{ps:Pr}(h:fa ds=some (.dct z (kvD ps)))(a:rdN i ds=some (.int k)):fget fa (rdN i) (rdN i) ds=some (.int ((ps.lookup k).getD k)):=by unfold fget;rw[h,a];show gd (((Gm (kvD ps) (.inl k)).getD (.int k)).imm=true) ((Gm (kvD ps) (.inl k)).getD (.int k))=_;rw[qat4];cases ps.lookup k<;>rfl
theorem qaD8{x:Int}(h:1<=n):La (.int x) (.int n)=some (.int (x%n)):=qi2 (zAn ⋯)
theorem qo8(T:Txt K mg a):VFn P w K mg base 4 a.f12 a.d12 ["self", "key"] (qO1 a.Ca):=by refine VFn.mk2 T.d12.F qP2 (wOf [true,true]) qb5 (by walk_at "l") (λ_ _ _ _ _ _ _ c=>⟨_,(Aa (sif (Bn (te (Ah T.d6 (qd3 T) qa1 (rm c) (vaN 1 Ab)))) (Ag (qq9 T.Ck (qb8 T) (rm c) T.Cj T.d1.b qa1 (qa3 Ad))) As) (Ag (An (qa3 (v2 (Aj ql6) ql5 (vget (hu_of c) (Bq rfl (vnm 0) T.Ce.cl T.Ct) (vnm 1) (vnm 1) ⟨rfl,rfl,rfl,rfl⟩) (Bq rfl (vnm 0) T.Ce.cl T.Ch)))))),λi Q j h=>?_⟩);obtain⟨d,⟨z,n,wr,e,k,rfl,f,g,rfl⟩,q⟩:=h;have key:orF (f2 La (fget (f1 (D.fld a.Ca "home_numbers") (rdN 0)) (rdN 1) (rdN 1)) (f1 (D.fld a.Ca "rooms") (rdN 0)) [Ra z a.Ca n wr e,.int k]) (λd=>Q d [Ra z a.Ca n wr e,.int k]):=qa2 (Ae (qai0 (Ba rfl qaa7) rfl) (Ba rfl qe8) (qaD8 f)) q;exact qH8 rfl (qF3 (d:=D.bl true) (by show some (D.bl (D.int k).num)=_;rw[qs6 g]) (qa2 rfl (qa2 (a:=true) rfl key)))
theorem qB9:qa9 ["self", "key", "room", "steps"] ["self", "key", "room"] (qa4 qx1):=by walk_at "s"
def qZ0(C:γ):VSp:=Aw λds d=>∃z n wr ps k r,ds=[Ra z C n wr ps,.int k,.int r]/\1<=n/\Ap k/\0<=r/\r<n/\d=B6 (Aq n wr ps k r)
theorem qaD3(a:Ap k):fx1 (λx=>x.kind.map λ_=>.bl x.num) [.int k]=some (.bl true):=by show some (D.bl (D.int k).num)=_;rw[qs6 a]
theorem qau3{r:Int}(c:0<=r)(h1:r<n):∃z' n' a b x t,[Ra z C n wr ps,.int r]=[Ra z' C n' a b,x]/\x.kind=some t/\D.bl true=.bl (x.within 0 (n'-1)):=⟨z,n,wr,ps,_,_,rfl,rfl,by rw[qS9 c ⋯]⟩
theorem qm8(T:Txt K mg a):VFn P w K mg base 5 a.f13 a.d13 ["self", "key", "room"] (qZ0 a.Ca):=by refine VFn.mk2 T.d13.F qB9 (wOf [true,true,true]) qb5 (by walk_at "l") (λ_ _ _ _ _ _ _ e=>⟨_,(Aa (sif (Bn (te (Ah T.d6 (qd3 T) qa1 (rm e) (vaN 1 Ab)))) (Ag (qq9 T.Ck (qb8 T) (rm e) T.Cj T.d1.b qa1 (qa3 Ad))) As) (Aa (sif (Bn (te (qj5 0 T.d11 T.Ce.cl (qn9 T) qa1 (rm e) (vaN 2 Ab)))) (Ag (qq9 T.Ck (qb8 T) (rm e) T.Cj T.d1.b qa1 (qa3 Ad))) As) (Aa (Ak 3 qB9.nd (e2n 2 (Aj qm3) qm2 (qj5 0 T.d12 T.Ce.cl (qo8 T) qa1 (rm e) (vaN 1 Ab)))) (Aa (sif (tv (Bq rfl (vnm 0) T.Ce.cl T.Cu)) (Ag (An (qa3 (v2 (Aj ql6) ql5 (vnm 3) (Bq rfl (vnm 0) T.Ce.cl T.Ch))))) As) (Ag (An (eif (q2 (Al Jh (qb0 _)) Ko (vnm 3) Ad) (qc4 (vnm 3)) (qa3 Ax)))))))),λs Q i h=>?_⟩);obtain⟨d,⟨z,n,wr,c,k,r,rfl,j,m,f,g,rfl⟩,q⟩:=h;refine Jv (λQ i q=>qJ0 (x:=.int k) rfl (qaD3 m) rfl q) ?_;refine Jv (λQ i q=>Mu (p:=Ra z a.Ca n wr c) (x:=.int r) rfl (qi1 rfl) rfl rfl (qau3 f g) rfl q) ?_;refine qb3 [Ra z a.Ca n wr c,.int k,.int r,.int (r-qd2 n c k)] (λK o=>?_) ?_;{exact⟨rfl,Mu (p:=Ra z a.Ca n wr c) (x:=.int k) (d:=.int (qd2 n c k)) rfl (qi1 rfl) rfl rfl ⟨z,n,wr,c,k,rfl,j,m,rfl⟩ rfl (qa2 (a:=D.int (r-qd2 n c k)) rfl o)⟩};unfold Aq at q;refine qg2 wr (Ba rfl qH0) (λh=>?_) (λh=>?_);{subst h;exact qg6 (.int ((r-qd2 n c k)%n)) (Ae rfl (Ba rfl qe8) (qaD8 j)) q};subst h;refine qk5 (Iy (b:=decide (0<=r-qd2 n c k)) rfl (λh=>?_) (λh=>?_));{rw[if_neg ∅,if_pos (zAe h)] at q;exact⟨rfl,q⟩};rw[if_neg ∅,if_neg (zBj h)] at q;exact q
theorem qg0:qa9 ["self", "room", "one", "other", "one_far", "other_far"] ["self", "room", "one", "other"] (qa4 qg9):=by walk_at "s"
def qr1(C:γ):VSp:=Aw λds d=>∃z n wr ps r x y,ds=[Ra z C n wr ps,.int r,.int x,.int y]/\1<=n/\0<=r/\r<n/\Ap x/\Ap y/\d=.bl (qh4 n wr ps r x y)
theorem qar1{C:γ}{z:Bool}{n:Int}{wr:Bool}{ps:Pr}{r:Int}(h1:1<=n)(d:Ap k)(e:0<=r)(f:r<n):∃z' n' a b k' c,[Ra z C n wr ps,.int k,.int r]=[Ra z' C n' a b,.int k',.int c]/\1<=n'/\Ap k'/\0<=c/\c<n'/\B6 (Aq n wr ps k r)=B6 (Aq n' a b k' c):=⟨z,n,wr,ps,k,r,rfl,h1,d,e,f,rfl⟩
theorem qj4(T:Txt K mg a):VFn P w K mg base 6 a.f14 a.d14 ["self", "room", "one", "other"] (qr1 a.Ca):=by
 refine VFn.mk2 T.d14.F qg0 (wOf [true,true,true,true]) qb5 (by walk_at "l") (λ_ _ _ _ _ _ _ e=>⟨_,(Aa (sif (Bn (te (qj5 0 T.d11 T.Ce.cl (qn9 T) qa1 (rm e) (vaN 1 Ab)))) (Ag (qq9 T.Ck (qb8 T) (rm e) T.Cj T.d1.b qa1 (qa3 Ad))) As) (Aa (sif (Bn (te (Ah T.d6 (qd3 T) qa1 (rm e) (vaN 2 Ab)))) (Ag (qq9 T.Ck (qb8 T) (rm e) T.Cj T.d1.b qa1 (qa3 Ad))) As) (Aa (sif (Bn (te (Ah T.d6 (qd3 T) qa1 (rm e) (vaN 3 Ab)))) (Ag (qq9 T.Ck (qb8 T) (rm e) T.Cj T.d1.b qa1 (qa3 Ad))) As) (Aa (Ak 4 qg0.nd (qj5 0 T.d13 T.Ce.cl (qm8 T) qa1 (rm e) (vaN 2 (vaN 1 Ab)))) (Aa (Ak 5 qg0.nd (qj5 0 T.d13 T.Ce.cl (qm8 T) qa1 (rm e) (vaN 3 (vaN 1 Ab)))) (Aa (sif (q2 (Al Gd (qb0 _)) Gc (vnm 4) Ax) (Ag (An (qa3 vbl))) As) (Aa (sif (q2 (Al Gd (qb0 _)) Gc (vnm 5) Ax) (Ag (An (qa3 vbl))) As) (Ag (An (qa3 (vor (v2 (A5 Gg (qb0 _)) Gj (vnm 4) (vnm 5)) (Lf (vand (v2 (A5 (qi8 e.u64) (qb0 _)) Bc (vnm 4) (vnm 5)) (Lf (v2 (A5 op_lt (qb0 _)) os_lt (vnm 2) (vnm 3)))))))))))))))),λA Q k h=>?_⟩);obtain⟨d,⟨z,n,wr,c,r,x,y,rfl,o,i,j,s,t,rfl⟩,q⟩:=h;refine Jv (λQ k q=>Mu (p:=Ra z a.Ca n wr c) (x:=.int r) rfl (qi1 rfl) rfl rfl (qau3 i j) rfl q) ?_;refine Jv (λQ k q=>qJ0 (x:=.int x) rfl (qaD3 s) rfl q) ?_;refine Jv (λQ k q=>qJ0 (x:=.int y) rfl (qaD3 t) rfl q) ?_;refine qb3 [Ra z a.Ca n wr c,.int r,.int x,.int y,B6 (Aq n wr c x r),.u] (λK m=>?_) ?_;{exact qap8 (p:=Ra z a.Ca n wr c) (x:=.int x) (y:=.int r) rfl (qi1 rfl) rfl rfl rfl rfl (qar1 o s i j) rfl m};refine qb3 [Ra z a.Ca n wr c,.int r,.int x,.int y,B6 (Aq n wr c x r),B6 (Aq n wr c y r)] (λK m=>?_) ?_;{exact qap8 (p:=Ra z a.Ca n wr c) (x:=.int y) (y:=.int r) rfl (qi1 rfl) rfl rfl rfl rfl (qar1 o t i j) rfl m};unfold qh4 at q;cases u:Aq n wr c x r with
 |none=>rw[u] at q;exact q|some f=>
  rw[u] at q;cases v:Aq n wr c y r with
  |none=>rw[v] at q;exact q|some g=>
   rw[v] at q;refine qg2 false rfl nofun λ_=>?_
   refine qg2 false rfl nofun λ_=>?_
   exact qg6 _ (qaT2 (a:=decide (g<f)) rfl (qaj3 (a:=decide (f=g)) (b:=decide (x<y)) rfl rfl)) q
theorem qI6:qa9 ["plan", "room"] ["plan", "room"] (qa4 qo5):=by walk_at "s"
def qI3(C:γ):VSp:=Aw λds d=>∃z n wr ps r,ds=[Ra z C n wr ps,.int r]/\d=(if 0<r then .int (r-1) else if wr=true then .int (n-1) else .non)
theorem qJ5(T:Txt K mg a):VFn P w K mg base 1 a.f15 a.d15 ["plan", "room"] (qI3 a.Ca):=by refine VFn.mk2 T.d15.F qI6 (wOf [true,true]) qb5 (by walk_at "l") (λ_ _ _ _ _ _ _ e=>⟨_,(Aa (sif (q2 (Al Gg (qb0 _)) Gj (vnm 1) Ad) (Ag (An (qa3 (v2 (Aj qm3) qm2 (vnm 1) Ad)))) As) (Ag (An (eif (tv (Bq rfl (vnm 0) T.Ce.cl T.Cu)) (qa3 (v2 (Aj qm3) qm2 (Bq rfl (vnm 0) T.Ce.cl T.Ch) Ad)) (qa3 Ax))))),λf Q g h=>?_⟩);obtain⟨d,⟨z,n,wr,c,r,rfl,rfl⟩,q⟩:=h;refine At [Ra z a.Ca n wr c,.int r] rfl ?_;refine qg2 (decide (0<r)) rfl (λh=>?_) λh=>?_;{rw[if_pos (zAe h)] at q;exact q};rw[if_neg (zBj h)] at q;refine qk5 (Iy (b:=wr) (Ba rfl qH0) (λh=>?_) (λh=>?_));{rw[if_pos h] at q;exact qm4 (d:=.int (n-1)) (Ae (Ba rfl qe8) rfl rfl) q};rw[if_neg (by rw[h];decide)] at q;exact q
theorem qe2:qa9 ["plan", "rooms", "room", "ahead", "thing"] ["plan", "rooms", "room"] (qa4 qe9):=by walk_at "s"
noncomputable def Jx:Option Str->D|none=>.non|some s=>.str s
theorem qG3{t:D}{u:String}(h:t.kind=some u):t=.non∨t.isN=some false:=by cases t<;>first|exact .inl rfl|exact .inr rfl|cases h
theorem qq2{t:D}(h:t.num=true):∃x,t=.int x/\Ap x:=by cases t with|int x=>have:=zAh.mp h;exact⟨x,rfl,zAe this.1,zAe this.2⟩|_=>cases h
def wordA(n:Int)(wr:Bool)(ps:Pr)(p:Nat)(t:D)(k:Int):Option Str:=match t with|.non=>some "empty"|.int x=>if (D.int x).num=true then (if qh4 n wr ps (p:Int) x k=true then none else some "order") else none|_=>none
theorem qS8{n:Int}{wr:Bool}{ps:Pr}{p:Nat}{t:D}(h:t.num=false)(h':t.isN=some false):wordA n wr ps p t k=none:=by cases t with|non=>cases h'|int x=>show (if (D.int x).num=true then (if qh4 n wr ps (p:Int) x k=true then (none:Option Str) else some "order") else none)=none;rw[if_neg (by rw[h];decide)]|_=>rfl
structure Rm(n:Int)(ys:Ds)(r:Nat):Prop where
 len:ys.length=n.toNat
 kn:∀y∈ys,∃t,y.kind=some t
 im:D.imms ys=true
 fl:∀i y,i<r->ys[i]?=some y->y=.non∨∃k,y=.int k/\Ap k
theorem qU6{t:D}{u:String}(h:t.kind=some u):fx1 (λx=>x.kind.map λ_=>.bl x.num) [t]=some (.bl t.num):=by show t.kind.map _=_;rw[h];rfl
theorem Jy{z:Bool}(h:ys[r]?=some y):gIx (.l z ys) (.int (r:Int))=some y:=qM4 h
def qn2(C:γ):VSp:=Aw λds d=>∃z n wr ps z' ys r k t,ds=[Ra z C n wr ps,.l z' ys,.int (r:Nat)]/\1<=n/\r<n.toNat/\(0<r∨wr=true)/\Rm n ys 0/\ys[r]?=some (.int k)/\Ap k/\ys[Row.prev n.toNat r]?=some t/\d=Jx (wordA n wr ps (Row.prev n.toNat r) t k)
theorem qn3(T:Txt K mg a):VFn P w K mg base 7 a.f16 a.d16 ["plan", "rooms", "room"] (qn2 a.Ca):=by
 refine VFn.mk2 T.d16.F qe2 (wOf [true,true,true]) qb5 (by walk_at "l") (λ_ _ _ _ _ _ _ j=>⟨_,(Aa (Ak 3 qe2.nd (Ah T.d15 (qJ5 T) qa1 (rm j) (vaN 0 (vaN 2 Ab)))) (Aa (Ak 4 qe2.nd (qc4 (v2 (Av qb4) Am (vnm 1) (vnm 3)))) (Aa (sif (q2 (Al Gd (qb0 _)) Gc (vnm 4) Ax) (Ag (An (qa3 A4))) As) (Aa (sif (tand (te (Ah T.d6 (qd3 T) qa1 (rm j) (vaN 4 Ab))) (Kr (Bn (te (qj5 0 T.d14 T.Ce.cl (qj4 T) qa1 (rm j) (vaN 3 (vaN 4 (vaV (qc4 (v2 (Av qb4) Am (vnm 1) (vnm 2))) Ab)))))))).te (Ag (An (qa3 A4))) As) (Ag (An (qa3 Ax))))))),λL Q M h=>?_⟩);obtain⟨d,⟨z,n,wr,c,e,f,r,k,t,rfl,C,m,E,R,G,H,g,rfl⟩,q⟩:=h;refine At [Ra z a.Ca n wr c,.l e f,.int (r:Nat),.u,.u] rfl ?_;have I:=Row.qm1 (n:=n.toNat) m;have v:(if 0<((r:Nat):Int) then D.int ((r:Int)-1) else if wr=true then D.int (n-1) else .non)=.int (Row.prev n.toNat r:Nat):=by rcases Row.por n.toNat r with⟨e1,e2⟩|⟨e1,e2⟩;{rw[if_neg ⋯,if_pos (E.resolve_left ⋯),e2];congr 1;lia};rw[if_pos ⋯,e2];congr 1;lia
 generalize Row.prev n.toNat r=p at I v q g;obtain⟨u,i⟩:=R.kn t (zB5 g);refine qb3 [Ra z a.Ca n wr c,.l e f,.int (r:Nat),.int (p:Nat),.u] (λK o=>?_) ?_;{exact qF9 (x:=Ra z a.Ca n wr c) (y:=.int (r:Nat)) (d:=.int (p:Nat)) rfl rfl rfl ⟨z,n,wr,c,(r:Nat),rfl,v.symm⟩ rfl o};refine qb3 [Ra z a.Ca n wr c,.l e f,.int (r:Nat),.int (p:Nat),t] (λK o=>qa2 (Ae rfl rfl (Jy g)) ⟨qk9 R.im g,o⟩) ?_;have A:rdN 4 [Ra z a.Ca n wr c,.l e f,.int (r:Nat),.int (p:Nat),t]=some t:=qc7 rfl (qd4 i);rcases qG3 i with rfl|B;{exact qg2 true rfl (λ_=>q) nofun};refine qg2 false (Ae A rfl (by show t.isN.map D.bl=_;rw[B];rfl)) nofun λ_=>?_
 cases b:t.num with|false=>rw[qS8 b B] at q;exact qc8 false (λQ q=>qj8 false false (λQ q=>qJ0 (x:=t) (d:=.bl false) A (by rw[qU6 i,b]) rfl q) nofun q) nofun λ_=>q|true=>obtain⟨x,rfl,J⟩:=qq2 b;have q:Q (Jx (if (D.int x).num=true then (if qh4 n wr c (p:Int) x k=true then none else some "order") else none)) [Ra z a.Ca n wr c,.l e f,.int (r:Nat)]:=q;rw[if_pos b] at q;refine qc8 (!qh4 n wr c (p:Int) x k) (λQ q=>qj8 true _ (λQ q=>qJ0 (x:=.int x) (d:=.bl true) rfl (by rw[qU6 i,b]) rfl q) (λ_ Q q=>?_) q) (λh=>?_) λh=>?_;{refine qn4 (p:=Ra z a.Ca n wr c) rfl (qi1 rfl) (qc1 (x:=.int (p:Nat)) rfl (qc1 (x:=.int x) rfl (qh8 (y:=.int k) (Ae rfl rfl (Jy G)) rfl ?_)));refine qc2 ?_;refine qa2 (a:=D.int x) rfl ?_;refine qa2 (a:=D.int (p:Nat)) rfl ?_;exact(qa2 (a:=Ra z a.Ca n wr c) rfl (qp1 (d:=.bl (qh4 n wr c (p:Int) x k)) ⟨z,n,wr,c,(p:Nat),x,k,rfl,C,⋯,⋯,J,H,rfl⟩ q))};{rw[if_neg (by intro s;rw[s] at h;cases h)] at q;exact q};rw[if_pos (by cases s:qh4 n wr c (p:Int) x k with|true=>rfl|false=>rw[s] at h;cases h)] at q;exact q
theorem qr2:qa9 ["plan", "rooms", "room", "key", "far"] ["plan", "rooms", "room"] (qa4 qw5):=by walk_at "s"
noncomputable def atD(ys:Ds)(i:Nat):D:=(ys[i]?).getD .non
noncomputable def qt1(k:Int):D->Bool|.int j=>decide (j=k)|_=>false
def wordD(n:Int)(wr:Bool)(ps:Pr)(ys:Ds)(r:Nat):Option Str:=match atD ys r with|.non=>none|.int k=>if (D.int k).num=true then (if (ys.take r).any (qt1 k)=true then some "twice" else match Aq n wr ps k (r:Int) with|none=>some "home"|some f=>if f=0 then none else wordA n wr ps (Row.prev n.toNat r) (atD ys (Row.prev n.toNat r)) k) else some "key"|_=>some "key"
theorem qaj0{k:Int}:∀{l:Ds},(∀y∈l,y=.non∨∃j,y=.int j/\Ap j)->∃a,flats l=some a/\inV (.int k) a=l.any (qt1 k)|[],_=>⟨[],rfl,rfl⟩|y::l,h=>by obtain⟨a,c,e2⟩:=qaj0 (k:=k) λz d=>h z (zA6 _ d);rcases h y zAb with rfl|⟨j,rfl,_⟩;{refine⟨.non::a,?_,?_⟩;{show ((flats l).bind λb=>some (V.non::b))=_;rw[c];rfl};show (eqV .non (.int k)||inV (.int k) a)=(false||l.any (qt1 k));rw[e2];rfl};refine⟨.int j::a,?_,?_⟩;{show ((flats l).bind λb=>some (V.int j::b))=_;rw[c];rfl};show (eqV (.int j) (.int k)||inV (.int k) a)=(decide (j=k)||l.any (qt1 k));rw[e2];rfl
theorem qG6:∀{ys:Ds}{r:Nat},D.imms ys=true->D.imms (ys.take r)=true|[],r,_=>by rw[Pw];rfl|y::ys,0,_=>rfl|y::ys,r+1,h=>by have:=zAh.mp h;show (y.imm&&D.imms (ys.take r))=true;rw[this.1,qG6 this.2];rfl
theorem Rm.up{n:Int}(R:Rm n ys r){s:Nat}(h:s<=r):Rm n ys s:=⟨R.len,R.kn,R.im,λi y a=>R.fl i y ⋯⟩
def qY4(C:γ):VSp:=Aw λds d=>∃z n wr ps z' ys r,ds=[Ra z C n wr ps,.l z' ys,.int (r:Nat)]/\1<=n/\r<n.toNat/\Rm n ys r/\d=Jx (wordD n wr ps ys r)
theorem qZ7(T:Txt K mg a):VFn P w K mg base 8 a.f17 a.d17 ["plan", "rooms", "room"] (qY4 a.Ca):=by
 refine VFn.mk2 T.d17.F qr2 (wOf [true,true,true]) qb5 (by walk_at "l") (λ_ _ _ _ _ _ _ s=>⟨_,(Aa (Ak 3 qr2.nd (qc4 (v2 (Av qb4) Am (vnm 1) (vnm 2)))) (Aa (sif (q2 (Al Gd (qb0 _)) Gc (vnm 3) Ax) (Ag (An (qa3 Ax))) As) (Aa (sif (Bn (te (Ah T.d6 (qd3 T) qa1 (rm s) (vaN 3 Ab)))) (Ag (An (qa3 A4))) As) (Aa (sif (q2 (Al qm7 (by with_unfolding_all rfl)) Ik (vnm 3) (vsl (vnm 1) G2 (G3 (vnm 2)))) (Ag (An (qa3 A4))) As) (Aa (Ak 4 qr2.nd (qj5 0 T.d13 T.Ce.cl (qm8 T) qa1 (rm s) (vaN 3 (vaN 2 Ab)))) (Aa (sif (q2 (Al Gd (qb0 _)) Gc (vnm 4) Ax) (Ag (An (qa3 A4))) As) (Aa (sif (q2 (Al (qi8 s.u64) (qb0 _)) Bc (vnm 4) Ad) (Ag (An (qa3 Ax))) As) (Ag (An (Ah T.d16 (qn3 T) qa1 (rm s) (vaN 0 (vaN 1 (vaN 2 Ab))))))))))))),λX Q Y h=>?_⟩);obtain⟨d,⟨z,n,wr,c,g,b,r,rfl,E,j,R,rfl⟩,q⟩:=h;have N:=Row.qm1 (n:=n.toNat) j;obtain⟨v,o⟩:∃v,b[r]?=some v:=⟨b[r]'(by rw[R.len];exact j),by simp⟩;obtain⟨t,I⟩:∃t,b[Row.prev n.toNat r]?=some t:=⟨b[Row.prev n.toNat r]'(by rw[R.len];exact N),by simp⟩;obtain⟨u,A⟩:=R.kn v (zB5 o);have O:atD b r=v:=by unfold atD;rw[o];rfl
 have S:atD b (Row.prev n.toNat r)=t:=by unfold atD;rw[I];rfl
 unfold wordD at q;rw[O,S] at q;refine At [Ra z a.Ca n wr c,.l g b,.int (r:Nat),.u,.u] rfl ?_;refine qb3 [Ra z a.Ca n wr c,.l g b,.int (r:Nat),v,.u] (λK G=>qa2 (Ae rfl rfl (Jy o)) ⟨qk9 R.im o,G⟩) ?_;have J:rdN 3 [Ra z a.Ca n wr c,.l g b,.int (r:Nat),v,.u]=some v:=qc7 rfl (qd4 A);rcases qG3 A with rfl|L;{exact qg2 true rfl (λ_=>q) nofun};refine qg2 false (Ae J rfl (by show v.isN.map D.bl=_;rw[L];rfl)) nofun λ_=>?_
 cases e:v.num with
 |false=>refine qc8 true (λQ q=>qJ0 (x:=v) (d:=.bl false) J (by rw[qU6 A,e]) rfl q) (λ_=>?_) nofun;cases v with|non=>cases L|int k=>have q:Q (Jx (if (D.int k).num=true then _ else some "key")) [Ra z a.Ca n wr c,.l g b,.int (r:Nat)]:=q;rw[if_neg (by rw[e];decide)] at q;exact q|_=>exact q
 |true=>
  obtain⟨k,rfl,M⟩:=qq2 e;have q:Q (Jx (if (D.int k).num=true then (if (b.take r).any (qt1 k)=true then some "twice" else match Aq n wr c k (r:Int) with|none=>some "home"|some f=>if f=0 then none else wordA n wr c (Row.prev n.toNat r) t k) else some "key")) [Ra z a.Ca n wr c,.l g b,.int (r:Nat)]:=q;rw[if_pos e] at q;refine qc8 false (λQ q=>qJ0 (x:=.int k) (d:=.bl true) rfl (by rw[qU6 A,e]) rfl q) nofun λ_=>?_
  obtain⟨B,U,e2⟩:=qaj0 (k:=k) (l:=b.take r) λy V=>by obtain⟨i,C⟩:=zC8 V;rw[List.getElem?_take] at C;split at C;{rename_i hlt;exact R.fl i y hlt C};cases C
  have H:f2 (J1 false) (rdN 3) (fsl (rdN 1) foN (foS (rdN 2))) [Ra z a.Ca n wr c,.l g b,.int (r:Nat),.int k,.u]=some (.bl ((b.take r).any (qt1 k))):=by refine Ae (x:=.int k) (y:=.l false (b.take r)) rfl ?_ ?_;{show gSl (.l g b) none (some (r:Int))=_;show gd (D.imms (Bz b none (some (r:Int)))=true) (.l false (Bz b none (some (r:Int))))=_;rw[qv7];exact qi2 (qG6 R.im)};show ((flats (b.take r)).bind λB=>some (D.bl (if false=true then !inV (.int k) B else inV (.int k) B)))=_;rw[U];show some (D.bl (inV (.int k) B))=_;rw[e2]
  refine qg2 _ H (λh=>?_) λh=>?_;{rw[if_pos h] at q;exact q};rw[if_neg (by rw[h];decide)] at q;refine qb3 [Ra z a.Ca n wr c,.l g b,.int (r:Nat),.int k,B6 (Aq n wr c k (r:Nat))] (λK G=>?_) ?_;{exact qap8 (p:=Ra z a.Ca n wr c) (x:=.int k) (y:=.int (r:Nat)) rfl (qi1 rfl) rfl rfl rfl rfl (qar1 E M ⋯ ⋯) rfl G};cases m:Aq n wr c k (r:Nat) with
  |none=>rw[m] at q;exact qg2 true rfl (λ_=>q) nofun|some f=>
   rw[m] at q;refine qg2 false rfl nofun λ_=>?_
   refine qg2 (decide (f=0)) rfl (λh=>?_) λh=>?_;{have q:Q (Jx (if f=0 then none else wordA n wr c (Row.prev n.toNat r) t k)) [Ra z a.Ca n wr c,.l g b,.int (r:Nat)]:=q;rw[if_pos (zAe h)] at q;exact q};have q:Q (Jx (if f=0 then none else wordA n wr c (Row.prev n.toNat r) t k)) [Ra z a.Ca n wr c,.l g b,.int (r:Nat)]:=q;rw[if_neg (zBj h)] at q;refine qR3 (x:=Ra z a.Ca n wr c) (y:=.l g b) (w:=.int (r:Nat)) rfl rfl rfl rfl rfl ⟨z,n,wr,c,g,b,r,k,t,rfl,E,j,?_,R.up (zBg _),o,M,I,rfl⟩ rfl q;cases wr with|true=>exact .inr rfl|false=>left;unfold Aq at m;rw[if_neg ∅] at m;have:=(qah6 E c k).1;have W:=zBj h;split at m;{cases m;lia};cases m
theorem qO7:qa9 ["plan", "rooms"] ["plan", "rooms"] (qa4 qr9):=by walk_at "s"
def farP(n:Int)(wr:Bool)(ps:Pr):D->Bool
 |.q [.int i,.int k]=>match Aq n wr ps k i with|some f=>decide (0<f)|none=>false
 |_=>false
def qf1(n:Int)(wr:Bool)(ps:Pr)(ys:Ds):Bool:=(enD ys).all (farP n wr ps)
theorem qaH2(ys:Ds):(enD ys).length=ys.length:=by unfold enD;rw[zAk,List.length_zipIdx]
def qN7(C:γ):VSp:=Aw λds d=>∃z n wr ps z' ys,ds=[Ra z C n wr ps,.l z' ys]/\1<=n/\n<=64/\ys.length=n.toNat/\(∀i v,ys[i]?=some v->v=.non∨∃k,v=.int k/\Ap k/\Aq n wr ps k (i:Nat)≠none)/\d=.bl (qf1 n wr ps ys)
theorem qaF3{p:Nat->D->Prop}(h:∀i v,ys[i]?=some v->v=.non∨∃k,v=.int k/\p i v):D.imms ys=true:=by
 induction ys generalizing p with
 |nil=>rfl|cons y ys a=>
  have b:=h 0 y rfl;have c:y.imm=true:=by rcases b with rfl|⟨k,rfl,_⟩<;>rfl
  show (y.imm&&D.imms ys)=true;rw[c,a (p:=λi v=>p (i+1) v) λi v d=>h (i+1) v d];rfl
theorem qQ4(T:Txt K mg a):VFn P w K mg base 6 a.f18 a.d18 ["plan", "rooms"] (qN7 a.Ca):=by
 refine VFn.mk2 T.d18.F qO7 (wOf [true,true]) qb5 (by walk_at "l") (λ_ _ _ _ _ _ _ H=>⟨_,(Ag (An (ebi (qX6 rfl) qaT9.ops T.Fq (Gy (vaV (ecEN (NY:=["room", "key", "plan"]) (src:=[none,none,some 0]) 1 T.Ef (blk (λo C r H0 s=>(Kw (n:=2) rfl (qL3 (Bf 0 (show (["room", "key", "plan"]:List Str).Nodup by decide +kernel)) (qL3 (Bf 1 (show (["room", "key", "plan"]:List Str).Nodup by decide +kernel)) Ku)))) (λo C r H0 s=>Iu) (λo C r H0 s=>(Jq (qa3 (v2 (A5 qq1 (qb0 _)) qu4 (vnm 1) Ax)) (Ld (e2v (A5 Gg (qb0 _)) Gj (qj5 2 T.d13 T.Ce.cl (qm8 T) qt0 (rm H) (vaN 1 (vaN 0 Ab))) Ad)))))) Ab))))),λX Q Y h=>?_⟩);obtain⟨d,⟨z,n,wr,b,I,g,rfl,J,Z,t,u,rfl⟩,q⟩:=h;refine At [Ra z a.Ca n wr b,.l I g] rfl ?_;have L:D.imms g=true:=qaF3 (p:=λi v=>∃k,v=.int k/\Ap k/\Aq n wr b k (i:Nat)≠none) λi v h=>by rcases u i v h with h|⟨k,A,M,N⟩;{exact .inl h};exact .inr ⟨k,A,k,A,M,N⟩
 refine qk5 ?_;refine⟨L,?_⟩;refine qo2 (λι=>∃j m,ι=[j,m,Ra z a.Ca n wr b]) (λy=>some (.bl (farP n wr b y))) (enD g) [] _ (by show 0+(enD g).length<big;rw[qaH2,t];unfold big;lia) ⟨_,_,rfl⟩ ?_ ?_
 .rintro y O ι S ⟨j,m,rfl⟩ R B c;obtain⟨i,v,rfl,E⟩:=qbc7 O;have U:i<n.toNat:=by rw[<-t];exact(zA5.mp E).1
  refine qR6 (qal6 (G7 rfl ?_));rcases u i v E with rfl|⟨k,rfl,V,W⟩;{exact and_e false rfl nofun λ_=>⟨c,B _ ⟨_,_,rfl⟩⟩};refine and_e true rfl (λ_=>?_) nofun;refine qap8 (p:=Ra z a.Ca n wr b) (x:=.int k) (y:=.int (i:Nat)) rfl (qi1 rfl) rfl rfl rfl rfl (qar1 J V ⋯ ⋯) rfl ?_;have this:=B _ ⟨.int (i:Nat),.int k,rfl⟩;cases G:Aq n wr b k (i:Nat) with
  |none=>exact absurd G W|some f=>
   have e:farP n wr b (.q [.int (i:Nat),.int k])=decide (0<f):=by show (match Aq n wr b k (i:Nat) with|some f=>decide (0<f)|none=>false)=_;rw[G]
   rw[e] at this;exact qa2 (a:=D.bl (decide (0<f))) rfl ⟨c,this⟩
 rintro ι ⟨j,m,rfl⟩;rw[zBh,qai6];exact qa2 (qaV2 (farP n wr b) (enD g)) q
theorem qr5:qa9 ["plan", "rooms", "room", "word"] ["plan", "rooms"] (qa4 qw7):=by walk_at "s"
def qu6(n:Int)(wr:Bool)(ps:Pr)(ys:Ds):Option (Str×Nat):=(Ob n.toNat).findSome? λr=>(wordD n wr ps ys r).map λw=>(w,r)
def Ll(n:Int)(wr:Bool)(ps:Pr)(ys:Ds):D:=match qu6 n wr ps ys with|some (w,r)=>.q [.str w,.int (r:Nat)]|none=>if qf1 n wr ps ys=true then .q [.str "turned",.int 0] else .non
theorem qj1{n:Int}{wr:Bool}{ps:Pr}(c:ys[r]?=some v)(h:wordD n wr ps ys r=none):v=.non∨∃k,v=.int k/\Ap k/\Aq n wr ps k (r:Nat)≠none:=by
 have d:atD ys r=v:=by unfold atD;rw[c];rfl
 unfold wordD at h;rw[d] at h;cases v with|non=>exact .inl rfl|int k=>have h:(if (D.int k).num=true then (if (ys.take r).any (qt1 k)=true then (some "twice" : Option Str) else match Aq n wr ps k (r:Int) with|none=>some "home"|some f=>if f=0 then none else wordA n wr ps (Row.prev n.toNat r) (atD ys (Row.prev n.toNat r)) k) else some "key")=(none:Option Str):=h;by_cases a:(D.int k).num=true;{rw[if_pos a] at h;obtain⟨i,e,b⟩:=qq2 a;cases e;refine .inr ⟨k,rfl,b,λg=>?_⟩;rw[g] at h;split at h<;>cases h};rw[if_neg a] at h;cases h|_=>cases h
theorem qz0{α:Type}{r:Nat}{f:Nat->Option α}{a:α}:∀{N:Nat},r<N->(∀i,i<r->f i=none)->f r=some a->(Ob N).findSome? f=some a|0,hr,_,_=>absurd hr (zC1 _)|N+1,hr,h0,h=>by rw[O3,List.findSome?_append];by_cases b:r<N;{rw[qz0 b h0 h];rfl};have e:r=N:=⋯;subst e;rw[List.findSome?_eq_none_iff.mpr λi c=>h0 i (zAm.mp c)];show [r].findSome? f=_;rw[List.findSome?_cons,h]
theorem qH1{f:Nat->Option α}(a:∀i,i<N->f i=none):(Ob N).findSome? f=none:=List.findSome?_eq_none_iff.mpr λi b=>a i (zAm.mp b)
def qe3(n:Int)(wr:Bool)(ps:Pr)(ys:Ds):D:=if ys.length=n.toNat then Ll n wr ps ys else .q [.str "list",.int 0]
def qY6(C:γ):VSp:=Aw λds d=>∃z n wr ps z' ys,ds=[Ra z C n wr ps,.l z' ys]/\1<=n/\n<=64/\(∀y∈ys,∃t,y.kind=some t)/\D.imms ys=true/\d=qe3 n wr ps ys
theorem qZ9(T:Txt K mg a):VFn P w K mg base 9 a.f19 a.d19 ["plan", "rooms"] (qY6 a.Ca):=by
 refine VFn.mk2 T.d19.F qr5 (wOf [true,true]) qb5 (by walk_at "l") (λ_ _ _ _ _ _ _ C=>⟨_,(Aa (sif (tor (Bn (tv (vbi qj0 qB7.ops T.Cb (qa0 (vnm 1) (qa0 (vty "list" T.Cz) qa6 rfl) rfl)))) (Ho (q2 (Al (qi7 C.u64) (qb0 _)) B8 (vbi qu8 qu7.ops T.D3 (qa0 (vnm 1) qa6 rfl)) (Bq rfl (vnm 0) T.Ce.cl T.Ch)))).te (Ag (An (qa3 (Bk (qa0 A4 (qa0 Ad qa6 rfl) rfl))))) As) (Aa (qE0 Qd T.Cq (Gy (vaV (qc4 (Bq rfl (vnm 0) T.Ce.cl T.Ch)) Ab)) (Bf 2 qr5.nd) (Aa (Ak 3 qr5.nd (Ah T.d17 (qZ7 T) qa1 (rm C) (vaN 0 (vaN 1 (vaN 2 Ab))))) (Ag (sif (q2 (Al qq1 (qb0 _)) qu4 (vnm 3) Ax) (Ag (An (qa3 (Bk (qa0 (vnm 3) (qa0 (vnm 2) qa6 rfl) rfl))))) As)))) (Ag (An (eif (te (Ah T.d18 (qQ4 T) qa1 (rm C) (vaN 0 (vaN 1 Ab)))) (qa3 (Bk (qa0 A4 (qa0 Ad qa6 rfl) rfl))) (qa3 Ax)))))),λs Q V h=>?_⟩);obtain⟨d,⟨z,n,wr,f,g,c,rfl,H,J,E,L,rfl⟩,q⟩:=h;refine At [Ra z a.Ca n wr f,.l g c,.u,.u] rfl ?_;by_cases u:c.length=n.toNat;case neg=>
  have m:f2 gNe (A8 (fx1 Ia) (Ay (rdN 1) λ_=>some [])) (f1 (D.fld a.Ca "rooms") (rdN 0)) [Ra z a.Ca n wr f,.l g c,.u,.u]=some (.bl true):=Ae (qk8 rfl) (Ba rfl qe8) (by
   show some (D.bl (!((c.length:Nat):Int)==n))=_;rw[beq_false_of_ne ⋯];rfl)
  unfold qe3 at q;rw[if_neg u] at q;exact qc8 true (λQ q=>qh7 false true (λQ q=>qg3 (qy4 rfl) q) (λ_ Q q=>qf8 m q) q) (λ_=>q) nofun
 unfold qe3 at q;rw[if_pos u] at q;have m:f2 gNe (A8 (fx1 Ia) (Ay (rdN 1) λ_=>some [])) (f1 (D.fld a.Ca "rooms") (rdN 0)) [Ra z a.Ca n wr f,.l g c,.u,.u]=some (.bl false):=Ae (qk8 rfl) (Ba rfl qe8) (by show some (D.bl (!((c.length:Nat):Int)==n))=_;rw[show ((c.length:Nat):Int)=n by lia,zB1];rfl);refine qc8 false (λQ q=>qh7 false false (λQ q=>qg3 (qy4 rfl) q) (λ_ Q q=>qf8 m q) q) nofun λ_=>?_
 refine qc0 (λs=>(∀i,i<n.toNat->wordD n wr f c i=none)/\∃d A,s=[Ra z a.Ca n wr f,.l g c,d,A]) (λK t=>?_) ?_
 .refine qG9 (Ba rfl qe8) (qR2 ⋯ ⋯) ?_;refine qf7 (λi s=>(∀j,j<i->wordD n wr f c j=none)/\∃d A,s=[Ra z a.Ca n wr f,.l g c,d,A]) _ 0 _ ⟨λj B=>absurd B (zC1 _),_,_,rfl⟩ ?_ ?_
  .rintro j x M s ⟨o,d,A,rfl⟩ K t;rw[zAo] at o t;obtain⟨B,rfl⟩:=qP9 M;have R:Rm n c j:=⟨u,E,L,λi y p N=>by rcases qj1 N (o i p) with h|⟨k,O,S,_⟩;{exact .inl h};exact .inr ⟨k,O,S⟩⟩;refine qb3 [Ra z a.Ca n wr f,.l g c,.int (j:Nat),Jx (wordD n wr f c j)] (λK t=>qR3 (x:=Ra z a.Ca n wr f) (y:=.l g c) (w:=.int (j:Nat)) rfl rfl rfl rfl rfl ⟨z,n,wr,f,g,c,j,rfl,H,B,R,rfl⟩ rfl t) ?_;cases e:wordD n wr f c j with
   |none=>
    refine if_v (b:=false) rfl nofun λ_=>t _ ⟨λi p=>?_,_,_,rfl⟩
    rcases Nat.lt_succ_iff_lt_or_eq.mp p with h|rfl;{exact o i h};exact e
   |some w=>have G:qu6 n wr f c=some (w,j):=qz0 B (λi p=>by rw[o i p];rfl) (by rw[e];rfl);have q:Q (match qu6 n wr f c with|some (w,r)=>.q [.str w,.int (r:Nat)] | none=>if qf1 n wr f c=true then .q [.str "turned",.int 0] else .non) [Ra z a.Ca n wr f,.l g c]:=q;rw[G] at q;exact if_v (b:=true) rfl (λ_=>q) nofun
  rintro s ⟨o,U⟩;refine t _ ⟨λi p=>o i ?_,U⟩;unfold Bo;rw[zAk,zBb,zAo];exact p
 rintro s ⟨o,d,A,rfl⟩;have G:qu6 n wr f c=none:=qH1 λi p=>by rw[o i p];rfl
 have q:Q (match qu6 n wr f c with|some (w,r)=>.q [.str w,.int (r:Nat)] | none=>if qf1 n wr f c=true then .q [.str "turned",.int 0] else .non) [Ra z a.Ca n wr f,.l g c]:=q;rw[G] at q;refine qk5 ?_;refine qF9 (x:=Ra z a.Ca n wr f) (y:=.l g c) (d:=.bl (qf1 n wr f c)) rfl rfl rfl ⟨z,n,wr,f,g,c,rfl,H,J,u,λi v I=>qj1 I (o i (by rw[<-u];exact(zA5.mp I).1)),rfl⟩ rfl ?_;refine qa2 (a:=qf1 n wr f c) rfl (ite_b (λh=>?_) λh=>?_);{have q:Q (if qf1 n wr f c=true then .q [.str "turned",.int 0] else .non) [Ra z a.Ca n wr f,.l g c]:=q;rw[if_pos h] at q;exact q};have q:Q (if qf1 n wr f c=true then .q [.str "turned",.int 0] else .non) [Ra z a.Ca n wr f,.l g c]:=q;rw[if_neg (by rw[h];decide)] at q;exact q
theorem qr6:qa9 ["self", "plan", "rooms", "held", "fault"] ["self", "plan", "rooms"] (qa4 qx0):=by walk_at "s"
theorem qaI4{g:Nat->Option Int}(h:r<N):atD (Rf N g) r=Hb (g r):=by unfold atD;rw[qC7 h];rfl
theorem qaJ3{g:Nat->Option Int}(h:r<=N):(Rf N g).take r=Rf r g:=by unfold Rf;rw[<-O8,List.take_range,Nat.min_eq_left h]
theorem qbe3{g:Nat->Option Int}:(Rf r g).any (qt1 k)=true↔∃j,j<r/\g j=some k:=by unfold Rf;rw[Px,zC3];constructor;{rintro⟨j,a,e⟩;refine⟨j,zAm.mp a,?_⟩;have e:qt1 k (Hb (g j))=true:=e;cases h:g j with|none=>rw[h] at e;cases e|some x=>rw[h] at e;rw[zAe (show decide (x=k)=true from e)]};rintro⟨j,a,e⟩;refine⟨j,zAm.mpr a,?_⟩;show qt1 k (Hb (g j))=true;rw[e];exact zAn rfl
theorem qaI5{n:Int}{wr:Bool}{ps:Pr}{g:Nat->Option Int}(a:r<n.toNat)(b:g r=some k)(c:Ap k):wordD n wr ps (Rf n.toNat g) r=(if (Rf r g).any (qt1 k)=true then (some "twice" : Option Str) else match Aq n wr ps k (r:Int) with
   |none=>some "home"
   |some f=>if f=0 then none else wordA n wr ps (Row.prev n.toNat r) (Hb (g (Row.prev n.toNat r))) k):=by
 unfold wordD;rw[qaI4 a,qaI4 (Row.qm1 a),qaJ3 (zBc a),b];show (if (D.int k).num=true then _ else _)=_;rw[if_pos (qs6 c)]
 try rfl
theorem qaj7(h:ys[i]?=some v):D.q [.int (i:Nat),v]∈enD ys:=zAy.mpr ⟨(v,i),List.mem_zipIdx_iff_getElem?.mpr h,rfl⟩
theorem qK6{n:Int}{wr:Bool}{ps:Pr}{g:Nat->Option Int}(m:1<=n)(KP:Kept n.toNat wr (Rb n ps) g S)(t:∀k∈S,Ap k):Ll n wr ps (Rf n.toNat g)=.non:=by
 have p:∀{i k},i<n.toNat->g i=some k->Ap k:=λ{i k} l h=>t k ((KP.h.2 k).mpr ⟨i,l,h⟩);have b:qu6 n wr ps (Rf n.toNat g)=none:=qH1 λr d=>by
  have:wordD n wr ps (Rf n.toNat g) r=none:=by cases a:g r with|none=>unfold wordD;rw[qaI4 d,a];rfl|some k=>have q:=Row.qm1 d;rw[qaI5 d a (p d a),if_neg (λz=>by obtain⟨j,A,e⟩:=qbe3.mp z;have:=KP.o.inj j r k ⋯ d e a;lia),qL5 m d (λb=>KP.ln b r k d a)];show (if ((Ac n.toNat (Rb n ps k) r:Nat):Int)=0 then none else _)=_;by_cases B:Ac n.toNat (Rb n ps k) r=0;{rw[if_pos ⋯]};obtain⟨x,s,u⟩:=KP.o.ord r k d a ⋯;rw[if_neg ⋯,s];show (if (D.int x).num=true then (if qh4 n wr ps (Row.prev n.toNat r:Nat) x k=true then (none:Option Str) else some "order") else none)=none;have v:=G0 (ps:=ps) m k;rw[if_pos (qs6 (p q s)),if_pos ((qH9 (ps:=ps) m q (λb=>KP.ln b _ x q s) (λb=>by have C:=KP.ln b r k d a;have E:=dor n.toNat (Rb n ps k) r;have F:=por n.toNat r;lia)).mpr u)]
  rw[this];rfl
 have w:qf1 n wr ps (Rf n.toNat g)=false:=by obtain⟨i,l,y⟩:=KP.c;refine List.all_eq_false.mpr ⟨_,qaj7 (qC7 l),?_⟩;cases a:g i with|none=>exact λh=>by cases h|some k=>show ¬(match Aq n wr ps k (i:Nat) with|some f=>decide (0<f)|none=>false)=true;rw[qL5 m l (λb=>KP.ln b i k l a),(qg5 (G0 m k) l).mpr (y k a).symm];exact λh=>by cases h
 unfold Ll;rw[b,w];rfl
def Br(zr:Bool)(C CP:γ)(n:Int)(wr:Bool)(ps:Pr)(g:Nat->Option Int)(dn:Ds):D:=.ins zr C [("plan",Ra true CP n wr ps),("held",.l zr (Rf n.toNat g)),("done",.l zr dn)]
abbrev rA(a:Adr)(n:Int)(wr:Bool)(ps:Pr)(g:Nat->Option Int)(dn:Ds):D:=Br false a.Cg a.Ca n wr ps g dn
abbrev kL(S:List Int):D:=.l false (Re S)
abbrev rL(n:Int)(g:Nat->Option Int):D:=.l false (Rf n.toNat g)
section
variable{zr:Bool}{C CP:γ}{n:Int}{wr:Bool}{ps:Pr}{g:Nat->Option Int}{dn:Ds}
theorem qT9:D.fld C "plan" (Br zr C CP n wr ps g dn)=some (Ra true CP n wr ps):=qD0 (by rfl)
theorem qv1:D.fld C "held" (Br zr C CP n wr ps g dn)=some (.l zr (Rf n.toNat g)):=qD0 (by rfl)
theorem qao1:D.fld C "done" (Br zr C CP n wr ps g dn)=some (.l zr dn):=qD0 (by rfl)
theorem qh2(h:([("plan",Ra true CP n wr ps),("held",.l zr (Rf n.toNat g)),("done",.l zr dn)]:List (Str×D)).lookup m=none):(Br zr C CP n wr ps g dn).isM C m=true:=qaw2 h
end
theorem qW5:D.fidx C "held" (Br zr C CP n wr ps g dn)=some 1:=by show (if C=C then List.findIdx? (λq:Str×D=>("held" : Str)==q.1) [("plan",Ra true CP n wr ps),("held",.l zr (Rf n.toNat g)),("done",.l zr dn)] else none)=_;rw[if_pos rfl];rfl
theorem qbd8{p:List Nat}{w:V}{d0:D}(h:A9 ds i p=some (.hole w)):bk1 i p w d0 ds=some (Bi ds i p d0):=by unfold bk1 Au;rw[h];simp only[if_true];unfold Au;rfl
theorem qaG1{C:γ}{f:Str}{pf:PF}(h:te ds (λd ds1=>orF (pf ds1) λq=>orF ((A9 ds1 q.1 q.2).bind (D.ownI C)) λfs=>fs.length<100/\e.nx (Bi ds1 q.1 q.2 (.ins false C (Hu f d fs)))) e.xe):sFldV C f te pf e ds:=h
theorem mv_to(h:rdN i ds=some d)(q:Q d (ds.set i .u)):tMv i ds Q xe:=qa2 h q
theorem qaj1{n:Int}{wr:Bool}{ps:Pr}(j:ys.length=n.toNat)(h:Ll n wr ps ys=.non):∃g,ys=Rf n.toNat g/\∀i k,i<n.toNat->g i=some k->Ap k:=by
 have c:∀r,r<n.toNat->wordD n wr ps ys r=none:=λr d=>by unfold Ll at h;cases e:qu6 n wr ps ys with|some p=>rw[e] at h;cases h|none=>have:=List.findSome?_eq_none_iff.mp e r (zAm.mpr d);cases e2:wordD n wr ps ys r with|none=>rfl|some w=>rw[e2] at this;cases this
 refine⟨λi=>match ys[i]? with|some (.int k)=>some k|_=>none,List.ext_getElem? λi=>?_,λi k b e=>?_⟩;{by_cases b:i<n.toNat;{rw[qC7 b];obtain⟨v,a⟩:∃v,ys[i]?=some v:=⟨_,zBa ⋯⟩;rw[a];rcases qj1 a (c i b) with rfl|⟨k,rfl,_⟩<;>rfl};rw[zBu ⋯,zBu (by rw[qt6];lia)]};obtain⟨v,a⟩:∃v,ys[i]?=some v:=⟨_,zBa ⋯⟩;rcases qj1 a (c i b) with rfl|⟨l,rfl,f,_⟩;{have e:(match ys[i]? with|some (.int k)=>some k|_=>none)=some k:=e;rw[a] at e;cases e};have e:(match ys[i]? with|some (.int k)=>some k|_=>none)=some k:=e;rw[a] at e;cases e;exact f
theorem qaR2{r:D}(h:r.isN=some false):Lb r .non=some (.bl true):=by show (r.isN.map λb=>D.bl (!b))=_;rw[h];rfl
theorem qaj2{n:Int}{wr:Bool}{ps:Pr}:qe3 n wr ps ys=.non∨∃w,∃k:Nat,qe3 n wr ps ys=.q [.str w,.int (k:Nat)]:=by unfold qe3;split;{unfold Ll;cases qu6 n wr ps ys with|some p=>exact .inr ⟨p.1,p.2,rfl⟩|none=>show (if qf1 n wr ps ys=true then _ else _)=_∨_;split;{exact .inr ⟨"turned",0,rfl⟩};exact .inl rfl};exact .inr ⟨"list",0,rfl⟩
def qY9(C CP CW CU:γ):VSp:=λds Q xe=>∃x r,ds=[.ins false C [],x,r]/\x.known=true/\x.imm=true/\r.known=true/\(Ib CP x (.adr CP)=some (.bl false)/\xe ⟨CW,[("at",.int 0)]⟩ ds∨∃n wr ps,x=Ra true CP n wr ps/\1<=n/\n<=64/\(r.isN=some false/\Jp r (.ty "list")=some (.bl false)/\xe ⟨CW,[("at",.int 1)]⟩ ds∨r=.non/\Q .non [Br false C CP n wr ps (λ_=>none) [],x,r]∨∃z ys,r=.l z ys/\(∀y∈ys,∃t,y.kind=some t)/\D.imms ys=true/\(∀w (k:Nat),qe3 n wr ps ys=.q [.str w,.int (k:Nat)]->xe ⟨CU,[("word",.str w),("room",.int (k:Nat))]⟩ ds)/\∀g,ys=Rf n.toNat g->(∀i k,i<n.toNat->g i=some k->Ap k)->qe3 n wr ps ys=.non->Q .non [Br false C CP n wr ps g [],x,r]))
theorem qC2(T:Txt K mg a):VFn P w K mg base 10 a.f27 a.d27 ["self", "plan", "rooms"] (qY9 a.Cg a.Ca a.Cd a.Cc):=by
 refine VFn.mkE T.d27.F qr6 (wOf [true,true,true]) (by walk_at "m") (λu Q A ⟨x,r,e,_⟩=>by rw[e];rfl) (λu Q A ⟨x,r,e,_⟩=>by rw[e];rfl) (λ_ _ _ _ _ _ _ v=>⟨_,(Aa (sif (Bn (tv (vbi (qaH9 T.Fo T.Ce.cl) qbd3.ops T.Cb (qa0 (vnm 1) (qa0 (vcls a.Ca T.Ce.m) qa6 rfl) rfl)))) (Ag (qq9 T.Ck (qb8 T) (rm v) T.Cj T.d1.b qa1 (qa3 Ad))) As) (Aa (sif (tand (q2 (Al qq1 (qb0 _)) qu4 (vnm 2) Ax) (Kr (Bn (tv (vbi qj0 qB7.ops T.Cb (qa0 (vnm 2) (qa0 (vty "list" T.Cz) qa6 rfl) rfl)))))).te (Ag (qq9 T.Ck (qb8 T) (rm v) T.Cj T.d1.b qa1 (qa3 Ad))) As) (Aa (Ak 3 qr6.nd (eif (q2 (Al Gd (qb0 _)) Gc (vnm 2) Ax) (qa3 (v2 (Aj qA8) qA7 (Bj (qa0 Ax qa6 rfl)) (Bq rfl (vnm 1) T.Ce.cl T.Ch))) (qa3 (Hq qf0 qz6.ops T.Cz (qa0 (vnm 2) qa6 rfl))))) (Aa (Ak 4 qr6.nd (Ah T.d19 (qZ9 T) qa1 (rm v) (vaN 1 (vaN 3 Ab)))) (Aa (sif (q2 (Al qq1 (qb0 _)) qu4 (vnm 4) Ax) (Ag (qaK0 T.F4 (qF5 T) (rm v) T.E7 T.d3.b qa1 (v2 (Av qb4) Am (vnm 4) Ad) (v2 (Av qb4) Am (vnm 4) Ad))) As) (Aa (Kb rfl (vpn 0) (qc4 (vnm 1)) T.Ci.cl T.Dc) (Aa (Kb rfl (vpn 0) (emv 3) T.Ci.cl T.Co) (Ag (Kb rfl (vpn 0) (qa3 (Bj qa6)) T.Ci.cl T.De))))))))),λu Q A h=>?_⟩);obtain⟨x,r,rfl,G,ix,H,h⟩:=h;refine At [.ins false a.Cg [],x,r,.u,.u] rfl ?_;have I:rdN 1 [.ins false a.Cg [],x,r,.u,.u]=some x:=qc7 rfl G;have E:rdN 2 [.ins false a.Cg [],x,r,.u,.u]=some r:=qc7 rfl H;have isx:∀b,Ib a.Ca x (.adr a.Ca)=some (.bl b)->A8 (fx2 (Ib a.Ca)) (Ay (rdN 1) (Ay (kC (.adr a.Ca)) λ_=>some [])) [.ins false a.Cg [],x,r,.u,.u]=some (.bl b):=λb B=>by unfold A8 Ay;rw[I];exact B
 rcases h with⟨hp,o⟩|⟨n,wr,ps,rfl,n1,n2,h⟩;{exact qc8 true (λQ q=>qg3 (b:=false) (isx _ hp) q) (λ_=>qm4 (d:=.int 0) rfl ⟨rfl,o⟩) nofun};refine qc8 false (λQ q=>qg3 (b:=true) (isx _ qaF1) q) nofun λ_=>?_
 have C:∀b,Jp r (.ty "list")=some (.bl b)->A8 (fx2 Jp) (Ay (rdN 2) (Ay (kC (.ty "list")) λ_=>some [])) [.ins false a.Cg [],Ra true a.Ca n wr ps,r,.u,.u]=some (.bl b):=λb B=>by unfold A8 Ay;rw[E];exact B
 rcases h with⟨J,p,o⟩|h
 .refine qc8 true (λQ q=>qj8 true true (λQ q=>qf8 (b:=true) (Ae E rfl ?_) q) (λ_ Q q=>qg3 (b:=false) (C _ p) q) q) (λ_=>qm4 (d:=.int 1) rfl ⟨rfl,o⟩) nofun
  exact qaR2 J
 refine qc8 false (λQ q=>?_) nofun λ_=>?_
 {rcases h with⟨rfl,_⟩|⟨z,c,rfl,_⟩;{exact qj8 false false (λQ q=>qf8 (b:=false) (Ae rfl rfl rfl) q) nofun q};exact qj8 true false (λQ q=>qf8 (b:=true) (Ae rfl rfl rfl) q) (λ_ Q q=>qg3 (b:=true) (qy4 rfl) q) q};refine qc0 (λu=>∃c,u=[.ins false a.Cg [],Ra true a.Ca n wr ps,r,.l false c,.u]/\(∀y∈c,∃t,y.kind=some t)/\D.imms c=true/\(∀w (k:Nat),qe3 n wr ps c=.q [.str w,.int (k:Nat)]->A ⟨a.Cc,[("word",.str w),("room",.int (k:Nat))]⟩ [.ins false a.Cg [],Ra true a.Ca n wr ps,r])/\∀g,c=Rf n.toNat g->(∀i k,i<n.toNat->g i=some k->Ap k)->qe3 n wr ps c=.non->Q .non [rA a n wr ps g [],Ra true a.Ca n wr ps,r]) (λK j=>qe6 ?_) ?_
 .rcases h with⟨rfl,q⟩|⟨z,c,rfl,s,f,o,q⟩
  .refine Iy (b:=true) (Ae rfl rfl rfl) (λ_=>qm4 (Ae rfl (Ba rfl qe8) (qaf3 ⋯ n2)) (j _ ⟨_,rfl,λy L=>?_,qV7 _ _,λw k e=>?_,λg e _ _=>?_⟩)) nofun
   {rcases qaL0 L with rfl|⟨k,rfl⟩<;>exact⟨_,rfl⟩};{unfold qe3 at e;rw[if_pos (qt6 _ _),qK6 n1 (Kept.none ⋯ (G0 n1)) nofun] at e;cases e};rw[show rA a n wr ps g []=rA a n wr ps (λ_=>none) [] from congrArg (λl=>D.ins false a.Cg [("plan",Ra true a.Ca n wr ps),("held",.l false l),("done",.l false [])]) e.symm];exact q
  exact Iy (b:=false) (Ae rfl rfl rfl) nofun λ_=>qm4 (d:=.l false c) (show Jo (.l z c)=_ from qi2 f) (j _ ⟨c,rfl,s,f,o,q⟩)
 rintro u ⟨c,rfl,s,f,o,q⟩;refine qb3 [.ins false a.Cg [],Ra true a.Ca n wr ps,r,.l false c,qe3 n wr ps c] (λK j=>qe6 (qF9 (x:=Ra true a.Ca n wr ps) (y:=.l false c) (d:=qe3 n wr ps c) rfl rfl rfl ⟨true,n,wr,ps,false,c,rfl,n1,n2,s,f,rfl⟩ rfl j)) ?_;rcases qaj2 (n:=n) (wr:=wr) (ps:=ps) (ys:=c) with e|⟨w,k,e⟩;rotate_left
 {rw[e];exact qc8 true (λQ q=>qf8 (b:=true) (Ae rfl rfl rfl) q) (λ_=>qa2 (a:=D.str w) rfl (qa2 (a:=D.int (k:Nat)) rfl ⟨rfl,rfl,o w k e⟩)) nofun};have p:c.length=n.toNat:=by unfold qe3 at e;by_cases p:c.length=n.toNat;{exact p};rw[if_neg p] at e;cases e
 obtain⟨g,rfl,M⟩:=qaj1 (wr:=wr) (ps:=ps) p (by unfold qe3 at e;rw[if_pos p] at e;exact e);replace q:=q g rfl M e;rw[e];refine qc8 false (λQ q=>qf8 (b:=false) (Ae rfl rfl rfl) q) nofun λ_=>?_
 refine qb3 [.ins false a.Cg [("plan",Ra true a.Ca n wr ps)],Ra true a.Ca n wr ps,r,rL n g,.non] (λK j=>qaG1 (qy6 (d:=Ra true a.Ca n wr ps) rfl rfl (qa2 (a:=(0,[])) rfl (qa2 qk7 ⟨∅,j⟩)))) ?_;refine qb3 [.ins false a.Cg [("plan",Ra true a.Ca n wr ps),("held",rL n g)],Ra true a.Ca n wr ps,r,.u,.non] (λK j=>qaG1 (mv_to (d:=rL n g) rfl (qa2 (a:=(0,[])) rfl (qa2 qk7 ⟨by show 1<100;decide,j⟩)))) ?_;exact qaG1 (qm4 (d:=.l false []) rfl (qa2 (a:=(0,[])) rfl (qa2 qk7 ⟨by show 2<100;decide,q⟩)))
theorem qu2:qa9 ["self"] ["self"] (qa4 qi0):=by walk_at "s"
def qu0(C CP:γ):VSp:=Aw λds d=>∃zr n wr ps g dn,ds=[Br zr C CP n wr ps g dn]/\d=.l false (Rf n.toNat g)
theorem qh0(T:Txt K mg a):VFn P w K mg base 1 a.f28 a.d28 ["self"] (qu0 a.Cg a.Ca):=by refine VFn.mk2 T.d28.F qu2 (wOf [true]) qb5 (by walk_at "l") (λ_ _ _ _ _ _ _ f=>⟨_,(Ag (An (qa3 (Hq qf0 qz6.ops T.Cz (qa0 (Bq rfl (vnm 0) T.Ci.cl T.Co) qa6 rfl))))),λi Q j h=>?_⟩);obtain⟨d,⟨b,n,wr,c,g,e,rfl,rfl⟩,q⟩:=h;refine At [Br b a.Cg a.Ca n wr c g e] rfl ?_;refine qg6 (rL n g) ?_ q;unfold A8 Ay;rw[Ba rfl qv1];exact qi2 (qV7 _ _)
theorem qE3:qa9 ["self", "key"] ["self", "key"] (qa4 ql9):=by walk_at "s"
noncomputable def Kh:Option Int->V|some k=>.int k|none=>.non
theorem qai8(N:Nat)(g:Nat->Option Int):flats (Rf N g)=some ((Ob N).map λi=>Kh (g i)):=by
 have:∀l:List Nat,flats (l.map λi=>Hb (g i))=some (l.map λi=>Kh (g i)):=λl=>by induction l with|nil=>rfl|cons a l b=>show ((Hb (g a)).flat.bind λv=>(flats (l.map λi=>Hb (g i))).bind λc=>some (v::c))=_;rw[b,zAw];cases g a<;>rfl
 exact this _
noncomputable def He(N:Nat)(g:Nat->Option Int)(k:Int):Option Nat:=(Ob N).findIdx? λi=>decide (g i=some k)
def Gb(N:Nat)(g:Nat->Option Int)(k:Int):D:=match He N g k with|some i=>.int (i:Nat)|none=>.non
theorem qaw9:eqV (Kh o) (.int k)=decide (o=some k):=by cases o with|none=>rfl|some a=>exact zCi.mpr ⟨λh=>by rw[h],λh=>Qc h⟩
theorem qaw4{k:Int}{g:Nat->Option Int}:∀l:List Nat,Hi (.int k) (l.map λi=>Kh (g i))=l.findIdx? λi=>decide (g i=some k)|[]=>rfl|a::l=>by show (if eqV (Kh (g a)) (.int k)=true then some 0 else (Hi (.int k) (l.map λi=>Kh (g i))).map (· + 1))=_;rw[qaw9,qaw4 l,zCk]
theorem qaR5{k:Int}{g:Nat->Option Int}:∀l:List Nat,inV (.int k) (l.map λi=>Kh (g i))=(l.findIdx? λi=>decide (g i=some k)).isSome|[]=>rfl|a::l=>by have b:=qaR5 (k:=k) (g:=g) l;unfold inV at b ⊢;rw[zAw,zCp,b,zCk];have e:=qaw9 (o:=g a) (k:=k);cases h:decide (g a=some k) with|true=>rw[h] at e;simp[e]|false=>rw[h] at e;simp[e]
theorem qT8{g:Nat->Option Int}(h:∀i,i<N->g i≠some k):Gb N g k=.non:=by have:He N g k=none:=List.findIdx?_eq_none_iff.mpr λi a=>zB3 (h i (zAm.mp a));unfold Gb;rw[this]
theorem qan9{g:Nat->Option Int}(hi:i<N)(e:g i=some k):∃j:Nat,Gb N g k=.int (j:Nat):=by unfold Gb;cases h:He N g k with|some j=>exact⟨j,rfl⟩|none=>have:=List.findIdx?_eq_none_iff.mp h i (zAm.mpr hi);grind
def qD7(C CP CW:γ):VSp:=λds Q xe=>∃zr n wr ps g dn x t,ds=[Br zr C CP n wr ps g dn,x]/\x.kind=some t/\(x.num=false->xe ⟨CW,[("at",.int 0)]⟩ ds)/\∀k,x=.int k->Ap k->Q (Gb n.toNat g k) ds
theorem qd9(T:Txt K mg a):VFn P w K mg base 4 a.f31 a.d31 ["self", "key"] (qD7 a.Cg a.Ca a.Cd):=by
 refine VFn.mk2 T.d31.F qE3 (wOf [true,true]) (by walk_at "m") (by walk_at "l") (λ_ _ _ _ _ _ _ r=>⟨_,(Aa (sif (Bn (te (Ah T.d6 (qd3 T) qa1 (rm r) (vaN 1 Ab)))) (Ag (qq9 T.Ck (qb8 T) (rm r) T.Cj T.d1.b qa1 (qa3 Ad))) As) (Ag (An (eif (q2 (Al qm7 (by with_unfolding_all rfl)) Ik (vnm 1) (Bq rfl (vnm 0) T.Ci.cl T.Co)) (qa3 (vbm qaC4 Qg Qj Qm qR1 (Bq rfl (vnm 0) T.Ci.cl T.Co) (vnm 1) qah5)) (qa3 Ax))))),λG Q A h=>?_⟩);obtain⟨o,n,wr,s,g,u,x,t,rfl,z,B,q⟩:=h;refine At [Br o a.Cg a.Ca n wr s g u,x] rfl ?_;refine qaS1 x.num (λQ A q=>qJ0 (x:=x) (d:=.bl x.num) (qc7 rfl (qd4 z)) (by show x.kind.map _=_;rw[z];rfl) rfl q) (λC=>?_) B;obtain⟨k,rfl,E⟩:=qaD2 C;replace q:=q k rfl E;refine qk5 ?_;have p:f2 (J1 false) (rdN 1) (f1 (D.fld a.Cg "held") (rdN 0)) [Br o a.Cg a.Ca n wr s g u,.int k]=some (.bl (He n.toNat g k).isSome):=by refine Ae (x:=.int k) (y:=.l o (Rf n.toNat g)) rfl (Ba rfl qv1) ?_;show ((flats (Rf n.toNat g)).bind λc=>some (D.bl (if false=true then !inV (.int k) c else inV (.int k) c)))=_;rw[qai8];show some (D.bl (inV (.int k) _))=_;rw[qaR5];rfl
 refine Iy p (λh=>?_) λh=>?_;{obtain⟨i,f⟩:=zB4.mp h;refine qm4 (d:=.int (i:Nat)) (Ae (Ba rfl qv1) rfl ?_) ?_;{show ((some (V.int k)).bind λv=>(flats (Rf n.toNat g)).bind λc=>(Hi v c).map λj=>D.int (j:Nat))=_;rw[qai8];show (Hi (.int k) _).map _=_;rw[qaw4];show (He n.toNat g k).map _=_;rw[f];rfl};unfold Gb at q;rw[f] at q;exact q};refine qm4 (d:=.non) rfl ?_;have f:He n.toNat g k=none:=by cases e:He n.toNat g k with|none=>rfl|some i=>rw[e] at h;cases h
 unfold Gb at q;rw[f] at q;exact q
theorem qE4:qa9 ["self", "room"] ["self", "room"] (qa4 qm0):=by walk_at "s"
theorem qF6(T:Txt K mg a):Gv P w K mg base CX0 1 a.f2 a.d2 ["self", "room"] (spX1 a.Cf "room"):=by refine T.d2.F.ok qE4 (λb H Q E h=>?_) (λc A outer s H b Q E j h=>?_);{obtain⟨e,v,rfl,_⟩:=h;rfl};obtain⟨e,v,rfl,d,k⟩:=h;exact⟨_,(qJ1 (qU1 (pv 0) (pv 1))),_,rfl,_,rfl,e,a.Cf,rfl,T.Es,T.Ea,.inl ⟨d,λf g i=>k f g i⟩⟩
theorem qO9:qa9 ["plan", "keys", "room"] ["plan", "keys", "room"] (qa4 qs1):=by walk_at "s"
def qN8(C:γ):VSp:=Aw λds d=>∃z n wr ps z' ks r,ds=[Ra z C n wr ps,.l z' (Re ks),.int r]/\1<=n/\(∀k∈ks,Ap k)/\ks.length<=1000/\d=.bl (if wr=true then decide (r=0)&&decide (n<(ks.length:Int)) else decide (n-r<((ks.filter λk=>decide (r<=qd2 n ps k)).length:Int)))
theorem qQ5(T:Txt K mg a):VFn P w K mg base 5 a.f20 a.d20 ["plan", "keys", "room"] (qN8 a.Ca):=by refine VFn.mk2 T.d20.F qO9 (wOf [true,true,true]) qb5 (by walk_at "l") (λ_ _ _ _ _ _ _ m=>⟨_,(Aa (sif (tv (Bq rfl (vnm 0) T.Ce.cl T.Cu)) (Ag (An (qa3 (vand (v2 (A5 (qi8 m.u64) (qb0 _)) Bc (vnm 2) Ad) (Lf (v2 (A5 Gg (qb0 _)) Gj (vbi qu8 qu7.ops T.D3 (qa0 (vnm 1) qa6 rfl)) (Bq rfl (vnm 0) T.Ce.cl T.Ch))))))) As) (Ag (An (e2v (A5 Gg (qb0 _)) Gj (ebi qu8 qu7.ops T.D3 (Gy (vaV (ecN (NY:=["key", "room", "plan"]) (src:=[none,some 2,some 0]) 1 (blk (λo C s H0 t=>(Bf 0 (show (["key", "room", "plan"]:List Str).Nodup by decide +kernel))) (λo C s H0 t=>(Mj (q2v (A5 Jh (qb0 _)) (Al Jh (qb0 _)) Ko (qj5 2 T.d12 T.Ce.cl (qo8 T) qt0 (rm m) (vaN 0 Ab)) (vnm 1)))) (λo C s H0 t=>(qc4 (vnm 0))))) Ab))) (v2 (Aj qm3) qm2 (Bq rfl (vnm 0) T.Ce.cl T.Ch) (vnm 2)))))),λE Q G h=>?_⟩);obtain⟨d,⟨z,n,wr,b,f,c,r,rfl,u,v,H,rfl⟩,q⟩:=h;refine At [Ra z a.Ca n wr b,.l f (Re c),.int r] rfl ?_;refine qg2 wr (Ba rfl qH0) (λh=>?_) λh=>?_;{rw[if_pos h] at q;have g:f2 gGt (A8 (fx1 Ia) (Ay (rdN 1) λ_=>some [])) (f1 (D.fld a.Ca "rooms") (rdN 0)) [Ra z a.Ca n wr b,.l f (Re c),.int r]=some (.bl (decide (n<(c.length:Int)))):=Ae (qk8 rfl) (Ba rfl qe8) (by rw[qn5];rfl);exact qg6 _ (qaj3 (a:=decide (r=0)) rfl g) q};rw[if_neg (by rw[h];decide)] at q;refine qk5 ?_;refine⟨qo0 c,?_⟩;refine qo2 (λι=>∃d,ι=[d,.int r,Ra z a.Ca n wr b]) (Iz λk=>decide (r<=qd2 n b k)) (Re c) [] _ (by show 0+(Re c).length<big;rw[qn5];unfold big;lia) ⟨_,rfl⟩ ?_ ?_;{rintro y A ι i ⟨d,rfl⟩ R B e;obtain⟨k,j,rfl⟩:=zAy.mp A;refine Mu (p:=Ra z a.Ca n wr b) (x:=.int k) (d:=.int (qd2 n b k)) rfl (qi1 rfl) rfl rfl ⟨z,n,wr,b,k,rfl,u,v k j,rfl⟩ rfl ?_;have this:=B _ ⟨.int k,rfl⟩;refine qa2 (a:=D.bl (decide (r<=qd2 n b k))) rfl (qa2 (a:=decide (r<=qd2 n b k)) rfl (ite_b (λh=>?_) λh=>?_));{rw[qaw0 (p:=λk=>decide (r<=qd2 n b k)) h] at this;exact⟨rfl,e,this⟩};rw[qaw1 (p:=λk=>decide (r<=qd2 n b k)) h] at this;have this:R (i++[]) _:=this;rw[zAi] at this;exact this};rintro ι ⟨d,rfl⟩;rw[zBh,qR5];refine qa2 (a:=D.bl (decide (n-r<((c.filter λk=>decide (r<=qd2 n b k)).length:Int)))) ?_ q;show (f2 gSub (f1 (D.fld a.Ca "rooms") (rdN 0)) (rdN 2) [Ra z a.Ca n wr b,.l f (Re c),.int r]).bind (gGt (D.int ((Re (c.filter λk=>decide (r<=qd2 n b k))).length:Nat)))=_;rw[Ae (Ba rfl qe8) rfl rfl,qn5];rfl
theorem qn7:qa9 ["plan", "keys", "room"] ["plan", "keys"] (qa4 qk1):=by walk_at "s"
def qS2(n:Int)(wr:Bool)(ps:Pr)(ks:List Int)(r:Int):Bool:=if wr=true then decide (r=0)&&decide (n<(ks.length:Int)) else decide (n-r<((ks.filter λk=>decide (r<=qd2 n ps k)).length:Int))
def qD2(n:Int)(wr:Bool)(ps:Pr)(ks:List Int):Option Nat:=(Ob n.toNat).find? λr=>qS2 n wr ps ks (r:Int)
noncomputable def natD:Option Nat->D|none=>.non|some k=>.int (k:Int)
def qA1(C:γ):VSp:=Aw λds d=>∃z n wr ps z' ks,ds=[Ra z C n wr ps,.l z' (Re ks)]/\1<=n/\n<=64/\(∀k∈ks,Ap k)/\ks.length<=1000/\d=natD (qD2 n wr ps ks)
theorem qB1(T:Txt K mg a):VFn P w K mg base 6 a.f21 a.d21 ["plan", "keys"] (qA1 a.Ca):=by
 refine VFn.mk2 T.d21.F qn7 (wOf [true,true]) qb5 (by walk_at "l") (λ_ _ _ _ _ _ _ t=>⟨_,(Aa (qE0 Qd T.Cq (Gy (vaV (qc4 (Bq rfl (vnm 0) T.Ce.cl T.Ch)) Ab)) (Bf 2 qn7.nd) (Ag (sif (te (Ah T.d20 (qQ5 T) qa1 (rm t) (vaN 0 (vaN 1 (vaN 2 Ab))))) (Ag (An (emv 2))) As))) (Ag (An (qa3 Ax)))),λg Q u h=>?_⟩);obtain⟨d,⟨z,n,wr,c,o,f,rfl,v,E,A,B,rfl⟩,q⟩:=h;refine At [Ra z a.Ca n wr c,.l o (Re f),.u] rfl ?_;refine qc0 (λg=>(∀i,i<n.toNat->qS2 n wr c f (i:Int)=false)/\∃d,g=[Ra z a.Ca n wr c,.l o (Re f),d]) (λK p=>?_) ?_;{refine qG9 (Ba rfl qe8) (qR2 ⋯ ⋯) ?_;refine qf7 (λi g=>(∀j,j<i->qS2 n wr c f (j:Int)=false)/\∃d,g=[Ra z a.Ca n wr c,.l o (Re f),d]) _ 0 _ ⟨λj r=>absurd r (zC1 _),_,rfl⟩ ?_ ?_;{rintro j x C g ⟨k,d,rfl⟩ K p;rw[zAo] at k p;obtain⟨r,rfl⟩:=qP9 C;refine if_e (b:=qS2 n wr c f (j:Int)) (λQ u q=>qR3 (x:=Ra z a.Ca n wr c) (y:=.l o (Re f)) (w:=.int (j:Int)) rfl rfl rfl rfl rfl ⟨z,n,wr,c,o,f,_,rfl,v,A,B,rfl⟩ rfl q) (λs=>?_) (λs=>?_);{have e:qD2 n wr c f=some j:=List.find?_range_eq_some.mpr ⟨s,zAm.mpr r,λi m=>by rw[k i m];rfl⟩;rw[e] at q;exact q};refine p _ ⟨λi m=>?_,_,rfl⟩;rcases Nat.lt_succ_iff_lt_or_eq.mp m with h|rfl;{exact k i h};exact s};rintro g ⟨k,D⟩;refine p _ ⟨λi m=>k i ?_,D⟩;unfold Bo;rw[zAk,zBb,zAo];exact m};rintro g ⟨k,d,rfl⟩;have e:qD2 n wr c f=none:=List.find?_range_eq_none.mpr λi m=>by rw[k i m];rfl
 rw[e] at q;exact q
theorem qn6:qa9 ["plan", "keys", "room"] ["plan", "keys"] (qa4 qj9):=by walk_at "s"
def qaP7(n:Int)(wr:Bool)(ps:Pr)(ks:List Int):Prop:=∀r:Nat,r<n.toNat->qS2 n wr ps ks (r:Int)=false
theorem qas4(h1:1<=n)(a:r<n.toNat):qS2 n wr ps ks (r:Int)=true↔Crowd n.toNat wr (Rb n ps) ks r:=by
 unfold qS2 Crowd;cases wr with
 |true=>grind|false=>
  have e:(ks.filter λk=>decide ((r:Int)<=qd2 n ps k))=ks.filter λk=>decide (r<=Rb n ps k):=by apply Ov;intro k _;have:=qC6 (ps:=ps) h1 k;grind
  grind
def qz9(C CN:γ):VSp:=λds Q xe=>∃z n wr ps z' ks,ds=[Ra z C n wr ps,.l z' (Re ks)]/\1<=n/\n<=64/\(∀k∈ks,Ap k)/\ks.length<=1000/\(qaP7 n wr ps ks->Q .non ds)/\(∀r:Nat,Crowd n.toNat wr (Rb n ps) ks r->xe ⟨CN,[("room",.int (r:Nat))]⟩ ds)
theorem qA9(T:Txt K mg a):VFn P w K mg base 7 a.f22 a.d22 ["plan", "keys"] (qz9 a.Ca a.Cf):=by refine VFn.mk2 T.d22.F qn6 (wOf [true,true]) (by walk_at "m") (by walk_at "l") (λ_ _ _ _ _ _ _ g=>⟨_,(Aa (Ak 2 qn6.nd (Ah T.d21 (qB1 T) qa1 (rm g) (vaN 0 (vaN 1 Ab)))) (Ag (sif (q2 (Al qq1 (qb0 _)) qu4 (vnm 2) Ax) (Ag (qq9 T.Eu (qF6 T) (rm g) T.Eg T.d2.b qa1 (qc4 (vnm 2)))) As))),λv Q A h=>?_⟩);obtain⟨z,n,wr,c,i,f,rfl,j,k,o,p,q,s⟩:=h;refine At [Ra z a.Ca n wr c,.l i (Re f),.u] rfl ?_;refine qb3 [Ra z a.Ca n wr c,.l i (Re f),natD (qD2 n wr c f)] (λK t=>?_) ?_;{exact qF9 (x:=Ra z a.Ca n wr c) (y:=.l i (Re f)) (d:=natD (qD2 n wr c f)) rfl rfl rfl ⟨z,n,wr,c,i,f,rfl,j,k,o,p,rfl⟩ rfl t};cases e:qD2 n wr c f with|none=>exact if_v (b:=false) rfl nofun λ_=>q λr g=>by simpa using List.find?_range_eq_none.mp e r g|some r=>have u:=List.find?_some e;have g:=zAm.mp (List.mem_of_find?_eq_some e);refine if_v (b:=true) rfl (λ_=>?_) nofun;exact qy6 (d:=.int (r:Nat)) rfl rfl ⟨rfl,s r ((qas4 j g).mp u)⟩
theorem qh6:qa9 ["plan", "rooms", "key", "came", "room", "held"] ["plan", "rooms", "key"] (qa4 qw8):=by walk_at "s"
def qY7(C:γ):VSp:=λds Q _=>∃z n wr ps g S key,ds=[Ra z C n wr ps,rL n g,.int key]/\1<=n/\n<=64/\Ap key/\(∀k∈S,Ap k)/\Kept n.toNat wr (Rb n ps) g S/\¬key∈S/\(∃e,Free n.toNat wr (Rb n ps) g key e)/\∀came g',Kept n.toNat wr (Rb n ps) g' (S++[key])->Q (.l false came) [Ra z C n wr ps,rL n g',.int key]
theorem qaa0(T:Txt K mg a):VFn P w K mg base 7 a.f23 a.d23 ["plan", "rooms", "key"] (qY7 a.Ca):=by
 refine VFn.mk2 T.d23.F qh6 (wOf [true,true,false]) (by walk_at "m") (by walk_at "l") (λ_ _ _ _ _ _ _ j=>⟨_,(Aa (Ak 3 qh6.nd (qa3 (Bj qa6))) (Aa (Ak 4 qh6.nd (qj5 0 T.d12 T.Ce.cl (qo8 T) qa1 (rm j) (vaN 2 Ab))) (Aa (qaJ6 Qd (q2 (Al qq1 (qb0 _)) qu4 (v2 (Av qb4) Am (vnm 1) (vnm 4)) Ax) (Aa (Ak 5 qh6.nd (qc4 (v2 (Av qb4) Am (vnm 1) (vnm 4)))) (Aa (sif (te (qj5 0 T.d14 T.Ce.cl (qj4 T) qa1 (rm j) (vaN 4 (vaN 2 (vaN 5 Ab))))) (Aa (Fy (Ht 3 qK1 Qg Qh Qi qh5 (vaV (qa3 (Bk (qa0 (vnm 2) (qa0 (vnm 4) qa6 rfl) rfl))) Ab))) (Aa (G4 (qc4 (vnm 2)) (Ge (vpn 1) (vnm 4))) (Ag (Ak 2 qh6.nd (qc4 (vnm 5)))))) As) (Ag (Ak 4 qh6.nd (qa3 (v2 (Aj ql6) ql5 (v2 (Aj qe5) qe4 (vnm 4) Ad) (Bq rfl (vnm 0) T.Ce.cl T.Ch)))))))) (Aa (Fy (Ht 3 qK1 Qg Qh Qi qh5 (vaV (qa3 (Bk (qa0 (vnm 2) (qa0 (vnm 4) qa6 rfl) rfl))) Ab))) (Aa (G4 (qc4 (vnm 2)) (Ge (vpn 1) (vnm 4))) (Ag (An (emv 3)))))))),λo Q J h=>?_⟩);obtain⟨z,n,wr,f,g,S,key,rfl,u,X,s,L,KP,A,⟨e,Fr⟩,q⟩:=h;have M:=G0 (ps:=f) u key;have H:∀x∈S++[key],Ap x:=λx v=>by rcases zAd.mp v with h|h;{exact L x h};rw[zAg.mp h];exact s
 have E:(S++[key]).Nodup:=zCf.mpr ⟨KP.h.1,(by simp),λx v y B e=>A (by rw[<-zAg.mp B,<-e];exact v)⟩;refine At [Ra z a.Ca n wr f,rL n g,.int key,.u,.u,.u] rfl ?_;refine qb3 [Ra z a.Ca n wr f,rL n g,.int key,.l false [],.u,.u] (λK i=>i) ?_;refine qb3 [Ra z a.Ca n wr f,rL n g,.int key,.l false [],.int (Rb n f key:Nat),.u] (λK i=>?_) ?_;{exact Mu (p:=Ra z a.Ca n wr f) (x:=.int key) (d:=.int (Rb n f key:Nat)) rfl (qi1 rfl) rfl rfl ⟨z,n,wr,f,key,rfl,u,s,by rw[qC6 u]⟩ rfl i};refine qc0 (λo=>∃g2 c r came t,o=[Ra z a.Ca n wr f,rL n g2,.int c,.l false came,.int (r:Nat),t]/\Row.Walk n.toNat wr (Rb n f) (S++[key]) key e g2 c r/\g2 r=none/\came.length<=64) (λK i=>?_) ?_;{have W0:=KP.start A Fr;refine qay0 (λm o=>∃g2 c r came t,o=[Ra z a.Ca n wr f,rL n g2,.int c,.l false came,.int (r:Nat),t]/\Row.Walk n.toNat wr (Rb n f) (S++[key]) key e g2 c r/\m=Ac n.toNat (Rb n f key) e-Ac n.toNat (Rb n f key) r/\came.length+m<=64) _ ⟨g,key,Rb n f key,[],_,rfl,W0,rfl,by have:=qj6 Fr.1 M;show 0+_<=64;lia⟩ ?_;rintro m o ⟨g2,c,r,came,t,rfl,W,rfl,N⟩ K2 G;have j:=W.hr;cases k:g2 r with|none=>refine qf8 (b:=false) (Ae (Ae rfl rfl (Mw j)) rfl (by rw[k];rfl)) ?_;exact i _ ⟨g2,c,r,came,t,rfl,W,k,⋯⟩|some y=>refine qf8 (b:=true) (Ae (Ae rfl rfl (Mw j)) rfl (by rw[k];rfl)) ?_;have v:wr=false->Rb n f c<=r:=λh=>(W.ln h).2.1;have B:wr=false->Rb n f y<=r:=λh=>(W.ln h).2.2 r y j k;have O:Ap c:=H c ((W.all c).mpr (.inl rfl));have R:Ap y:=H y ((W.all y).mpr (.inr ⟨r,j,k⟩));have Y:=W.lt k;have I:=W.nx k;refine G7 rfl ?_;refine qb3 [Ra z a.Ca n wr f,rL n g2,.int c,.l false came,.int (r:Nat),.int y] (λK i=>?_) ?_;{exact qT7 (d:=.int y) (Ae rfl rfl (by rw[Mw j,k];rfl)) rfl i};refine qc0 (λo=>∃g3 C came3,o=[Ra z a.Ca n wr f,rL n g3,.int C,.l false came3,.int (r:Nat),.int y]/\Row.Walk n.toNat wr (Rb n f) (S++[key]) key e g3 C (Row.next n.toNat r)/\came3.length<=came.length+1) (λK i=>?_) ?_;{refine if_e (b:=qh4 n wr f (r:Nat) c y) (λQ J q=>qba7 (p:=Ra z a.Ca n wr f) (x:=.int (r:Nat)) (y:=.int c) (w:=.int y) rfl (qi1 rfl) rfl rfl rfl rfl rfl rfl ⟨z,n,wr,f,(r:Nat),c,y,rfl,u,⋯,⋯,O,R,rfl⟩ rfl q) (λD=>?_) (λD=>?_);{have U:=(qH9 u j v B).mp D;refine qb3 [Ra z a.Ca n wr f,rL n g2,.int c,.l false (came++[.q [.int c,.int (r:Nat)]]),.int (r:Nat),.int y] (λK i=>?_) ?_;{exact qal0 (ys:=came) (d:=.q [.int c,.int (r:Nat)]) rfl rfl (by show came.length<1000000;lia) i};refine qb3 [Ra z a.Ca n wr f,rL n (Row.set g2 r c),.int c,.l false (came++[.q [.int c,.int (r:Nat)]]),.int (r:Nat),.int y] (λK i=>?_) ?_;{refine qT4 (d:=.int c) (ys:=Rf n.toNat g2) rfl rfl rfl rfl (qaF0 j) ?_;rw[qO6];exact i};exact qT7 (d:=.int y) rfl rfl (i _ ⟨Row.set g2 r c,y,_,rfl,W.swap k U,by rw[zAf];exact zA3 _⟩)};exact i _ ⟨g2,c,came,rfl,W.on k (λh=>by rw[(qH9 u j v B).mpr h] at D;cases D),⋯⟩};rintro o ⟨g3,C,came3,rfl,W3,V⟩;refine qp8 (d:=.int (Row.next n.toNat r:Nat)) (Ae (Ae rfl rfl rfl) (Ba rfl qe8) (by rw[G8 ⋯,qaD6 u j])) ?_;exact G _ _ (by rw[I];lia) ⟨g3,C,_,came3,_,rfl,W3,rfl,by rw[I];lia⟩};rintro o ⟨g2,c,r,came,t,rfl,W,k,N⟩;have j:=W.hr;refine qb3 [Ra z a.Ca n wr f,rL n g2,.int c,.l false (came++[.q [.int c,.int (r:Nat)]]),.int (r:Nat),t] (λK i=>?_) ?_;{exact qal0 (ys:=came) (d:=.q [.int c,.int (r:Nat)]) rfl rfl (by show came.length<1000000;lia) i};refine qb3 [Ra z a.Ca n wr f,rL n (Row.set g2 r c),.int c,.l false (came++[.q [.int c,.int (r:Nat)]]),.int (r:Nat),t] (λK i=>?_) ?_;{refine qT4 (d:=.int c) (ys:=Rf n.toNat g2) rfl rfl rfl rfl (qaF0 j) ?_;rw[qO6];exact i};exact q _ _ (W.done E k)
theorem qw2:qa9 ["self"] ["self"] (qa4 qi6):=by walk_at "s"
theorem _root_.Row.Kept.perm(KP:Kept n wr hm g S):((Ob n).filterMap g).Perm S:=by refine(List.perm_ext_iff_of_nodup ?_ KP.h.1).mpr λk=>?_;{refine List.pairwise_filterMap.mpr (List.Pairwise.imp_of_mem (λ{i j} a d f b l m c e=>?_) O0);subst e;exact f (KP.o.inj i j b (zAm.mp a) (zAm.mp d) l c)};rw[KP.h.2 k,List.mem_filterMap];exact⟨λ⟨i,a,e⟩=>⟨i,zAm.mp a,e⟩,λ⟨i,a,e⟩=>⟨i,zAm.mpr a,e⟩⟩
noncomputable def Jz(y:D):Option D:=match y with|.int k=>some (.int k)|_=>none
theorem qah0(N:Nat)(g:Nat->Option Int):(Rf N g).filterMap Jz=Re ((Ob N).filterMap g):=by unfold Rf Re;rw[Ou,List.map_filterMap];refine congrArg (λf=>Pt f (Ob N)) (funext λi=>?_);show Jz (Hb (g i))=(g i).map D.int;cases g i<;>rfl
def qw1(C CP:γ):VSp:=Aw λds d=>∃zr n wr ps g dn,ds=[Br zr C CP n wr ps g dn]/\n<=64/\d=.l false (Re ((Ob n.toNat).filterMap g))
theorem qx6(T:Txt K mg a):VFn P w K mg base 1 a.f29 a.d29 ["self"] (qw1 a.Cg a.Ca):=by
 refine VFn.mk2 T.d29.F qw2 (wOf [true]) qb5 (by walk_at "l") (λ_ _ _ _ _ _ _ u=>⟨_,(Ag (An (eAlt (ecP (src:=[none]) (Mb rfl (vpn 0) T.Ci.cl T.Co) (blk (λi C j H0 m=>(Bf 0 (show (["key"]:List Str).Nodup by decide +kernel))) (λi C j H0 m=>(Mj (q2 (Al qq1 (qb0 _)) qu4 (vnm 0) Ax))) (λi C j H0 m=>(qc4 (vnm 0))))) (ecL (NY:=["key"]) (src:=[none]) (qc4 (Bq rfl (vnm 0) T.Ci.cl T.Co)) (blk (λi C j H0 m=>(Bf 0 (show (["key"]:List Str).Nodup by decide +kernel))) (λi C j H0 m=>(Mj (q2 (Al qq1 (qb0 _)) qu4 (vnm 0) Ax))) (λi C j H0 m=>(qc4 (vnm 0)))))))),λv Q x h=>?_⟩);obtain⟨d,⟨r,n,wr,s,g,t,rfl,z,rfl⟩,q⟩:=h;refine At [Br r a.Cg a.Ca n wr s g t] rfl ?_;have step:∀(y:D),y∈Rf n.toNat g->∀(d:D)(c:Ds)(R:Ds->Ds->Prop),(∀ι',(∃d,ι'=[d])->R (c++(Jz y).toList) ι')->c.length<big->gNm 0 y [d] λι1=>ttV (f2 Lb (rdN 0) (kC .non)) ι1 (λb ι2=>if b=true then Gq (rdN 0) ι2 (λd ι3=>c.length<big/\R (c++[d]) ι3) (λ_ _=>False) else R c ι2) (λ_ _=>False):=λy o d c R p f=>by have this:=p [y] ⟨_,rfl⟩;refine qp5 ?_;rcases qaL0 o with rfl|⟨k,rfl⟩;{have this:R (c++[]) _:=this;rw[zAi] at this;exact qf8 (b:=false) (Ae rfl rfl rfl) (Ju ∅ this)};exact qf8 (b:=true) (Ae rfl rfl rfl) (G7 rfl (qy6 (d:=.int k) rfl rfl ⟨f,this⟩))
 cases r with|false=>refine qk5 (.inl (qa2 (a:=(0,[1])) (by show (D.fidx a.Cg "held" (rA a n wr s g t)).map (λn=>(0,[n]))=_;rw[qW5];rfl) (qa2 rfl (qa2 rfl ⟨qV7 _ _,λw=>?_⟩))));refine qo2 (λι=>∃d,ι=[d]) Jz _ [] _ (by show 0+_<1000000;rw[qt6];lia) ⟨_,rfl⟩ (λy o ι c ⟨d,e⟩ R p f=>e ▸ step y o d c R p f) ?_;rintro ι ⟨d,rfl⟩;rw[qah0,zBh];exact qa2 (qbd8 rfl) q|true=>refine qk5 (.inr (qy6 (Ba rfl qv1) rfl (qa2 rfl ⟨qV7 _ _,?_⟩)));refine qo2 (λι=>∃d,ι=[d]) Jz _ [] _ (by show 0+_<1000000;rw[qt6];lia) ⟨_,rfl⟩ (λy o ι c ⟨d,e⟩ R p f=>e ▸ step y o d c R p f) ?_;rintro ι ⟨d,rfl⟩;rw[qah0,zBh];exact q
theorem qad0:qa9 ["self", "key"] ["self", "key"] (qa4 qE9):=by walk_at "s"
theorem qU5(e:x=.int k)(h:Ap k):x.num=true:=by subst e;exact zAh.mpr ⟨zAn h.1,zAn h.2⟩
theorem qaq9:D.fidx C "done" (Br false C CP n wr ps g dn)=some 2:=by show (if C=C then List.findIdx? (λq:Str×D=>("done" : Str)==q.1) [("plan",Ra true CP n wr ps),("held",rL n g),("done",.l false dn)] else none)=_;rw[if_pos rfl];rfl
theorem qaS0{w:VTS}(h:qc ds (λb a=>if b=true then t {e with nx:=w e} a else w e a) e.xe):Ig (sIf qc t Jt) w e ds:=h
def qac2(C CP CW:γ):VSp:=λds Q xe=>∃n wr ps g dn x t,ds=[Br false C CP n wr ps g dn,x]/\x.kind=some t/\(x.num=false/\xe ⟨CW,[("at",.int 0)]⟩ ds∨∃S k,x=.int k/\1<=n/\n<=64/\Ap k/\(∀x∈S,Ap x)/\Kept n.toNat wr (Rb n ps) g S/\¬k∈S/\(∀q,¬Crowd n.toNat wr (Rb n ps) (S++[k]) q)/\dn.length<=1000/\∀came g',Kept n.toNat wr (Rb n ps) g' (S++[k])->Q (.l false came) [Br false C CP n wr ps g' (dn++[.q [.str "put",.int k]]),.int k])
theorem qJ7(T:Txt K mg a):VFn P w K mg base 8 a.f32 a.d32 ["self", "key"] (qac2 a.Cg a.Ca a.Cd):=by
 refine VFn.mk2 T.d32.F qad0 (wOf [true,true]) (by walk_at "m") (by walk_at "l") (λ_ _ _ _ _ _ _ u=>⟨_,(Aa (sif (q2v (A5 qq1 (qb0 _)) (Al qq1 (qb0 _)) qu4 (qj5 0 T.d31 T.Ci.cl (qd9 T) qa1 (rm u) (vaN 1 Ab)) Ax) (Ag qan4) As) (Aa (Fy (Ah T.d22 (qA9 T) qa1 (rm u) (vaV (qc4 (Bq rfl (vnm 0) T.Ci.cl T.Dc)) (vaV (e2v (Aj qe5) qe4 (qL7 0 T.d29 T.Ci.cl (qx6 T) qa1 (rm u)) (Bj (qa0 (vnm 1) qa6 rfl))) Ab)))) (Aa (Fy (emutP qK1 Qg Qh Qi qh5 (Mb rfl (vpn 0) T.Ci.cl T.De) (vaV (qa3 (Bk (qa0 A4 (qa0 (vnm 1) qa6 rfl) rfl))) Ab))) (Ag (An (Ah T.d23 (qaa0 T) qa1 (rm u) (vaV (qc4 (Bq rfl (vnm 0) T.Ci.cl T.Dc)) (vaB (Mb rfl (vpn 0) T.Ci.cl T.Co) (vaN 1 Ab))))))))),λI Q J h=>?_⟩);obtain⟨n,wr,b,g,f,x,t,rfl,j,h⟩:=h;have A:=qd4 j;refine At [rA a n wr b g f,x] rfl ?_;rcases h with⟨ho,qx⟩|⟨S,k,rfl,n1,n2,o,hS,KP,nin,nc,hdn,q⟩;{exact qaS0 (qx4 (qn4 (p:=rA a n wr b g f) rfl (qh2 rfl) (qc1 (x:=x) (qc7 rfl A) (qc2 (qa2 (a:=x) (qc7 rfl A) (qa2 (a:=rA a n wr b g f) rfl ⟨false,n,wr,b,g,f,x,t,rfl,j,λ_=>qa2 (a:=[rA a n wr b g f,x]) rfl qx,λk e o=>absurd (ho.symm.trans (qU5 e o)) zA8⟩))))))};have C:=KP.perm;have L:((Ob n.toNat).filterMap g).length<=64:=by have:=List.length_filterMap_le g (Ob n.toNat);rw[zBb] at this;lia
 refine qaS0 (qx4 (qn4 (p:=rA a n wr b g f) rfl (qh2 rfl) (qc1 (x:=.int k) rfl (qc2 (qa2 (a:=D.int k) rfl (qa2 (a:=rA a n wr b g f) rfl ⟨false,n,wr,b,g,f,.int k,t,rfl,j,λG=>absurd (G.symm.trans (qU5 rfl o)) zA8,λM e _=>qa2 (a:=[rA a n wr b g f,.int k]) rfl ?_⟩))))));cases e;rw[qT8 λi H e=>nin ((KP.h.2 k).mpr ⟨i,H,e⟩)];refine qa2 (a:=D.bl false) rfl (qa2 (a:=false) rfl (Ju ∅ ?_));refine qb3 [rA a n wr b g f,.int k] (λK v=>qz1 (ql4 ?_)) ?_;{refine qh8 (y:=Ra true a.Ca n wr b) (Ba rfl qT9) rfl (qf4 (qI2 ?_));refine Mx (p:=rA a n wr b g f) (d:=kL ((Ob n.toNat).filterMap g)) rfl (qh2 rfl) ⟨false,n,wr,b,g,f,rfl,n2,rfl⟩ rfl ?_;refine qa2 (a:=D.l false (Re ((Ob n.toNat).filterMap g++[k]))) (qaV3 (z:=false) (z':=false) (B:=[k]) (by show _+1<=1000;lia)) (qc2 ?_);refine⟨true,n,wr,b,false,_,rfl,n1,n2,λx j=>?_,by rw[zAf];show _+1<=1000;lia,λ_=>v,λr c=>absurd (c.perm (C.append_right [k])) (nc r)⟩;rcases zAd.mp j with h|h;{exact hS x (C.subset h)};rw[zAg.mp h];exact o};refine qb3 [rA a n wr b g (f++[.q [.str "put",.int k]]),.int k] (λK v=>qz1 ?_) ?_;{refine qaQ0 (i:=0) (p:=[2]) (ys:=f) (d0:=rA a n wr b g f) (by show (D.fidx a.Cg "done" (rA a n wr b g f)).map (λn=>(0,[n]))=_;rw[qaq9];rfl) rfl rfl ?_;exact qe1 (y:=.q [.str "put",.int k]) rfl (qc2 (qa2 (a:=(f++[D.q [.str "put",.int k]],D.non)) (if_pos (show f.length<big by unfold big;lia)) v))};generalize f++[.q [.str "put",.int k]]=s at q ⊢;refine qk5 (ql4 (qh8 (y:=Ra true a.Ca n wr b) (Ba rfl qT9) rfl ?_));refine qa2 (a:=(0,[1])) (by show (D.fidx a.Cg "held" (rA a n wr b g s)).map (λn=>(0,[n]))=_;rw[qW5];rfl) (qa2 (a:=D.l false (Rf n.toNat g)) rfl ⟨rfl,λw=>?_⟩);refine qc1 (x:=.int k) rfl (qc2 (qa2 (a:=D.int k) rfl ?_));refine⟨true,n,wr,b,g,S,k,rfl,n1,n2,o,hS,KP,nin,?_,λcame E K'=>?_⟩;{by_cases h:∃e,Free n.toNat wr (Rb n b) g k e;{exact h};obtain⟨q,c⟩:=KP.crowd λe z=>h ⟨e,z⟩;exact absurd c (nc q)};refine qa2 (a:=[rA a n wr b E s,.int k]) ?_ (q came E K');show Au (.pl 0 [1] w::_) _ _=_;rw[qaI2 rfl];rfl
theorem qP0:qa9 ["self"] ["self"] (qa4 qs2):=by walk_at "s"
def qN9(C CP:γ):VSp:=Aw λds d=>∃zr n wr ps g dn,ds=[Br zr C CP n wr ps g dn]/\D.imms dn=true/\d=.l false dn
theorem qQ6(T:Txt K mg a):VFn P w K mg base 1 a.f34 a.d34 ["self"] (qN9 a.Cg a.Ca):=by refine VFn.mk2 T.d34.F qP0 (wOf [true]) qb5 (by walk_at "l") (λ_ _ _ _ _ _ _ i=>⟨_,(Ag (An (qa3 (Hq qf0 qz6.ops T.Cz (qa0 (Bq rfl (vnm 0) T.Ci.cl T.De) qa6 rfl))))),λj Q k h=>?_⟩);obtain⟨d,⟨c,n,wr,e,g,b,rfl,f,rfl⟩,q⟩:=h;refine At [Br c a.Cg a.Ca n wr e g b] rfl ?_;refine qg6 (.l false b) ?_ q;unfold A8 Ay;rw[Ba rfl qao1];exact qi2 f
theorem qaK5:qa9 ["_law_script"] ["_law_script"] (qa4 qaA2):=by walk_at "s"
theorem qaP4(T:Txt K mg a):Gv P w K mg base CX0 1 a.f36 a.d36 ["_law_script"] (qaW8 K):=by
 refine T.d36.F.ok qaK5 (λJ H Q E h=>?_) (λL A outer s H J Q E O h=>?_);{obtain⟨l,d,rfl,_⟩:=h;rfl};obtain⟨l,d,rfl,M,R,k⟩:=h;refine⟨_,(qJ1 (qaM1 (qaB6 (qf6 qF4 (qf6 qF4 (qf6 qF4 (qf6 (qC1 ["_law_cell"] [none] (qx5 (qae4 qat8 (pv 0) qau9 (qau8 qF4))) (λC B H0 G=>(gnm 0 (show (["_law_cell"]:List Str).Nodup by decide +kernel))) (λC B H0 G=>qaN1) (λC B H0 G=>(cbi qaI0 T.Fv (qf6 (pv 0) qu3)))) qu3))))))),?_⟩;refine⟨_,rfl,_,rfl,l,_,rfl,M,λc N=>?_⟩;have ec:J0 (d.map V.int) none (some 63)=d.map V.int:=by unfold J0;have t:HT.sIx (d.map V.int).length (d.map V.int).length (some (63:Int))=min 63 (d.map V.int).length:=HT.qad7 _ _ 63;rw[t,HT.qP8,Os,Nat.sub_zero];apply zAq;rw[zAk];lia
 rw[ec];refine⟨c,rfl,⟨_,SqL.of qb1⟩,λD r=>?_⟩;have I:D≠c:=λz=>by rw[z,qb1] at r;cases r
 have g:H D=none:=by rw[qb2 I] at r;exact r
 refine qX1 (K:=K) (xs:=d.map V.int) (λi σ H1=>∃v,σ=[v]/\H1=upd (upd H c (.l (d.map V.int))) D (.l (((d.take i).map λn=>if n<0 then -n else n).map V.int))) ⟨none,rfl,rfl⟩ ?_ ?_ ?_;{rintro i σ H1 _ ⟨v,rfl,rfl⟩;refine SqL.of ?_;rw[qb2 I.symm,qb1]}
 .rintro i x σ H1 j ⟨v,rfl,rfl⟩;obtain⟨n,u,rfl⟩:∃n,d[i]?=some n/\V.int n=x:=by rw[zBd] at j;cases e:d[i]? with|none=>rw[e] at j;cases j|some z=>rw[e] at j;exact⟨z,rfl,Qc j⟩
  refine⟨_,rfl,_,rfl,_,qb1,?_,_,rfl,?_⟩;{rw[zAk,zAk,zB6];exact qan5 ⋯};rw[qaJ0];congr 1;rw[Og,u];simp
 rintro σ H1 ⟨v,rfl,rfl⟩;rw[zAk,zAq (zA3 _)];refine⟨by show 4<=M9;decide,λp f=>?_⟩;have q:p≠D:=λz=>by rw[z,qb1] at f;cases f
 rw[qb2 q] at f;have y:p≠c:=λz=>by rw[z,qb1] at f;cases f
 rw[qb2 y] at f;refine k p D _ f g (λb o e=>?_) ⟨0,1234567891,0,d.map λn=>if n<0 then -n else n,qb1,?_,∅,∅,∅,∅,?_⟩;{rw[qb2 (qc3 e f),qb2 (qc3 e g),qb2 (qc3 e N)];exact e};{rw[qb2 q.symm,qb1]};intro n u;obtain⟨m,_,rfl⟩:=zAy.mp u;split<;>lia
theorem qaz9:qa9 ["_law_plan", "_law_key"] ["_law_plan", "_law_key"] (qa4 qad6):=by walk_at "s"
def qaz6:VSp:=Aw λds d=>∃n wr ps k,ds=[Af n wr ps,.int k]/\1<=n/\(ps.map (·.1)).Nodup/\d=.int (qd2 n ps k)
theorem qQ7(T:Txt K mg a):VFn P w K mg base 1 a.f38 a.d38 ["_law_plan", "_law_key"] qaz6:=by
 refine VFn.mk2 T.d38.F qaz9 (wOf [true,true]) qb5 (by walk_at "l") (λ_ _ _ _ _ _ _ c=>⟨_,(Ag (An (qa3 (v2 (Aj ql6) ql5 (vget (hu_of c) (Hq (qM2 rfl) qax2.ops T.Ff (qa0 (v2 (Av qb4) Am (vnm 0) Ad) qa6 rfl)) (vnm 1) (vnm 1) ⟨rfl,rfl,rfl,rfl⟩) (v2 (Av qb4) Am (vnm 0) Ad))))),λg Q i h=>?_⟩);obtain⟨d,⟨n,wr,b,k,rfl,j,e,rfl⟩,q⟩:=h;have f:A8 (fx1 Kq) (Ay (f2 gIx (rdN 0) (kC (.int 2))) λ_=>some []) [Af n wr b,.int k]=some (.dct false (kvD b)):=by show Kq (.l true (Rg b))=_;exact qax0 e
 exact qg6 _ (Ae (qai0 f rfl) (y:=.int n) rfl (G8 ⋯)) q
theorem qf3:qa9 ["_law_plan", "_law_keys", "_law_homes", "_law_found", "_law_on", "_law_turn", "_law_room"] ["_law_plan", "_law_keys"] (qa4 qx2):=by walk_at "s"
theorem qas6(a:1<=n)(ks:List Int)(r:Nat):Lg (.l z (Re (ks.map (qd2 n ps)))) (.int (r:Nat))=some (.int (Hy (Rb n ps) ks r:Nat)):=by show ((flats (Re (ks.map (qd2 n ps)))).bind λb=>some (D.int (b.countP (λz=>eqV z (.int (r:Nat))):Nat)))=_;rw[qy9];show some (D.int (((ks.map (qd2 n ps)).map V.int).countP (λz=>eqV z (.int (r:Nat))):Nat))=_;congr 3;unfold Hy;rw[Pk,Pk,List.countP_eq_length_filter];congr 1;refine Ov λk _=>?_;have:=qC6 (ps:=ps) a k;exact zCi.mpr ⋯
def onT(n:Int)(ps:Pr)(ks:List Int):Nat->Int:=onC (cR n.toNat (Rb n ps) ks)
def Bb(n:Int)(ps:Pr)(ks:List Int)(i m:Nat):List Int:=(Ob m).map λr=>onT n ps ks (n.toNat*i+r+1)
theorem qJ3{n:Int}{ps:Pr}{m:Nat}:Bb n ps ks i m++[onT n ps ks (n.toNat*i+m+1)]=Bb n ps ks i (m+1):=by unfold Bb;rw[O3,zBn];rfl
def qZ1:VSp:=Aw λds d=>∃n wr ps z ks,ds=[Af n wr ps,.l z (Re ks)]/\1<=n/\n<=64/\(ps.map (·.1)).Nodup/\ks.length<=200/\d=.l false (Re (Bb n ps ks wr.toNat n.toNat))
theorem qaa2(T:Txt K mg a):VFn P w K mg base 2 a.f41 a.d41 ["_law_plan", "_law_keys"] qZ1:=by
 refine VFn.mk2 T.d41.F qf3 (wOf [true,true]) qb5 (by walk_at "l") (λ_ _ _ _ _ _ _ L=>⟨_,(Aa (scN (NY:=["_law_key", "_law_plan"]) (src:=[none,some 0]) 2 1 qf3.nd (blk (λB C E H0 G=>(Bf 0 (show (["_law_key", "_law_plan"]:List Str).Nodup by decide +kernel))) (λB C E H0 G=>Iu) (λB C E H0 G=>(Ah T.d38 (qQ7 T) qt0 (rm L) (vaN 1 (vaN 0 Ab)))))) (Aa (Ak 3 qf3.nd (qa3 (Bj qa6))) (Aa (Ak 4 qf3.nd (qa3 Ad)) (Aa (qE0 Qd T.Cq (Gy (vaV (qa3 (v2 (Aj qe5) qe4 Ad (Hq qX5 qaT8.ops T.Eo (qa0 (v2 (Av qb4) Am (vnm 0) Ad) qa6 rfl)))) Ab)) (Bf 5 qf3.nd) (Aa (Ak 3 qf3.nd (qa3 (Bj qa6))) (Ag (qE0 Qd T.Cq (Gy (vaV (qc4 (v2 (Av qb4) Am (vnm 0) Ad)) Ab)) (Bf 6 qf3.nd) (Aa (Ak 4 qf3.nd (qa3 (vbi (qX4 rfl) qax1.ops T.Fp (qa0 Ad (qa0 (v2 (Aj qm3) qm2 (v2 (Aj qe5) qe4 (vnm 4) (vbm qaO8 Qg Ql Qr qaf4 (vnm 2) (vnm 6) qax3)) Ad) qa6 rfl) rfl)))) (Ag (Fy (Ht 3 qK1 Qg Qh Qi qh5 (vaV (qc4 (vnm 4)) Ab))))))))) (Ag (An (emv 3))))))),λf Q Y h=>?_⟩);obtain⟨d,⟨n,wr,b,z,c,rfl,H,Z,M,hl,rfl⟩,q⟩:=h;refine At [Af n wr b,.l z (Re c),.u,.u,.u,.u,.u] rfl ?_;refine qb3 [Af n wr b,.l z (Re c),kL (c.map (qd2 n b)),.u,.u,.u,.u] (λK o=>qe6 (qa2 (a:=D.l z (Re c)) rfl (qa2 (a:=Re c) rfl ⟨qo0 c,?_⟩))) ?_
 .refine qo2 (λι=>∃d,ι=[d,Af n wr b]) (λx=>some (match x with | .int k=>.int (qd2 n b k)|d=>d)) _ [] _ (by show 0+_<1000000;rw[qn5];lia) ⟨_,rfl⟩ ?_ ?_;{rintro y N ι O ⟨d,rfl⟩ R S s;obtain⟨k,_,rfl⟩:=zAy.mp N;exact qp5 (qal6 (G7 rfl (qF9 (x:=Af n wr b) (y:=.int k) (d:=.int (qd2 n b k)) rfl rfl rfl ⟨n,wr,b,k,rfl,H,M,rfl⟩ rfl ⟨s,S [.int k,Af n wr b] ⟨_,rfl⟩⟩)))};rintro ι ⟨d,rfl⟩;rw[zBh,qai6];have U:((Re c).map λx=>match x with | .int k=>D.int (qd2 n b k)|d=>d)=Re (c.map (qd2 n b)):=by unfold Re;rw[zCn,zCn];rfl
  rw[U];exact o
 generalize t:kL (c.map (qd2 n b))=p;refine qb3 [Af n wr b,.l z (Re c),p,.l false [],.u,.u,.u] (λK o=>o) ?_;refine qb3 [Af n wr b,.l z (Re c),p,.l false [],.int 0,.u,.u] (λK o=>o) ?_;refine qc0 (λf=>∃I r m,f=[Af n wr b,.l z (Re c),p,kL (Bb n b c wr.toNat n.toNat),I,r,m]) (λK o=>?_) ?_
 .refine qv6 (n:=((1+wr.toNat:Nat):Int)) (by cases wr<;>rfl) (qR2 ⋯ (by cases wr<;>decide)) ?_;refine qf7 (λi f=>∃F r m,f=[Af n wr b,.l z (Re c),p,.l false F,.int (onT n b c (n.toNat*i)),r,m]/\(0<i->F=Re (Bb n b c (i-1) n.toNat))) _ 0 _ ⟨_,_,_,rfl,λh=>absurd h ⋯⟩ ?_ ?_
  .rintro i x A f ⟨F,r,m,rfl,_⟩ K2 u;rw[zAo] at u ⊢;obtain⟨hi,rfl⟩:=qP9 A;refine qp5 (At [Af n wr b,.l z (Re c),p,.l false F,.int (onT n b c (n.toNat*i)),.int (i:Nat),m] rfl ?_);refine qb3 [Af n wr b,.l z (Re c),p,.l false [],.int (onT n b c (n.toNat*i)),.int (i:Nat),m] (λK o=>o) ?_;refine qG9 (n:=n) rfl (qR2 ⋯ ⋯) ?_;refine qf7 (λj f=>∃m,f=[Af n wr b,.l z (Re c),p,kL (Bb n b c i j),.int (onT n b c (n.toNat*i+j)),.int (i:Nat),m]) _ 0 _ ⟨_,rfl⟩ ?_ ?_
   .rintro j x A f ⟨m,rfl⟩ K3 v;rw[zAo] at v ⊢;obtain⟨V,rfl⟩:=qP9 A;refine qp5 (At [Af n wr b,.l z (Re c),p,kL (Bb n b c i j),.int (onT n b c (n.toNat*i+j)),.int (i:Nat),.int (j:Nat)] rfl ?_);refine qb3 [Af n wr b,.l z (Re c),p,kL (Bb n b c i j),.int (onT n b c (n.toNat*i+j+1)),.int (i:Nat),.int (j:Nat)] (λK o=>qp8 ?_ o) ?_
    .have W:Lg p (.int (j:Nat))=some (.int (Hy (Rb n b) c j:Nat)):=by rw[<-t];exact qas6 H c j
     have e:=Ae (g:=gSub) (y:=.int 1) (Ae (g:=Jd) (fa:=rdN 4) (ds:=[Af n wr b,.l z (Re c),p,kL (Bb n b c i j),.int (onT n b c (n.toNat*i+j)),.int (i:Nat),.int (j:Nat)]) (x:=.int (onT n b c (n.toNat*i+j))) rfl (Ae (g:=Lg) (fa:=rdN 2) (fb:=rdN 6) (by rw[<-t];rfl) rfl W) rfl) (fb:=kC (.int 1)) rfl rfl;unfold A8 Ay;rw[e];have X:cR n.toNat (Rb n b) c (n.toNat*i+j)=Hy (Rb n b) c j:=by unfold cR;rw[Nat.mul_add_mod,zCh V]
     show some (D.int (if onT n b c (n.toNat*i+j)+(Hy (Rb n b) c j:Nat)-1>0 then onT n b c (n.toNat*i+j)+(Hy (Rb n b) c j:Nat)-1 else 0))=some (D.int (if onC (cR n.toNat (Rb n b) c) (n.toNat*i+j)+(cR n.toNat (Rb n b) c (n.toNat*i+j):Int)-1>0 then onC (cR n.toNat (Rb n b) c) (n.toNat*i+j)+(cR n.toNat (Rb n b) c (n.toNat*i+j):Int)-1 else 0));rw[X];rfl
    refine qax8 (ys:=Re (Bb n b c i j)) (d:=.int (onT n b c (n.toNat*i+j+1))) rfl rfl rfl (by rw[qn5];unfold Bb big;rw[zAk,zBb];lia) ?_;rw[qV3,qJ3];exact v _ ⟨_,rfl⟩
   rintro f ⟨m,rfl⟩;rw[zAo,qV2,show n.toNat*i+n.toNat=n.toNat*(i+1) by rw[Nat.mul_add,Nat.mul_one]];exact u _ ⟨_,_,_,rfl,λ_=>rfl⟩
  rintro f ⟨F,r,m,rfl,J⟩;rw[zAo,qV2,zCg] at J;rw[J ⋯,show 1+wr.toNat-1=wr.toNat by lia];exact o _ ⟨_,_,_,rfl⟩
 rintro f ⟨I,r,m,rfl⟩;exact q
theorem qf5:qa9 ["_law_plan", "_law_keys", "_law_passing_here", "_law_begin", "_law_found", "_law_at", "_law_on", "_law_key"] ["_law_plan", "_law_keys"] (qa4 qF1):=by walk_at "s"
theorem qav5:∀ps:List (Int×Int),(Rg ps).mapM Lj=some ps|[]=>rfl|p::r=>by show List.mapM Lj (D.q [.int p.1,.int p.2]::Rg r)=_;rw[Ps,qav5 r];rfl
theorem qan2{f:Int->Int}(e:L=S.map λk=>(f k,k))(a:S.Nodup)(b:S.length<=64):qaw6 (.l z (Rg L))=some (.l false (Rg (Gs L))):=by show ((Rg _).mapM Lj).bind _=_;rw[qav5];refine qi2 ⟨?_,by rw[e,zAk];exact b⟩;rw[e];exact zCd.mpr (a.imp λh z=>h (congrArg Prod.snd z))
theorem qae8{f:Int->Nat}:((Gs (ks.map λk=>(((f k:Nat):Int),k))).map (·.2)).Perm ks:=by have h:((Gs (ks.map λk=>(((f k:Nat):Int),k))).map (·.2)).Perm ((ks.map λk=>(((f k:Nat):Int),k)).map (·.2)):=(O9 _ _).map _;rw[zCn] at h;have e:ks.map ((·.2) ∘ λk=>(((f k:Nat):Int),k))=ks:=List.map_id ks;rwa[e] at h
theorem qae9{f:Int->Nat}{p:Int×Int}(a:p∈Gs (ks.map λk=>(((f k:Nat):Int),k))):p.1=(f p.2:Nat):=by rw[List.mem_mergeSort] at a;obtain⟨k,_,rfl⟩:=zAy.mp a;rfl
theorem qaZ2{f:Int->Nat}(b:ks.Nodup):((Gs (ks.map λk=>(((f k:Nat):Int),k))).map (·.2)).Pairwise (L6 f):=by have a:=(qae8 (f:=f)).nodup_iff.mpr b;unfold List.Nodup at a;rw[zCd] at a ⊢;refine((qac6 _).and a).imp_of_mem λ{p q} c d h=>?_;have g:=qae9 c;have i:=qae9 d;have e:=h.1;simp only[S6.plt,decide_eq_false_iff_not] at e;have j:=h.2;unfold L6;lia
theorem qbc2{z:Bool}:∀{L R:List Int},¬k∈L->Mg (.l z (Re (L++k::R))) (.int k)=some (.int (L.length:Nat)):=by
 intro L R h;have e:Hi (.int k) ((L++k::R).map V.int)=some L.length:=by induction L with|nil=>show (if decide (k=k)=true then some 0 else _)=_;rw[if_pos (zAn rfl)];rfl|cons a L b=>rw[zAl,not_or] at h;show (if decide (a=k)=true then some 0 else (Hi (.int k) ((L++k::R).map V.int)).map (· + 1))=_;rw[if_neg (by simpa using λz=>h.1 z.symm),b h.2];rfl
 show ((flats (Re (L++k::R))).bind λc=>(Hi (.int k) c).map λj=>D.int (j:Nat))=_;rw[qy9];show (Hi (.int k) ((L++k::R).map V.int)).map (λj=>D.int (j:Nat))=_;rw[e];rfl
theorem qae6{n:Int}{ps:Pr}{z:Bool}(h:1<=n):gIx (.l z (Re (Bb n ps ks i n.toNat))) (.int (-1))=some (.int (onT n ps ks (n.toNat*i+n.toNat))):=by
 obtain⟨m,e⟩:∃m,n.toNat=m+1:=⟨n.toNat-1,⋯⟩;have e2:Bb n ps ks i n.toNat=Bb n ps ks i m++[onT n ps ks (n.toNat*i+m+1)]:=by rw[qJ3,e]
 rw[e2,show n.toNat*i+n.toNat=n.toNat*i+m+1 by lia];unfold Re;rw[zBn];exact qaI3 _ _
def qac5:VSp:=λds Q _=>∃n wr ps z ks,ds=[Af n wr ps,.l z (Re ks)]/\1<=n/\n<=64/\(ps.map (·.1)).Nodup/\ks.Nodup/\ks.length<=200/\((∃q,Crowd n.toNat wr (Rb n ps) ks q)->Q .non ds)/\((∀q,¬Crowd n.toNat wr (Rb n ps) ks q)->∀g,Kept n.toNat wr (Rb n ps) g ks->Q (rL n g) ds)
theorem qJ8(T:Txt K mg a):VFn P w K mg base 3 a.f42 a.d42 ["_law_plan", "_law_keys"] qac5:=by
 refine VFn.mk2 T.d42.F qf5 (wOf [true,true]) (by walk_at "m") (by walk_at "l") (λ_ _ _ _ _ _ _ u=>⟨_,(Aa (sif (q2 (Al Gg (qb0 _)) Gj (vbi qu8 qu7.ops T.D3 (qa0 (vnm 1) qa6 rfl)) (v2 (Av qb4) Am (vnm 0) Ad)) (Ag (An (qa3 Ax))) As) (Aa (Ak 2 qf5.nd (Ah T.d41 (qaa2 T) qa1 (rm u) (vaN 0 (vaN 1 Ab)))) (Aa (sif (tand (Bn (tv (v2 (Av qb4) Am (vnm 0) Ad))) (Kr (q2 (Al Gg (qb0 _)) Gj (v2 (Av qb4) Am (vnm 2) (vneg Ad)) Ad))).te (Ag (An (qa3 Ax))) As) (Aa (Ak 3 qf5.nd (qa3 Ad)) (Aa (sif (tv (v2 (Av qb4) Am (vnm 0) Ad)) (Ag (Ak 3 qf5.nd (qa3 (v2 (Aj qe5) qe4 (vbm qaC4 Qg Qj Qm qR1 (vnm 2) Ad qah5) Ad)))) As) (Aa (Ak 4 qf5.nd (qa3 (v2 (Aj qA8) qA7 (Bj (qa0 Ax qa6 rfl)) (v2 (Av qb4) Am (vnm 0) Ad)))) (Aa (Ak 5 qf5.nd (qa3 (vneg Ad))) (Aa (Mh Qd (ebi qak5 qaH6.ops T.Fa (Gy (vaV (ecN (NY:=["_law_key", "_law_begin", "_law_plan"]) (src:=[none,some 3,some 0]) 1 (blk (λav C s0 H0 ex=>(Bf 0 (show (["_law_key", "_law_begin", "_law_plan"]:List Str).Nodup by decide +kernel))) (λav C s0 H0 ex=>Iu) (λav C s0 H0 ex=>(Je (vaV (e2v (Aj ql6) ql5 (e2v (Aj qm3) qm2 (Ah T.d38 (qQ7 T) qt0 (rm u) (vaN 2 (vaN 0 Ab))) (vnm 1)) (v2 (Av qb4) Am (vnm 2) Ad)) (vaV (qc4 (vnm 0)) Ab)))))) Ab))) (Kw (n:=2) rfl (qL3 (Bf 6 qf5.nd) (qL3 (Bf 7 qf5.nd) Ku))) (Aa (Ak 5 qf5.nd (qa3 (vbi (qX4 rfl) qax1.ops T.Fp (qa0 (v2 (Aj qe5) qe4 (vnm 5) Ad) (qa0 (vnm 6) qa6 rfl) rfl)))) (Ag (G4 (qc4 (vnm 7)) (Ge (vpn 4) (v2 (Aj ql6) ql5 (v2 (Aj qe5) qe4 (vnm 3) (vnm 5)) (v2 (Av qb4) Am (vnm 0) Ad))))))) (Ag (An (emv 4))))))))))),λv Q xe h=>?_⟩);obtain⟨n,wr,j,z,o,rfl,M,n2,nd,N,hl,q,q'⟩:=h;have B:=G0 (ps:=j) M;have oc:=qao8 (T:=o) ⋯ B;refine At [Af n wr j,.l z (Re o),.u,.u,.u,.u,.u,.u] rfl ?_;refine qg2 (decide (n<(o.length:Int))) (Ae (qk8 rfl) (y:=.int n) rfl (by rw[qn5];rfl)) (λh=>qg6 .non rfl (q ⟨0,⋯,?_⟩)) λh=>?_;{have h:=zAe h;cases wr with|true=>rw[if_pos rfl];exact⟨rfl,⋯⟩|false=>rw[if_neg ∅,List.filter_eq_self.mpr λ_ _=>zAn (zBg _)];lia};have a0:o.length<=n.toNat:=by have:=zBj h;lia
 refine qb3 [Af n wr j,.l z (Re o),kL (Bb n j o wr.toNat n.toNat),.u,.u,.u,.u,.u] (λK t=>qe6 (qF9 (x:=Af n wr j) (y:=.l z (Re o)) rfl rfl rfl ⟨n,wr,j,z,o,rfl,M,n2,nd,hl,rfl⟩ rfl t)) ?_;refine qc8 (!wr&&decide (0<onT n j o (n.toNat*wr.toNat+n.toNat))) (λQ q=>qj8 (!wr) (decide (0<onT n j o (n.toNat*wr.toNat+n.toNat))) (λQ q=>qg3 (b:=wr) rfl q) (λ_ Q q=>qf8 (Ae (Ae rfl rfl (qae6 M)) rfl rfl) q) q) (λh=>qg6 .non rfl (q ?_)) λh=>?_;{cases wr with|true=>cases h|false=>have h:=zAe h;rw[show n.toNat*false.toNat+n.toNat=n.toNat by show n.toNat*0+_=_;lia] at h;exact oc.mp h};refine qb3 [Af n wr j,.l z (Re o),kL (Bb n j o wr.toNat n.toNat),.int 0,.u,.u,.u,.u] (λK t=>t) ?_;refine qc0 (λv=>∃s:Nat,v=[Af n wr j,.l z (Re o),kL (Bb n j o wr.toNat n.toNat),.int (s:Nat),.u,.u,.u,.u]/\s<=n.toNat/\(wr=false->s=0)/\(∀q,¬Crowd n.toNat wr (Rb n j) o q)/\∀q,¬Crowd n.toNat false (λk=>Ac n.toNat (s%n.toNat) (Rb n j k)) o q) (λK t=>?_) ?_
 .refine if_v (b:=wr) rfl (λE=>?_) λE=>t _ ⟨0,rfl,⋯,λ_=>rfl,?_,?_⟩
  .subst E;obtain⟨r,u,h0⟩:=qaC7 (T:=o) ⋯ B a0;have hm:(0:Int)∈Bb n j o 1 n.toNat:=zAy.mpr ⟨r,zAm.mpr u,by rw[Nat.mul_one];exact h0⟩;obtain⟨L,R,O,nL⟩:=List.eq_append_cons_of_mem hm;have S:L.length<n.toNat:=by have:=congrArg Of O;unfold Bb at this;simp at this;lia
   have Y:onT n j o (n.toNat+L.length+1)=0:=by
    have:(Bb n j o 1 n.toNat)[L.length]?=some 0:=by rw[O];simp
    unfold Bb at this;rw[zBd,List.getElem?_range S,Nat.mul_one] at this;exact Qc this
   refine qp8 (d:=.int ((L.length+1:Nat):Int)) (Ae (g:=Jd) (y:=.int 1) (Ae (g:=Mg) (x:=kL (L++0::R)) (y:=.int 0) (by rw[<-O];rfl) rfl (qbc2 nL)) rfl rfl) (t _ ⟨L.length+1,rfl,⋯,λh=>absurd h ∅,λq c=>?_,qJ9 S B Y⟩);have c:=c.2;rw[if_pos rfl] at c;lia
  {subst E;have h:decide _=false:=h;rw[show n.toNat*false.toNat+n.toNat=n.toNat by show n.toNat*0+_=_;lia] at h;exact λq c=>zBj h (oc.mpr ⟨q,c⟩)};subst E;have h:decide _=false:=h;rw[show n.toNat*false.toNat+n.toNat=n.toNat by show n.toNat*0+_=_;lia] at h;rw[Nat.zero_mod,show (λk=>Ac n.toNat 0 (Rb n j k))=Rb n j from funext λk=>Kl];exact λq c=>zBj h (oc.mpr ⟨q,c⟩)
 rintro v ⟨s,rfl,hs,E,nc,a1⟩;have G:s%n.toNat<n.toNat:=Nat.mod_lt _ ⋯;generalize eP:kL (Bb n j o wr.toNat n.toNat)=H;refine qb3 [Af n wr j,.l z (Re o),H,.int (s:Nat),.l false (Rf n.toNat λ_=>none),.u,.u,.u] (λK t=>qp8 (Ae rfl (y:=.int n) rfl (qaf3 ⋯ n2)) t) ?_;refine qb3 [Af n wr j,.l z (Re o),H,.int (s:Nat),.l false (Rf n.toNat λ_=>none),.int (-1),.u,.u] (λK t=>t) ?_;refine qc0 (λv=>∃g d5 I J,v=[Af n wr j,.l z (Re o),H,.int (s:Nat),rL n g,d5,I,J]/\Kept n.toNat wr (Rb n j) g o) (λK t=>?_) ?_
 .refine co_to (qf4 (qa2 (a:=D.l z (Re o)) rfl (qa2 (a:=Re o) rfl ⟨qo0 o,?_⟩)));refine qo2 (λι=>∃d,ι=[d,.int (s:Nat),Af n wr j]) (λx=>some (match x with | .int k=>.q [.int (Ac n.toNat (s%n.toNat) (Rb n j k):Nat),.int k] | d=>d)) _ [] _ (by show 0+_<1000000;rw[qn5];lia) ⟨_,rfl⟩ ?_ ?_;{rintro y U ι a4 ⟨d,rfl⟩ R hR V;obtain⟨k,_,rfl⟩:=zAy.mp U;have this:=hR [.int k,.int (s:Nat),Af n wr j] ⟨_,rfl⟩;refine qp5 (qal6 (G7 rfl (qf4 (qI2 (qI2 (qF9 (x:=Af n wr j) (y:=.int k) (d:=.int (qd2 n j k)) rfl rfl rfl ⟨n,wr,j,k,rfl,M,nd,rfl⟩ rfl ?_))))));refine qa2 (a:=D.int (qd2 n j k-(s:Nat))) rfl (qa2 (a:=D.int (Ac n.toNat (s%n.toNat) (Rb n j k):Nat)) ((G8 ⋯).trans ?_) (qh8 (y:=.int k) rfl rfl (qc2 ⟨lt2,V,this⟩)));have Y:=qaD9 (B k) hs;rw[qC6 M k,show ((n.toNat:Nat):Int)=n by lia] at Y;rw[Y]};rintro ι ⟨d,rfl⟩;rw[zBh,qai6];have O:((Re o).map λx=>match x with | .int k=>D.q [.int (Ac n.toNat (s%n.toNat) (Rb n j k):Nat),.int k] | d=>d)=Rg (o.map λk=>((Ac n.toNat (s%n.toNat) (Rb n j k):Nat),k)):=by unfold Re Rg;rw[zCn,zCn];rfl
  rw[O];have pw:=qaZ2 (f:=λk=>Ac n.toNat (s%n.toNat) (Rb n j k)) N;have Z:=qae8 (f:=λk=>Ac n.toNat (s%n.toNat) (Rb n j k)) (ks:=o);have of:=λp=>qae9 (f:=λk=>Ac n.toNat (s%n.toNat) (Rb n j k)) (ks:=o) (p:=p);have es:=qan2 (z:=false) (L:=o.map λk=>(((Ac n.toNat (s%n.toNat) (Rb n j k):Nat):Int),k)) rfl N ⋯;generalize Gs (o.map λk=>(((Ac n.toNat (s%n.toNat) (Rb n j k):Nat):Int),k))=L at pw Z of es;refine qc2 (qa2 (a:=D.l false (Rg L)) es (qa2 (a:=Rg L) rfl ⟨qK8 L,?_⟩));refine qf7 (λi v=>∃g top I J,v=[Af n wr j,.l z (Re o),H,.int (s:Nat),.l false (Rf n.toNat λi=>g (Ac n.toNat (s%n.toNat) i)),.int ((top:Nat)-1:Int),I,J]/\Fill n.toNat (λk=>Ac n.toNat (s%n.toNat) (Rb n j k)) g ((L.take i).map (·.2)) top) _ 0 _ ⟨_,0,_,_,rfl,Fill.start ⋯ λk=>qj6 (B k) G⟩ ?_ ?_
  .rintro i y U v ⟨g,top,I,J,rfl,F⟩ K2 W;rw[zAo] at F W;unfold Rg at U;rw[zBd] at U;obtain⟨⟨h0,k⟩,hp,rfl⟩:=zAc.mp U;obtain rfl:h0=((Ac n.toNat (s%n.toNat) (Rb n j k):Nat):Int):=of _ (zB5 hp);have a2:=(zA5.mp hp).1;have a3:L.map (·.2)=((L.take i).map (·.2)++[k])++(L.drop (i+1)).map (·.2):=by
    conv=>lhs;rw[<-zBf i L,Oi a2,(zA5.mp hp).2]
    simp
   have tk:(L.take (i+1)).map (·.2)=(L.take i).map (·.2)++[k]:=by rw[Og,hp,zBn];rfl
   rw[a3] at pw Z;have A:∀x∈(L.take i).map (·.2),L6 (λk=>Ac n.toNat (s%n.toNat) (Rb n j k)) x k:=λx hx=>(List.pairwise_append.mp (List.pairwise_append.mp pw).1).2.2 x hx k (zAg.mpr rfl);have nk:¬k∈(L.take i).map (·.2):=λh=>by rcases A k h with z|z<;>lia
   have u:=F.room A λq c=>a1 q ((c.mono (Oj _ _)).perm Z);have F':=F.put nk A u;generalize er:max top (Ac n.toNat (s%n.toNat) (Rb n j k))=r at u F';refine qR6 (At [Af n wr j,.l z (Re o),H,.int (s:Nat),.l false (Rf n.toNat λi=>g (Ac n.toNat (s%n.toNat) i)),.int ((top:Nat)-1:Int),.int (Ac n.toNat (s%n.toNat) (Rb n j k):Nat),.int k] rfl ?_);refine qb3 [Af n wr j,.l z (Re o),H,.int (s:Nat),.l false (Rf n.toNat λi=>g (Ac n.toNat (s%n.toNat) i)),.int (r:Nat),.int (Ac n.toNat (s%n.toNat) (Rb n j k):Nat),.int k] (λK t=>qp8 (d:=.int (r:Nat)) ?_ t) ?_;{show some (D.int (if ((Ac n.toNat (s%n.toNat) (Rb n j k):Nat):Int)>(top:Nat)-1+1 then ((Ac n.toNat (s%n.toNat) (Rb n j k):Nat):Int) else (top:Nat)-1+1))=_;congr 2;split<;>lia};have em:(((s:Nat):Int)+(r:Nat))%n=(rot n.toNat (s%n.toNat) r:Nat):=by have:((s+r:Nat):Int)%((n.toNat:Nat):Int)=((s+r)%n.toNat:Nat):=⋯;rw[show ((n.toNat:Nat):Int)=n by lia,Nat.add_mod,zCh u,qau2 G u] at this;rw[<-this];congr 1
   refine qT4 (ys:=Rf n.toNat λi=>g (Ac n.toNat (s%n.toNat) i)) (d:=.int k) (k:=(rot n.toNat (s%n.toNat) r:Nat)) rfl rfl rfl (Ae (x:=.int ((s:Nat)+(r:Nat))) (y:=.int n) rfl rfl ((G8 ⋯).trans (by rw[em]))) (qaF0 (qaK8 G u)) ?_;rw[qO6];have ec:Rf n.toNat (Row.set (λi=>g (Ac n.toNat (s%n.toNat) i)) (rot n.toNat (s%n.toNat) r) k)=Rf n.toNat λi=>Row.set g r k (Ac n.toNat (s%n.toNat) i):=qao0 λi hi=>by by_cases e:i=rot n.toNat (s%n.toNat) r;{subst e;rw[qc5,qS1 G u,qc5]};rw[qd7 e,qd7 λz=>e (by rw[<-z,qad8 G hi])]
   refine W _ ⟨_,r+1,.int (Ac n.toNat (s%n.toNat) (Rb n j k):Nat),.int k,?_,by rw[tk];exact F'⟩;rw[<-ec,show (((r+1:Nat):Int)-1)=((r:Nat):Int) by lia];rfl
  rintro v ⟨g,top,I,J,rfl,F⟩;have X:(Rg L).length=L.length:=zAk _;rw[zAo,X,O1] at F;refine t _ ⟨_,_,_,_,rfl,?_⟩;have K1:=F.k.of_perm Z;cases wr with|true=>exact K1.turn G B|false=>obtain rfl:=E rfl;rw[Nat.zero_mod] at K1 ⊢;rw[show (λk=>Ac n.toNat 0 (Rb n j k))=Rb n j from funext λk=>Kl] at K1;rw[show (λi=>g (Ac n.toNat 0 i))=g from funext λi=>by rw[Kl]];exact K1
 rintro v ⟨g,d5,I,J,rfl,KP⟩;exact q' nc g KP
theorem qr7:qa9 ["_law_bag_here", "_law_many", "_law_cell", "_law_value", "_law_first", "_law_second"] ["_law_bag_here", "_law_many"] (qa4 qad3):=by walk_at "s"
theorem qb7(T:Txt K mg a):VFn P w K mg base 1 a.f37 a.d37 ["_law_bag_here", "_law_many"] qO2:=by refine VFn.mk' T.d37.F qr7 (wOf [true,true]) (λr Q Q' u J L _ h=>by obtain⟨b,m,g,e,H,A,M,q⟩:=h;exact⟨b,m,g,e,H,A,M,λv N O R B=>L _ _ (q v N O R B)⟩) (λr Q u ⟨b,m,g,e,_⟩=>by rw[e];rfl) (λr Q u h=>by obtain⟨b,m,g,e,⟨x,y,z,S,_⟩,_⟩:=h;rw[e,S];rfl) (λ_ _ _ _ _ _ _ U=>⟨_,(Aa (sif (q2 (Al (qi8 U.u64) (qb0 _)) Bc (v2 (Av qb4) Am (vnm 0) Ad) Ad) (Aa (Ak 2 qr7.nd (qa3 Ad)) (Aa (sif (q2 (Al op_lt (qb0 _)) os_lt (v2 (Av qb4) Am (vnm 0) Ad) (vbi qu8 qu7.ops T.D3 (qa0 (v2 (Av qb4) Am (vnm 0) Ad) qa6 rfl))) (Ag (Ak 2 qr7.nd (qc4 (v2 (Av qb4) Am (v2 (Av qb4) Am (vnm 0) Ad) (v2 (Av qb4) Am (vnm 0) Ad))))) As) (Aa (saug (vpn 0) Ad Ad qbb9) (Aa (sif (q2 (Al Jh (qb0 _)) Ko (vnm 2) Ad) (Ag (G4 (qc4 (vnm 2)) (Ge (vpn 0) Ad))) As) (Ag (G4 (qa3 (v2 (Aj ql6) ql5 (v2 (Aj qe5) qe4 (v2 (Aj qe5) qe4 (v2 (Aj qA8) qA7 (v2 (Av qb4) Am (vnm 0) Ad) Ad) (v2 (Aj ql6) ql5 (vnm 2) Ad)) (v2 (Aj qA8) qA7 Ad (v2 (Av qb4) Am (vnm 0) Ad))) Ad)) (Ge (vpn 0) Ad))))))) As) (Aa (sif (q2 (Al Gg (qb0 _)) Gj (v2 (Av qb4) Am (vnm 0) Ad) Ad) (Aa (Ak 3 qr7.nd (qa3 (v2 (Aj ql6) ql5 (v2 (Av qb4) Am (vnm 0) Ad) (vnm 1)))) (Aa (G4 (qa3 (v2 (Aj qQ3) qaC5 (v2 (Av qb4) Am (vnm 0) Ad) (vnm 1))) (Ge (vpn 0) Ad)) (Ag (An (emv 3))))) As) (Aa (Ak 4 qr7.nd (qa3 (v2 (Aj ql6) ql5 (v2 (Aj qA8) qA7 (v2 (Aj qe5) qe4 (v2 (Av qb4) Am (vnm 0) Ad) Ad) Ad) Ad))) (Aa (Ak 5 qr7.nd (qa3 (v2 (Aj ql6) ql5 (v2 (Aj qA8) qA7 (v2 (Aj ql6) ql5 (v2 (Aj qA8) qA7 (vnm 4) (vnm 4)) Ad) Ad) Ad))) (Aa (sif (q2 (Al Gg (qb0 _)) Gj (vnm 1) Ad) (Ag (An (qa3 (v2 (Aj ql6) ql5 (v2 (Aj qe5) qe4 (v2 (Aj qA8) qA7 (vnm 5) Ad) (vnm 4)) (vnm 1))))) As) (Ag (An (qa3 (v2 (Aj ql6) ql5 (v2 (Aj qQ3) qaC5 (vnm 5) Ad) (vnm 1)))))))))),λr Q u h=>?_⟩);obtain⟨b,m,g,rfl,⟨x,y,z,rfl,B⟩,p,C,k⟩:=h;refine At [bagD x y z g,.int m,.u,.u,.u,.u] rfl ?_;refine qc0 (λr=>∃j o t c,r=[bagD j o t g,.int m,c,.u,.u,.u]/\Bg j o t g) (λK l=>?_) ?_;{refine if_v (b:=decide (x=0)) rfl (λ_=>?_) (λ_=>l _ ⟨x,y,z,_,rfl,B⟩);refine qb3 [bagD x y z g,.int m,.int 0,.u,.u,.u] (λK l=>l) ?_;refine qc0 (λr=>∃c:Int,0<=c/\r=[bagD x y z g,.int m,.int c,.u,.u,.u]) (λK l=>?_) ?_;{refine if_v (b:=decide (z<(((g.map D.int).length:Nat):Int))) rfl (λA=>?_) (λ_=>l _ ⟨0,∅,rfl⟩);obtain⟨v,V,e⟩:=qo3 (xs:=g.map D.int) (i:=z) B.z0 (zAe A);obtain⟨c,E,rfl⟩:=zAy.mp V;exact qT7 (Ae (y:=.int z) (x:=.l false (g.map .int)) rfl rfl e) rfl (l _ ⟨c,B.nn c E,rfl⟩)};rintro r ⟨c,E,rfl⟩;refine qb3 [bagD x y (z+1) g,.int m,.int c,.u,.u,.u] (λK l=>?_) ?_;{exact qbe0 (k:=2) (x:=z) (y:=1) (ys:=[.int x,.int y,.int z,.l false (g.map .int)]) rfl rfl ∅ rfl rfl l};refine qc0 (λr=>∃j:Int,0<=j/\r=[bagD j y (z+1) g,.int m,.int c,.u,.u,.u]) (λK l=>?_) ?_;{refine if_v (b:=decide (1000000000000000000<=c)) rfl (λ_=>?_) (λ_=>l _ ⟨x,B.x0,rfl⟩);exact qT4 (d:=.int c) (ys:=[.int x,.int y,.int (z+1),.l false (g.map .int)]) (k:=0) (n:=0) rfl rfl rfl rfl rfl (l _ ⟨c,E,rfl⟩)};rintro r ⟨j,G,rfl⟩;have W:f2 La (f2 Jd (f2 Jd (f2 Jm (f2 gIx (rdN 0) (kC (.int 1))) (kC (.int 48271))) (f2 La (rdN 2) (kC (.int 2147483647)))) (f2 Jm (kC (.int 7919)) (f2 gIx (rdN 0) (kC (.int 2))))) (kC (.int 2147483647)) [bagD j y (z+1) g,.int m,.int c,.u,.u,.u]=some (.int ((y*48271+c%2147483647+7919*(z+1))%2147483647)):=Ae (Ae (Ae (Ae (x:=.int y) rfl rfl (Mv ∅)) (Ae rfl rfl (G8 ∅)) rfl) (Ae (y:=.int (z+1)) rfl rfl (mulL ∅)) rfl) rfl (G8 ∅);exact qac1 (ys:=[.int j,.int y,.int (z+1),.l false (g.map .int)]) (k:=1) (n:=1) W rfl rfl rfl (l _ ⟨j,_,z+1,_,rfl,G,Int.emod_nonneg _ ∅,zCl _ ∅,by have:=B.z0;lia,B.nn⟩)};rintro r ⟨j,o,t,c,rfl,B'⟩;refine qg2 (decide (0<j)) rfl (λH=>?_) λ_=>?_;{refine qb3 [bagD j o t g,.int m,c,.int (j%m),.u,.u] (λK l=>qa2 (Ae (x:=.int j) rfl rfl (G8 p)) l) ?_;refine qb3 [bagD (j/m) o t g,.int m,c,.int (j%m),.u,.u] (λK l=>?_) ?_;{exact qac1 (ys:=[.int j,.int o,.int t,.l false (g.map .int)]) (k:=0) (n:=0) (Ae (x:=.int j) rfl rfl (qaH3 p C)) rfl rfl rfl l};exact k (j%m) _ (Int.emod_nonneg _ ⋯) (zCl _ p) ⟨_,_,_,rfl,Int.ediv_nonneg B'.x0 ⋯,B'.y0,B'.y1,B'.z0,B'.nn⟩};have X:0<=(o+1)*39373%1000000007:=Int.emod_nonneg _ ∅;have f1:(o+1)*39373%1000000007<1000000007:=zCl _ ∅;refine qb3 [bagD j o t g,.int m,c,.u,.int ((o+1)*39373%1000000007),.u] (λK l=>qa2 (Ae (Ae (Ae (x:=.int o) rfl rfl rfl) rfl (Mv ∅)) rfl (G8 ∅)) l) ?_;generalize (o+1)*39373%1000000007=f at X f1;refine qb3 [bagD j o t g,.int m,c,.u,.int f,.int (f*f%998244353*30011%998244353)] (λK l=>qa2 (Ae (Ae (Ae (Ae rfl rfl (mulL (qac7 ⋯ ⋯))) rfl (G8 ∅)) rfl (Mv ∅)) rfl (G8 ∅)) l) ?_;generalize f*f%998244353*30011%998244353=s;have I:∀v,Q (.int (v%m)) [bagD j o t g,.int m]:=λv=>k _ _ (Int.emod_nonneg _ ⋯) (zCl _ p) ⟨_,_,_,rfl,B'⟩;refine qg2 (decide (1000000<m)) rfl (λ_=>?_) λ_=>?_;{exact qg6 _ (Ae (Ae (Ae rfl rfl (Mv ∅)) rfl rfl) rfl (G8 p)) (I _)};exact qg6 _ (Ae (Ae rfl rfl (qaH3 ∅ ∅)) rfl (G8 p)) (I _)
theorem qc9:qa9 ["_law_bag_here", "_law_size", "_law_many", "_law_way", "_law_one", "_law_other", "_law_homes", "_law_k", "_law_some"] ["_law_bag_here", "_law_size", "_law_many"] (qa4 qk4):=by walk_at "s"
def qA4:VSp:=λds Q _=>∃b n m ns,ds=[b,.int n,.int m]/\Rp ns b/\1<=n/\n<=64/\0<=m/\m<=100/\∀c a,Rp ns c->(∀h∈a,0<=h/\h<n)->a.length=m.toNat->Q (kL a) [c,.int n,.u]
theorem qaW1{x y i:Int}(c:0<=i)(h1:i<2){P:Int->Prop}(d:P x)(e:P y):∃v,atI [D.int x,D.int y] i=some (.int v)/\P v:=by obtain⟨v,a,b⟩:=qo3 (xs:=[D.int x,D.int y]) c h1;simp only[zAl,zB0,or_false] at a;rcases a with rfl|rfl;{exact⟨x,b,d⟩};exact⟨y,b,e⟩
theorem qW1{x y w i:Int}(c:0<=i)(h1:i<4){P:Int->Prop}(d:P x)(e:P y)(hz:P z)(f:P w):∃v,atI [D.int x,D.int y,D.int z,D.int w] i=some (.int v)/\P v:=by obtain⟨v,b,a⟩:=qo3 (xs:=[D.int x,D.int y,D.int z,D.int w]) c h1;simp only[zAl,zB0,or_false] at b;rcases b with rfl|rfl|rfl|rfl;{exact⟨x,a,d⟩};{exact⟨y,a,e⟩};{exact⟨z,a,hz⟩};exact⟨w,a,f⟩
theorem qB3(T:Txt K mg a):VFn P w K mg base 2 a.f43 a.d43 ["_law_bag_here", "_law_size", "_law_many"] qA4:=by
 refine VFn.mk' T.d43.F qc9 (wOf [true,true,true]) (λc Q Q' M X Y _ h=>by obtain⟨b,n,m,j,e,N,O,R,A,Z,q⟩:=h;exact⟨b,n,m,j,e,N,O,R,A,Z,λs f S a2 a3=>Y _ _ (q s f S a2 a3)⟩) (λc Q M h=>by obtain⟨b,n,m,j,e,_⟩:=h;rw[e];rfl) (λc Q M h=>by obtain⟨b,n,m,j,e,⟨x,y,z,eb,_⟩,_⟩:=h;rw[e,eb];rfl) (λ_ _ _ _ _ _ _ C=>⟨_,(Aa (Ak 3 qc9.nd (Ah T.d37 (qb7 T) qa1 (rm C) (vaN 0 (vaV (qa3 Ad) Ab)))) (Aa (Ak 4 qc9.nd (Ah T.d37 (qb7 T) qa1 (rm C) (vaN 0 (vaN 1 Ab)))) (Aa (Ak 5 qc9.nd (Ah T.d37 (qb7 T) qa1 (rm C) (vaN 0 (vaN 1 Ab)))) (Aa (Ak 6 qc9.nd (qa3 (Bj qa6))) (Aa (qE0 Qd T.Cq (Gy (vaN 2 Ab)) (Bf 7 qc9.nd) (Aa (Ak 8 qc9.nd (Ie (vaV (Ah T.d37 (qb7 T) qa1 (rm C) (vaN 0 (vaN 1 Ab))) (vaV (qc4 (vnm 4)) (vaV (e2 (Aj qm3) qm2 (qa3 (v2 (Aj qm3) qm2 (vnm 1) Ad)) (Ah T.d37 (qb7 T) qa1 (rm C) (vaN 0 (vaV (qa3 (vbi (qH7 rfl) qaj9.ops T.Fi (qa0 Ad (qa0 (vnm 1) qa6 rfl) rfl))) Ab)))) (vaV (qa3 (v2 (Av qb4) Am (Bj (qa0 (vnm 4) (qa0 (vnm 5) qa6 rfl) rfl)) (v2 (Aj ql6) ql5 (vnm 7) Ad))) Ab)))))) (Ag (Fy (Ht 6 qK1 Qg Qh Qi qh5 (vaV (qc4 (v2 (Av qb4) Am (vnm 8) (vnm 3))) Ab)))))) (Ag (An (emv 6)))))))),λc Q M h=>?_⟩);obtain⟨b,n,m,j,rfl,B,n1,n2,m0,m1,q⟩:=h;refine At [b,.int n,.int m,.u,.u,.u,.u,.u,.u] rfl ?_;refine qc0 (λc=>∃b w,c=[b,.int n,.int m,.int w,.u,.u,.u,.u,.u]/\Rp j b/\0<=w/\w<4) (λK g=>?_) ?_;{exact qc6 rfl B rfl ∅ ∅ λv s E G B'=>g _ ⟨s,v,rfl,B',E,G⟩};rintro c ⟨b,way,rfl,B,w0,w1⟩;refine qc0 (λc=>∃b o,c=[b,.int n,.int m,.int way,.int o,.u,.u,.u,.u]/\Rp j b/\0<=o/\o<n) (λK g=>?_) ?_;{exact qv9 (m:=n) rfl B rfl ∅ ⋯ ⋯ λv s E G B'=>g _ ⟨s,v,rfl,B',E,G⟩};rintro c ⟨b,o,rfl,B,V,W⟩;refine qc0 (λc=>∃b p,c=[b,.int n,.int m,.int way,.int o,.int p,.u,.u,.u]/\Rp j b/\0<=p/\p<n) (λK g=>?_) ?_;{exact qv9 (m:=n) rfl B rfl ∅ ⋯ ⋯ λv s E G B'=>g _ ⟨s,v,rfl,B',E,G⟩};rintro c ⟨b,p,rfl,B,p0,p1⟩;refine qb3 [b,.int n,.int m,.int way,.int o,.int p,kL [],.u,.u] (λK g=>g) ?_;refine qc0 (λc=>∃b f t k,c=[b,.int n,.u,.int way,.int o,.int p,kL f,t,k]/\Rp j b/\(∀h∈f,0<=h/\h<n)/\f.length=m.toNat) (λK g=>?_) ?_
 .refine qaq7 (n:=m) rfl (qR2 ⋯ ⋯) ?_;refine qf7 (λi c=>∃b f t k,c=[b,.int n,.u,.int way,.int o,.int p,kL f,t,k]/\Rp j b/\(∀h∈f,0<=h/\h<n)/\f.length=i) _ 0 _ ⟨b,[],_,_,rfl,B,nofun,rfl⟩ ?_ ?_
  .rintro i x hx c ⟨b,f,t,k,rfl,B,U,L⟩ K2 H;rw[zAo] at L H;obtain⟨hi,rfl⟩:=qP9 hx;refine At [b,.int n,.u,.int way,.int o,.int p,kL f,.int (i:Nat),k] rfl ?_;refine qc0 (λc=>∃b u I l r,c=[b,.int n,.u,.int way,.int o,.int p,kL f,.int (i:Nat),.l false [.int u,.int I,.int l,.int r]]/\Rp j b/\(0<=u/\u<n)/\(0<=I/\I<n)/\(0<=l/\l<n)/\(0<=r/\r<n)) (λK g=>?_) ?_
   .refine qe6 (qq4 (qf4 ?_));refine qv9 (ds:=[b,.int n,.u,.int way,.int o,.int p,kL f,.int (i:Nat),k]) (m:=n) rfl B rfl ∅ ⋯ ⋯ λu b1 a0 S B1=>?_;refine qh8 (y:=.int o) rfl rfl (qf4 (qt8 (x:=.int (n-1)) rfl ?_));refine qc6 (ds:=[b1,.int n,.u,.int way,.int o,.int p,kL f,.int (i:Nat),k]) (m:=if n<4 then n else 4) rfl B1 rfl (by split<;>lia) (by split<;>lia) λl b2 c0 c1 B2=>?_;have c2:l<n:=by revert c1;split<;>lia
    refine qa2 (a:=D.int (n-1-l)) rfl ?_;obtain⟨r,e4,A⟩:=qaW1 (x:=o) (y:=p) (i:=((i:Nat):Int)%2) ⋯ ⋯ (P:=λv=>0<=v/\v<n) ⟨V,W⟩ ⟨p0,p1⟩;refine qe1 (y:=.int r) (Ae (x:=.l false [.int o,.int p]) rfl (Ae (x:=.int (i:Nat)) (y:=.int 2) rfl rfl (G8 ∅)) e4) (qc2 ⟨lt4,?_⟩);exact g _ ⟨b2,u,o,n-1-l,r,rfl,B2,⟨a0,S⟩,⟨V,W⟩,⟨⋯,⋯⟩,A⟩
   rintro c ⟨b,u,I,l,r,rfl,B,N,O,R,A⟩;obtain⟨v,ev,hv⟩:=qW1 (P:=λv=>0<=v/\v<n) w0 w1 N O R A;refine qax8 (ys:=Re f) (d:=.int v) rfl (Ae (x:=.l false [.int u,.int I,.int l,.int r]) rfl rfl ev) rfl (by rw[qn5];unfold big;lia) ?_;rw[qV3];refine H _ ⟨b,f++[v],_,_,rfl,B,λh J=>?_,by rw[zAf,L];rfl⟩;rcases zAd.mp J with J|J;{exact U h J};rw[zAg.mp J];exact hv
  rintro c ⟨b,f,t,k,rfl,h⟩;rw[zAo,qV2] at h;exact g _ ⟨b,f,t,k,rfl,h⟩
 rintro c ⟨b,f,t,k,rfl,B,U,L⟩;exact q b f B U L
theorem qd8:qa9 ["_law_bag_here", "_law_most", "_law_way", "_law_size", "_law_wraps", "_law_many", "_law_told", "_law_great", "_law_keys", "_law_home_here", "_law_key", "_law_homes", "_law_number"] ["_law_bag_here", "_law_most"] (qa4 qP5):=by walk_at "s"
def qam9:VSp:=λds Q _=>∃b M ns,ds=[b,.int M]/\Rp ns b/\1<=M/\M<=64/\∀a n wr ps ks,Rp ns a->1<=n->n<=64->L7 ps->ks.Nodup->(∀k∈ks,Ap k)->ks.length<=66->Q (.q [Af n wr ps,kL ks]) [a,.int M]
theorem qay5{x y i:Int}(c:0<=i)(h1:i<3){P:Int->Prop}(d:P x)(e:P y)(hz:P z):∃v,atI [D.int x,D.int y,D.int z] i=some (.int v)/\P v:=by obtain⟨v,b,a⟩:=qo3 (xs:=[D.int x,D.int y,D.int z]) c h1;simp only[zAl,zB0,or_false] at b;rcases b with rfl|rfl|rfl;{exact⟨x,a,d⟩};{exact⟨y,a,e⟩};exact⟨z,a,hz⟩
theorem qaT0{x i:Int}(a:0<=i)(h1:i<5)(b:0<=x/\x<=64):∃v,atI [D.int 0,D.int 0,D.int 1,D.int 6,D.int x] i=some (.int v)/\0<=v/\v<=64:=by obtain⟨v,c,d⟩:=qo3 (xs:=[D.int 0,D.int 0,D.int 1,D.int 6,D.int x]) a h1;grind
theorem qaM5{ps:Pr}{m:Int}:Rg ps++[.q [.int k,.int m]]=Rg (ps++[(k,m)]):=by unfold Rg;rw[zBn];rfl
theorem qaQ5(ps:Pr):(Rg ps).length=ps.length:=zAk _
abbrev qe7 (M) (way) (n:Int) (wr:Bool) (told) (gr) (p0 d e f a b c:D):=([p0,.int M,.int way,.int n,.bl wr,d,.int told,.int gr,e,f,a,b,c]:Ds)
theorem qap0(T:Txt K mg a):VFn P w K mg base 3 a.f44 a.d44 ["_law_bag_here", "_law_most"] qam9:=by
 refine VFn.mk' T.d44.F qd8 (wOf [true,true]) (λc Q Q' xe a9 hQ _ h=>by obtain⟨b,M,s,e,h1,h2,h3,q⟩:=h;exact⟨b,M,s,e,h1,h2,h3,λO n wr j f a1 H a3 a4 a5 a6 a7=>hQ _ _ (q O n wr j f a1 H a3 a4 a5 a6 a7)⟩) (λc Q xe ⟨b,M,s,e,_⟩=>by rw[e];rfl) (λc Q xe h=>by obtain⟨b,M,s,e,⟨x,y,z,eb,_⟩,_⟩:=h;rw[e,eb];rfl) (λ_ _ _ _ _ _ _ t=>⟨_,(Aa (Ak 2 qd8.nd (Ah T.d37 (qb7 T) qa1 (rm t) (vaN 0 (vaV (qa3 Ad) Ab)))) (Aa (Ak 3 qd8.nd (e2vP (Av qb4) Am (Ie (vaV (e2 (Aj qe5) qe4 (qa3 Ad) (Ah T.d37 (qb7 T) qa1 (rm t) (vaN 0 (vaV (qa3 (vbi (qH7 rfl) qaj9.ops T.Fi (qa0 Ad (qa0 (vnm 1) qa6 rfl) rfl))) Ab)))) (vaV (e2 (Aj qe5) qe4 (qa3 Ad) (Ah T.d37 (qb7 T) qa1 (rm t) (vaN 0 (vaV (qa3 (vbi (qH7 rfl) qaj9.ops T.Fi (qa0 Ad (qa0 (vnm 1) qa6 rfl) rfl))) Ab)))) (vaV (e2 (Aj qe5) qe4 (qa3 Ad) (Ah T.d37 (qb7 T) qa1 (rm t) (vaN 0 (vaN 1 Ab)))) (vaV (qc4 (vnm 1)) Ab))))) (vnm 2))) (Aa (Ak 4 qd8.nd (e2v (A5 (qi8 t.u64) (qb0 _)) Bc (Ah T.d37 (qb7 T) qa1 (rm t) (vaN 0 (vaV (qa3 Ad) Ab))) Ad)) (Aa (Ak 5 qd8.nd (e2P (Av qb4) Am (Ie (vaV (qc4 (vnm 3)) (vaV (qa3 (v2 (Aj qe5) qe4 (vnm 3) Ad)) (vaV (qa3 (v2 (Aj qe5) qe4 Ad (v2 (Aj qQ3) qaC5 (v2 (Aj qA8) qA7 (vnm 3) Ad) Ad))) (vaV (Ah T.d37 (qb7 T) qa1 (rm t) (vaN 0 (vaV (qa3 (v2 (Aj qe5) qe4 (vnm 3) Ad)) Ab))) Ab))))) (Ah T.d37 (qb7 T) qa1 (rm t) (vaN 0 (vaV (qa3 Ad) Ab))))) (Aa (Ak 6 qd8.nd (e2P (Av qb4) Am (qa3 (Bj (qa0 Ad (qa0 Ad (qa0 Ad (qa0 Ad (qa0 Ad qa6 rfl) rfl) rfl) rfl) rfl))) (Ah T.d37 (qb7 T) qa1 (rm t) (vaN 0 (vaV (qa3 Ad) Ab))))) (Aa (Ak 7 qd8.nd (e2P (Av qb4) Am (qa3 (Bj (qa0 Ad (qa0 Ad (qa0 Ad (qa0 (Ka 10000000000000000) qa6 rfl) rfl) rfl) rfl))) (Ah T.d37 (qb7 T) qa1 (rm t) (vaN 0 (vaV (qa3 Ad) Ab))))) (Aa (Ak 8 qd8.nd (qa3 (Bj qa6))) (Aa (Mh Qd (Ah T.d43 (qB3 T) qa1 (rm t) (vaN 0 (vaN 3 (vaN 5 Ab)))) (Bf 9 qd8.nd) (Aa (Ak 10 qd8.nd (e2n 9 (Aj qe5) qe4 (e2n 3 (Aj qA8) qA7 (Ah T.d37 (qb7 T) qa1 (rm t) (vaN 0 (vaN 7 Ab)))))) (Ag (sif (q2 (Al qQ2 (by with_unfolding_all rfl)) Ik (vnm 10) (vnm 8)) (Ag (Fy (Ht 8 qK1 Qg Qh Qi qh5 (vaN 10 Ab)))) As)))) (Aa (Ak 11 qd8.nd (qa3 (Bj qa6))) (Aa (Mh Qd (qa3 (vsl (vnm 8) G2 (G3 (vnm 6)))) (Bf 10 qd8.nd) (Aa (Ak 12 qd8.nd (e2P (Av qb4) Am (Ie (vaV (Ah T.d37 (qb7 T) qa1 (rm t) (vaN 0 (vaN 3 Ab))) (vaV (e2 (Aj qm3) qm2 (qa3 (Ka 1000000000000000000)) (Ah T.d37 (qb7 T) qa1 (rm t) (vaN 0 (vaN 3 Ab)))) (vaV (Ah T.d37 (qb7 T) qa1 (rm t) (vaN 0 (vaV (qa3 (Ka 1000000000000000000)) Ab))) Ab)))) (Ah T.d37 (qb7 T) qa1 (rm t) (vaN 0 (vaV (qa3 Ad) Ab))))) (Ag (Fy (Ht 11 qK1 Qg Qh Qi qh5 (vaV (qa3 (Bk (qa0 (vnm 10) (qa0 (vnm 12) qa6 rfl) rfl))) Ab)))))) (Ag (An (Je (vaV (Je (vaV (qc4 (vnm 3)) (vaV (qc4 (vnm 4)) (vaV (efz 11) Ab)))) (vaV (emv 8) Ab))))))))))))))),λc Q xe h=>?_⟩);obtain⟨b,M,s,rfl,B,M0,M1,q⟩:=h;refine At [b,.int M,.u,.u,.u,.u,.u,.u,.u,.u,.u,.u,.u] rfl ?_;refine qc0 (λc=>∃b way,c=[b,.int M,.int way,.u,.u,.u,.u,.u,.u,.u,.u,.u,.u]/\Rp s b/\0<=way/\way<4) (λK o=>?_) ?_;{exact qc6 rfl B rfl ∅ ∅ λv O X v1 B'=>o _ ⟨O,v,rfl,B',X,v1⟩};rintro c ⟨b,way,rfl,B,w0,w1⟩;refine qc0 (λc=>∃b n,c=[b,.int M,.int way,.int n,.u,.u,.u,.u,.u,.u,.u,.u,.u]/\Rp s b/\1<=n/\n<=64) (λK o=>?_) ?_
 .refine qe6 (qaJ5 (qq4 (qf4 (qt8 (x:=.int 1) rfl ?_))));refine qc6 (ds:=[b,.int M,.int way,.u,.u,.u,.u,.u,.u,.u,.u,.u,.u]) (m:=if M<8 then M else 8) rfl B rfl (by split<;>lia) (by split<;>lia) λR L a1 c1 B1=>?_;have e1:R<M:=by revert c1;split<;>lia
  refine qa2 (a:=D.int (1+R)) rfl (qf4 (qt8 (x:=.int 1) rfl ?_));refine qc6 (ds:=[L,.int M,.int way,.u,.u,.u,.u,.u,.u,.u,.u,.u,.u]) (m:=if M<16 then M else 16) rfl B1 rfl (by split<;>lia) (by split<;>lia) λI J H N B2=>?_;have e2:I<M:=by revert N;split<;>lia
  refine qa2 (a:=D.int (1+I)) rfl (qf4 (qt8 (x:=.int 1) rfl ?_));refine qv9 (ds:=[J,.int M,.int way,.u,.u,.u,.u,.u,.u,.u,.u,.u,.u]) (m:=M) rfl B2 rfl ∅ ⋯ ⋯ λx3 b3 a3 c3 B3=>?_;refine qa2 (a:=D.int (1+x3)) rfl (qh8 (y:=.int M) rfl rfl (qc2 ⟨lt4,qa2 (a:=D.int way) rfl ⟨rfl,?_⟩⟩));obtain⟨n,en,hn⟩:=qW1 (P:=λv=>1<=v/\v<=64) w0 w1 (x:=1+R) (y:=1+I) (z:=1+x3) (w:=M) ⟨⋯,⋯⟩ ⟨⋯,⋯⟩ ⟨⋯,⋯⟩ ⟨M0,M1⟩;exact qa2 en (o _ ⟨b3,n,rfl,B3,hn.1,hn.2⟩)
 rintro c ⟨b,n,rfl,B,n1,n2⟩;refine qc0 (λc=>∃b wr,c=[b,.int M,.int way,.int n,.bl wr,.u,.u,.u,.u,.u,.u,.u,.u]/\Rp s b) (λK o=>?_) ?_;{refine qe6 (qI2 (qc6 rfl B rfl ∅ ∅ λv O X v1 B'=>?_));exact qa2 (a:=D.bl (decide (v=1))) rfl (o _ ⟨O,_,rfl,B'⟩)};rintro c ⟨b,wr,rfl,B⟩;refine qc0 (λc=>∃b m,c=[b,.int M,.int way,.int n,.bl wr,.int m,.u,.u,.u,.u,.u,.u,.u]/\Rp s b/\0<=m/\m<=66) (λK o=>?_) ?_;{refine qe6 (qam5 (qq4 (qh8 (y:=.int n) rfl rfl (qe1 (y:=.int (n+2)) rfl (qe1 (y:=.int (1+n*3/4)) (Ae (x:=.int 1) rfl (Ae (x:=.int (n*3)) (y:=.int 4) (Ae (x:=.int n) (y:=.int 3) rfl rfl (Mv ∅)) rfl (qaH3 ∅ ∅)) rfl) (qf4 ?_))))));refine qc6 (ds:=[b,.int M,.int way,.int n,.bl wr,.u,.u,.u,.u,.u,.u,.u,.u]) (m:=n+1) rfl B rfl ⋯ ⋯ λR L a1 c1 B1=>?_;refine qc2 ⟨lt4,?_⟩;refine qc6 (ds:=[L,.int M,.int way,.int n,.bl wr,.u,.u,.u,.u,.u,.u,.u,.u]) (m:=4) rfl B1 rfl ∅ ∅ λI J H N B2=>?_;obtain⟨m,Y,A⟩:=qW1 (P:=λv=>0<=v/\v<=66) H N (x:=n) (y:=n+2) (z:=1+n*3/4) (w:=R) ⟨⋯,⋯⟩ ⟨⋯,⋯⟩ ⟨⋯,⋯⟩ ⟨⋯,⋯⟩;exact qa2 Y (o _ ⟨J,m,rfl,B2,A.1,A.2⟩)};rintro c ⟨b,m,rfl,B,m0,m1⟩;refine qc0 (λc=>∃b told,c=[b,.int M,.int way,.int n,.bl wr,.int m,.int told,.u,.u,.u,.u,.u,.u]/\Rp s b/\0<=told/\told<=64) (λK o=>?_) ?_;{refine qe6 (qt8 (x:=.l false [.int 0,.int 0,.int 1,.int 6,.int 40]) rfl (qc6 (ds:=[b,.int M,.int way,.int n,.bl wr,.int m,.u,.u,.u,.u,.u,.u,.u]) (m:=5) rfl B rfl ∅ ∅ λI J H N B2=>?_));obtain⟨m,Y,A⟩:=qaT0 (x:=40) H N ∅;exact qa2 Y (o _ ⟨J,m,rfl,B2,A.1,A.2⟩)};rintro c ⟨b,told,rfl,B,t0,t1⟩;refine qc0 (λc=>∃b r,c=(qe7 M way n wr told r b (.int m) .u .u .u .u .u)/\Rp s b/\1<=r/\r<=10000000000000000) (λK o=>?_) ?_;{refine qe6 (qt8 (x:=.l false [.int 9,.int 9,.int 9,.int 10000000000000000]) rfl (qc6 (ds:=[b,.int M,.int way,.int n,.bl wr,.int m,.int told,.u,.u,.u,.u,.u,.u]) (m:=4) rfl B rfl ∅ ∅ λI J H N B2=>?_));obtain⟨m,Y,A⟩:=qW1 (P:=λv=>1<=v/\v<=10000000000000000) H N (x:=9) (y:=9) (z:=9) (w:=10000000000000000) ∅ ∅ ∅ ∅;exact qa2 Y (o _ ⟨J,m,rfl,B2,A.1,A.2⟩)};rintro c ⟨b,r,rfl,B,g0,g1⟩;refine qb3 (qe7 M way n wr told r b (.int m) (kL []) .u .u .u .u) (λK o=>o) ?_;refine qc0 (λc=>∃b f u g,c=(qe7 M way n wr told r b .u (kL f) u g .u .u)/\Rp s b/\f.Nodup/\(∀k∈f,Ap k)/\f.length<=66) (λK o=>?_) ?_
 .refine qaU4 (x:=b) (y:=.int n) (w:=.int m) (qc7 rfl B.known) rfl rfl rfl (qc7 rfl B.known) ⟨b,n,m,s,rfl,B,n1,n2,m0,⋯,λL hs B1 hh hl=>?_⟩;refine qa2 (a:=(qe7 M way n wr told r L .u (kL []) .u .u .u .u)) rfl (qa2 (a:=Re hs) rfl ⟨qo0 hs,?_⟩);refine qf7 (λi c=>∃b f u g,c=(qe7 M way n wr told r b .u (kL f) u g .u .u)/\Rp s b/\f.Nodup/\(∀k∈f,Ap k)/\f.length<=i) _ 0 _ ⟨L,[],_,_,rfl,B1,Pm,nofun,zA3 _⟩ ?_ ?_
  .rintro i x S c ⟨b,f,u,g,rfl,B,U,V,C⟩ K2 E;rw[zAo] at C E;obtain⟨h,hi,rfl⟩:=qaE5 S;obtain⟨h0,h1⟩:=hh h (zB5 hi);have a0:i<66:=by have:=(zA5.mp hi).1;lia
   refine qp5 (At (qe7 M way n wr told r b .u (kL f) (.int h) g .u .u) rfl ?_);refine qc0 (λc=>∃b W,c=(qe7 M way n wr told r b .u (kL f) (.int h) (.int W) .u .u)/\Rp s b/\Ap W) (λK o=>?_) ?_;{refine qe6 ⟨rfl,rfl,?_⟩;refine qv9 (ds:=[b,.int M,.int way,.int n,.bl wr,.u,.int told,.int r,kL f,.int h,g,.u,.u]) (m:=r) rfl B rfl ∅ ⋯ ⋯ λv O X v1 B'=>?_;have e2:0<=n*v:=Int.mul_nonneg ⋯ X;have e3:n*v<=64*v:=Int.mul_le_mul_of_nonneg_right n2 X;exact qa2 (a:=D.int (n*v)) (mulL (qac7 ⋯ ⋯)) (qa2 (a:=D.int (h+n*v)) rfl (o _ ⟨O,h+n*v,rfl,B',⋯,⋯⟩))};rintro c ⟨b,W,rfl,B,a8⟩;refine if_v (b:=!decide (W∈f)) (Ae rfl rfl qaD4) (λhb=>?_) λhb=>E _ ⟨b,f,_,_,rfl,B,U,V,⋯⟩;have A:¬W∈f:=λz=>by rw[zAn z] at hb;cases hb
   refine qaU8 (ys:=Re f) (d:=.int W) rfl rfl rfl ∅ (by rw[qn5];unfold big;lia) ?_;rw[qV3];refine E _ ⟨b,f++[W],_,_,rfl,B,zCf.mpr ⟨U,(by simp),λx S y hy e=>A (by rw[<-zAg.mp hy,<-e];exact S)⟩,λx S=>?_,by rw[zAf];exact Nat.add_le_add_right C 1⟩;rcases zAd.mp S with h|h;{exact V x h};rw[zAg.mp h];exact a8
  rintro c ⟨b,f,u,g,rfl,B,U,V,C⟩;rw[zAo,qn5] at C;exact o _ ⟨b,f,u,g,rfl,B,U,V,⋯⟩
 rintro c ⟨b,f,u,g,rfl,B,U,V,C⟩;refine qb3 (qe7 M way n wr told r b .u (kL f) u g (.l false (Rg [])) .u) (λK o=>o) ?_;refine qc0 (λc=>∃b j g l,c=(qe7 M way n wr told r b .u (kL f) u g (.l false (Rg j)) l)/\Rp s b/\j.map (·.1)=f.take told.toNat/\∀p∈j,Ap p.2) (λK o=>?_) ?_
 .have ec:Bz (Re f) none (some told)=Re (f.take told.toNat):=by rw[show told=((told.toNat:Nat):Int) by lia,qv7,zCg];unfold Re;rw[O8]
  refine qm4 (qbd2 rfl rfl rfl ec) (qa2 (a:=Re (f.take told.toNat)) rfl ⟨qo0 _,?_⟩);refine qf7 (λi c=>∃b j g l,c=(qe7 M way n wr told r b .u (kL f) u g (.l false (Rg j)) l)/\Rp s b/\j.map (·.1)=(f.take told.toNat).take i/\∀p∈j,Ap p.2) _ 0 _ ⟨b,[],_,_,rfl,B,rfl,nofun⟩ ?_ ?_
  .rintro i x S c ⟨b,j,g,l,rfl,B,G,Z⟩ K2 E;rw[zAo] at G E;obtain⟨k,hi,rfl⟩:=qaE5 S;have a0:j.length<=64:=by have:=congrArg Of G;simp at this;lia
   refine qp5 (At (qe7 M way n wr told r b .u (kL f) u (.int k) (.l false (Rg j)) l) rfl ?_);refine qc0 (λc=>∃b v,c=(qe7 M way n wr told r b .u (kL f) u (.int k) (.l false (Rg j)) (.int v))/\Rp s b/\Ap v) (λK o=>?_) ?_;{refine qe6 (qam5 (qq4 (qf4 ?_)));refine qv9 (ds:=[b,.int M,.int way,.int n,.bl wr,.u,.int told,.int r,kL f,u,.int k,.l false (Rg j),l]) (m:=n) rfl B rfl ∅ ⋯ ⋯ λR L a1 c1 B1=>qf4 (qt8 (x:=.int 1000000000000000000) rfl ?_);refine qv9 (ds:=[L,.int M,.int way,.int n,.bl wr,.u,.int told,.int r,kL f,u,.int k,.l false (Rg j),l]) (m:=n) rfl B1 rfl ∅ ⋯ ⋯ λI J H N B2=>qa2 (a:=D.int (1000000000000000000-I)) rfl (qf4 ?_);refine qc6 (ds:=[J,.int M,.int way,.int n,.bl wr,.u,.int told,.int r,kL f,u,.int k,.l false (Rg j),l]) (m:=1000000000000000000) rfl B2 rfl ∅ ∅ λx3 b3 a3 c3 B3=>qc2 ⟨lt3,?_⟩;refine qc6 (ds:=[b3,.int M,.int way,.int n,.bl wr,.u,.int told,.int r,kL f,u,.int k,.l false (Rg j),l]) (m:=3) rfl B3 rfl ∅ ∅ λx4 b4 a4 c4 B4=>?_;obtain⟨v,ev,hv⟩:=qay5 (P:=Ap) a4 c4 (x:=R) (y:=1000000000000000000-I) (z:=x3) ⟨⋯,⋯⟩ ⟨⋯,⋯⟩ ⟨⋯,⋯⟩;exact qa2 ev (o _ ⟨b4,v,rfl,B4,hv⟩)};rintro c ⟨b,v,rfl,B,hv⟩;refine qal0 (ys:=Rg j) (d:=.q [.int k,.int v]) rfl rfl (by rw[qaQ5];unfold big;lia) ?_;rw[qaM5];refine E _ ⟨b,j++[(k,v)],_,_,rfl,B,by rw[zBn,G,qv8 hi];rfl,λp A=>?_⟩;rcases zAd.mp A with h|h;{exact Z p h};rw[zAg.mp h];exact hv
  rintro c ⟨b,j,g,l,rfl,B,G,Z⟩;rw[zAo,qn5,O1] at G;exact o _ ⟨b,j,g,l,rfl,B,G,Z⟩
 rintro c ⟨b,j,g,l,rfl,B,G,Z⟩;have hG:L7 j:=⟨by have:=congrArg Of G;simp at this;lia,by rw[G];exact U.sublist (On _ _),λp A=>⟨V _ (O7 (by rw[<-G];exact List.mem_map_of_mem A)),Z p A⟩⟩;refine qk5 (qam1 (qaJ1 (qh8 (y:=.int n) rfl rfl (qh8 (y:=.bl wr) rfl rfl (qf4 (qaW3 (d:=.l false (Rg j)) rfl (qc2 ⟨lt3,?_⟩)))))));refine qf4 (qa2 (a:=D.l false (Re f)) rfl (qc2 ⟨lt2,?_⟩));have e:(D.l false (Rg j)).fz=.l true (Rg j):=congrArg (D.l true) (qai3 j);rw[e];exact q b n wr j f B n1 n2 hG U V C
theorem qr8:qa9 ["_law_plan", "_law_keys", "_law_found", "_law_key"] ["_law_plan", "_law_keys"] (qa4 qx3):=by walk_at "s"
def qZ2:VSp:=λds Q _=>∃n wr ps z ks,ds=[Af n wr ps,.l z (Re ks)]/\1<=n/\n<=64/\(ps.map (·.1)).Nodup/\ks.Nodup/\ks.length<=100/\∀S,S.Sublist ks->(∀q,¬Crowd n.toNat wr (Rb n ps) S q)->Q (kL S) ds
theorem qaa3(T:Txt K mg a):VFn P w K mg base 4 a.f45 a.d45 ["_law_plan", "_law_keys"] qZ2:=by refine VFn.mk2 T.d45.F qr8 (wOf [true,true]) (by walk_at "m") (by walk_at "l") (λ_ _ _ _ _ _ _ H=>⟨_,(Aa (Ak 2 qr8.nd (qa3 (Bj qa6))) (Aa (sforP Qd (vpn 1) (Bf 3 qr8.nd) (Ag (sif (q2v (A5 qq1 (qb0 _)) (Al qq1 (qb0 _)) qu4 (Ah T.d42 (qJ8 T) qa1 (rm H) (vaN 0 (vaV (qa3 (v2 (Aj qe5) qe4 (vnm 2) (Bj (qa0 (vnm 3) qa6 rfl)))) Ab))) Ax) (Ag (Fy (Ht 2 qK1 Qg Qh Qi qh5 (vaN 3 Ab)))) As))) (Ag (An (emv 2))))),λj Q N h=>?_⟩);obtain⟨n,wr,c,z,f,rfl,E,I,J,r,L,q⟩:=h;refine At [Af n wr c,.l z (Re f),.u,.u] rfl ?_;refine qb3 [Af n wr c,.l z (Re f),kL [],.u] (λK t=>t) ?_;refine qc0 (λj=>∃S o,j=[Af n wr c,.l z (Re f),kL S,o]/\S.Sublist f/\∀q,¬Crowd n.toNat wr (Rb n c) S q) (λK t=>?_) ?_;{refine qa2 (a:=(1,[])) rfl (qa2 (a:=D.l z (Re f)) rfl (qa2 (a:=Re f) rfl ⟨qo0 f,λw=>?_⟩));refine qf7 (λi j=>∃S o,j=[Af n wr c,.hole w,kL S,o]/\S.Sublist (f.take i)/\∀q,¬Crowd n.toNat wr (Rb n c) S q) _ 0 _ ⟨[],_,rfl,.slnil,λq=>(Kept.none ⋯ (G0 E)).no_crowd q⟩ ?_ ?_;{rintro i y u j ⟨S,o,rfl,b,s⟩ K2 p;rw[zAo] at b p;obtain⟨k,v,rfl⟩:=qaE5 u;have A:¬k∈S:=λz=>qQ8 r v (b.subset z);have B:S.Nodup:=r.sublist (b.trans (On _ _));have G:S.length<=100:=zA7 (b.trans (On _ _)).length_le L;refine qp5 (At [Af n wr c,.hole w,kL S,.int k] rfl ?_);refine qx4 (ql4 (qc1 (x:=Af n wr c) rfl (qe1 (y:=kL (S++[k])) (Ae (x:=kL S) (y:=kL [k]) rfl rfl (qaV3 (by show _+1<=1000;lia))) (qc2 (qa2 (a:=Af n wr c) rfl ?_)))));refine⟨n,wr,c,false,S++[k],rfl,E,I,J,zCf.mpr ⟨B,(by simp),λx M y u e=>A (by rw[<-zAg.mp u,<-e];exact M)⟩,by rw[zAf];show _+1<=200;lia,λ_=>?_,λC g _=>?_⟩;{refine qa2 (a:=[Af n wr c,.hole w,kL S,.int k]) rfl (qa2 (a:=D.bl false) rfl (qa2 (a:=false) rfl (Ju ∅ (p _ ⟨S,_,rfl,b.trans ?_,s⟩))));rw[qv8 v];exact Oj _ _};refine qa2 (a:=[Af n wr c,.hole w,kL S,.int k]) rfl (qa2 (a:=D.bl true) rfl (qa2 (a:=true) rfl (G7 rfl ?_)));refine qaU8 (ys:=Re S) (d:=.int k) rfl rfl rfl ∅ (by rw[qn5];unfold big;lia) ?_;rw[qV3];refine p _ ⟨S++[k],_,rfl,?_,C⟩;rw[qv8 v];exact b.append (List.Sublist.refl _)};rintro j ⟨S,o,rfl,b,s⟩;rw[zAo,qn5,O1] at b;exact qa2 (qaU6 rfl) (t _ ⟨S,o,rfl,b,s⟩)};rintro j ⟨S,o,rfl,b,s⟩;exact q S b s
theorem qB8:qa9 ["self", "key", "room"] ["self", "key"] (qa4 qw9):=by walk_at "s"
theorem qaU7(h:te ds (λd a=>u e (a.set i d)) e.xe):Ig (Gw te (gNm i)) u e ds:=h
def qY8(C CP CW:γ):VSp:=λds _ xe=>∃n wr ps g dn x t,ds=[Br false C CP n wr ps g dn,x]/\x.kind=some t/\x.num=false/\xe ⟨CW,[("at",.int 0)]⟩ ds
theorem qaa1(T:Txt K mg a):VFn P w K mg base 8 a.f33 a.d33 ["self", "key"] (qY8 a.Cg a.Ca a.Cd):=by refine VFn.mk2 T.d33.F qB8 (wOf [true,true]) (by walk_at "m") (by walk_at "l") (λ_ _ _ _ _ _ _ i=>⟨_,(Aa (Ak 2 qB8.nd (qj5 0 T.d31 T.Ci.cl (qd9 T) qa1 (rm i) (vaN 1 Ab))) (Aa qan4 (Aa qan4 (Ag qan4)))),λr Q s h=>?_⟩);obtain⟨n,wr,b,g,c,x,t,rfl,d,j,o⟩:=h;have f:=qd4 d;refine At [rA a n wr b g c,x,.u] rfl ?_;exact qaU7 (qn4 (p:=rA a n wr b g c) rfl (qh2 rfl) (qc1 (x:=x) (qc7 rfl f) (qc2 (qa2 (a:=x) (qc7 rfl f) (qa2 (a:=rA a n wr b g c) rfl ⟨false,n,wr,b,g,c,x,t,rfl,d,λ_=>qa2 (a:=[rA a n wr b g c,x,.u]) rfl o,λk e q=>absurd (j.symm.trans (qU5 e q)) zA8⟩)))))
theorem qan7:qa9 ["_law_found"] ["_law_found"] (qa4 qP3):=by walk_at "s"
def qD8:VSp:=Aw λds d=>∃x t,ds=[x]/\x.kind=some t/\d=.bl (Hh t "int" && !(Hh t "bool"))
theorem qv3(T:Txt K mg a):Hr false P w K mg base 1 a.f35 a.d35 ["_law_found"] qD8:=by
 refine VFn.mk2 T.d35.F qan7 (wOf [true]) qb5 (by walk_at "l") (λ_ _ _ _ _ _ _ f=>⟨_,(Ag (An (qa3 (vand (vbi qj0 qB7.ops T.Cb (qa0 (vnm 0) (qa0 (vty "int" T.Eo) qa6 rfl) rfl)) (Lf (vnot (vbi qj0 qB7.ops T.Cb (qa0 (vnm 0) (qa0 (vty "bool" T.El) qa6 rfl) rfl)))))))),λg Q i h=>?_⟩);obtain⟨d,⟨x,t,rfl,b,rfl⟩,q⟩:=h;refine At [x] rfl ?_;have c:∀n:String,Lc n=true->A8 (fx2 Jp) (Ay (rdN 0) (Ay (kC (D.ty n)) λ_=>some [])) [x]=some (.bl (Hh t n)):=λn e=>by unfold A8 Ay;rw[rd0 (qd4 b)];show (if Lc n=true then x.kind.map λt=>D.bl (Hh t n) else none)=_;rw[if_pos e,b];rfl
 exact qg6 _ (qaj3 (c "int" rfl) (Ba (c "bool" rfl) rfl)) q
theorem qw3:qa9 ["_law_e", "_law_some", "_law_words"] ["_law_e"] (qa4 qad4):=by walk_at "s"
def qO3(L:List (γ×Str)):VSp:=Aw λds d=>∃C fs w,ds=[.exn C fs]/\(C,w)∈L/\d=.str w
theorem isx{K:Qe}{u:V'}{C:γ}{R:Ds->List Pl->Ds->Prop}(c:f ds=some (.exn C fs))(ix:IsX K C)(d:Qf K (.ref C) u=some b)(h:tr ds (λxs ps a=>R (.bl b::xs) (.no::ps) a) xe):tbV (Mr K f u) tr ds R xe:=qa2 c ⟨C,fs,b,rfl,ix,d,h⟩
theorem qaP6{K:Qe}{u:V'}{C:γ}{Q:Bool->Ds->Prop}(a:f ds=some (.exn C fs))(ix:IsX K C)(c:Qf K (.ref C) u=some b)(q:Q (!b) ds):Gr (ttE (Mr K f u)) ds Q xe:=qa2 a ⟨C,fs,b,rfl,ix,c,qa2 rfl q⟩
theorem qat5{th:VH}(h:∀(N:Ds->Prop)(X:XKd),(∀a,u e a->N a)->(∀x a,th x {e with nx:=u e} a->X x a)->t {e with nx:=N,xe:=X} ds):Ig (sTryW t th) u e ds:=h _ _ (λ_ z=>z) λ_ _ z=>z
theorem as_t{M:γ->Option Bool}{ts:VTS}{tr:VH}{C:γ}{p:Str×D}{r:List (Str×D)}(a:M C=some true)(h:ts (Hw e) (ds.set j (.exn C (p::r)))):hAs M j ts tr ⟨C,p::r⟩ e ds:=⟨λz=>(nomatch z),true,a,G7 rfl h⟩
theorem as_f{M:γ->Option Bool}{ts:VTS}{tr:VH}{C:γ}{p:Str×D}{r:List (Str×D)}(a:M C=some false)(h:tr ⟨C,p::r⟩ e ds):hAs M j ts tr ⟨C,p::r⟩ e ds:=⟨λz=>(nomatch z),false,a,Ju zA8 h⟩
noncomputable abbrev M3:Ds:=[.str "wrong",.str "room",.str "there",.str "gone",.str "unkept",.str "unlike",.str "text",.str "row",.str "plan",.str "many"]
theorem qx8(T:Txt K mg a):Hr false P w K mg base 1 a.f46 a.d46 ["_law_e"] (qO3 [(a.Cd, "wrong"),(a.Cc, "unkept")]):=by
 refine VFn.mk2 T.d46.F qw3 (wOf [true]) qb5 (by walk_at "l") (λ_ _ _ _ _ _ _ k=>⟨_,(Aa (Ak 1 qw3.nd (Ie (vaV (Gu a.Cd T.Cb (vnm 0) T.Cj) (vaV (Gu a.Cf T.Cb (vnm 0) T.Eg) (vaV (Gu a.D6 T.Cb (vnm 0) T.Fl) (vaV (Gu a.Cp T.Cb (vnm 0) T.Eh) Ab)))))) (Aa (Ak 1 qw3.nd (e2n 1 (Aj qe5) qe4 (Ie (vaV (Gu a.Cc T.Cb (vnm 0) T.E7) (vaV (Gu a.D4 T.Cb (vnm 0) T.Fe) (vaV (Gu a.D0 T.Cb (vnm 0) T.Fk) (vaV (Gu a.D8 T.Cb (vnm 0) T.Fm) Ab))))))) (Aa (Ak 1 qw3.nd (e2n 1 (Aj qe5) qe4 (Ie (vaV (Gu a.D2 T.Cb (vnm 0) T.Fc) (vaV (Gu a.Cy T.Cb (vnm 0) T.Ex) Ab))))) (Aa (sif (tor (Bn (te (eisXt "ValueError" T.Cb (vnm 0) T.Ee))) (Ho (q2 (Al (qi7 k.u64) (qb0 _)) B8 (vbm qaO8 Qg Ql Qr qaf4 (vnm 1) vbl qax3) Ad))).te (Ag (An (qa3 A4))) As) (Aa (Ak 2 qw3.nd (qa3 (Bj (qa0 A4 (qa0 A4 (qa0 A4 (qa0 A4 (qa0 A4 (qa0 A4 (qa0 A4 (qa0 A4 (qa0 A4 (qa0 A4 qa6 rfl) rfl) rfl) rfl) rfl) rfl) rfl) rfl) rfl) rfl)))) (Ag (An (qc4 (v2 (Av qb4) Am (vnm 2) (vbm qaC4 Qg Qj Qm qR1 (vnm 1) vbl qah5)))))))))),λH Q I h=>?_⟩);obtain⟨d,⟨C,g,w,rfl,j,rfl⟩,q⟩:=h;obtain⟨c,e,i,ix,m,n,o,p,r,s,t,u,v,z,A,B,E,G⟩:∃c e i,IsX K C/\Qf K (.ref C) (.ref a.Cd)=some c/\Qf K (.ref C) (.ref a.Cf)=some false/\Qf K (.ref C) (.ref a.D6)=some false/\Qf K (.ref C) (.ref a.Cp)=some false/\Qf K (.ref C) (.ref a.Cc)=some e/\Qf K (.ref C) (.ref a.D4)=some false/\Qf K (.ref C) (.ref a.D0)=some false/\Qf K (.ref C) (.ref a.D8)=some false/\Qf K (.ref C) (.ref a.D2)=some false/\Qf K (.ref C) (.ref a.Cy)=some false/\Qf K (.ref C) (.type "ValueError")=some true/\Lg (.l false [.bl c,.bl false,.bl false,.bl false,.bl e,.bl false,.bl false,.bl false,.bl false,.bl false]) (.bl true)=some (.int 1)/\Mg (.l false [.bl c,.bl false,.bl false,.bl false,.bl e,.bl false,.bl false,.bl false,.bl false,.bl false]) (.bl true)=some (.int i)/\gIx (.l false M3) (.int i)=some (.str w):=by simp only[zAl,zB0,or_false,Prod.mk.injEq] at j;rcases j with⟨rfl,rfl⟩|⟨rfl,rfl⟩;{exact⟨true,false,0,T.Fg,qag6 _ _,T.E3,T.E6,T.Dk,T.Dx,T.E4,T.E2,T.E5,T.Dy,T.Do,T.Fj,rfl,rfl,rfl⟩};exact⟨false,true,4,T.Ey,T.Dt,T.Dm,T.Dv,T.Dg,qag6 _ _,T.Dp,T.Dn,T.Dw,T.Dq,T.Di,T.Et,rfl,rfl,rfl⟩
 refine At [.exn C g,.u,.u] rfl ?_;refine qb3 [.exn C g,.l false [.bl c,.bl false,.bl false,.bl false],.u] (λK f=>qe6 (qq4 (isx rfl ix m (isx rfl ix n (isx rfl ix o (isx rfl ix p (qc2 ⟨lt4,f⟩))))))) ?_;refine qb3 [.exn C g,.l false [.bl c,.bl false,.bl false,.bl false,.bl e,.bl false,.bl false,.bl false],.u] (λK f=>qe6 ⟨rfl,qq4 (isx rfl ix r (isx rfl ix s (isx rfl ix t (isx rfl ix u (qc2 ⟨lt4,qa2 (a:=D.l false [.bl c,.bl false,.bl false,.bl false,.bl e,.bl false,.bl false,.bl false]) rfl f⟩)))))⟩) ?_;refine qb3 [.exn C g,.l false [.bl c,.bl false,.bl false,.bl false,.bl e,.bl false,.bl false,.bl false,.bl false,.bl false],.u] (λK f=>qe6 ⟨rfl,qq4 (isx rfl ix v (isx rfl ix z (qc2 ⟨lt2,qa2 (a:=D.l false [.bl c,.bl false,.bl false,.bl false,.bl e,.bl false,.bl false,.bl false,.bl false,.bl false]) rfl f⟩)))⟩) ?_;refine qc8 false (λQ q=>qh7 false false (λQ q=>qaP6 rfl ix A q) (λ_ Q q=>qf8 (b:=false) (Ae (x:=.int 1) (y:=.int 1) (Ae rfl rfl B) rfl rfl) q) q) nofun λ_=>?_
 refine qb3 [.exn C g,.l false [.bl c,.bl false,.bl false,.bl false,.bl e,.bl false,.bl false,.bl false,.bl false,.bl false],.l false M3] (λK f=>f) ?_;exact qk5 (qy6 (d:=.str w) (Ae (x:=.l false M3) (y:=.int i) rfl (Ae rfl rfl E) G) rfl q)
theorem qE7:qa9 ["_law_row", "_law_way", "_law_thing", "_law_e"] ["_law_row", "_law_way", "_law_thing"] (qa4 qP6):=by walk_at "s"
theorem qaJ8{K:Qe}{L:List (γ×Str)}{C:γ}{w:Str}{t:String}(h:rdN i ds=some (.exn C fs))(c:Au [.sl i] [.exn C fs] (ds.set i .u)=some ds)(hm:(C,w)∈L)(ex:Exc K C)(a:qd1 K C fl)(b:fs.lookup fl=some v)(d:v.kind=some t)(q:e.rt (.q [.str w,v,.bl (Hh t "int" && !(Hh t "bool"))]) ds):Me (Js (tbV (qj2 (qO3 L) [] (tbN i A6)) (tbV (Ms K (rdN i) fl) (tbV (qj2 qD8 [] (tbV (Ms K (rdN i) fl) A6)) A6)))) (Hw e) ds:=qk5 (qam1 (qf4 (qH8 h ⟨.str w,⟨C,fs,w,rfl,hm,rfl⟩,qa2 c (qf4 (qa2 h ⟨C,fs,v,rfl,ex,a,b,qf4 (ql4 (qf4 (qa2 h ⟨C,fs,v,rfl,ex,a,b,qc2 ⟨_,⟨v,t,rfl,d,rfl⟩,qa2 rfl (qc2 ⟨lt3,q⟩)⟩⟩)))⟩))⟩)))
def qan0(C CP:γ):VSp:=λds Q _=>∃n wr ps g dn way x t,ds=[Br false C CP n wr ps g dn,.int way,x]/\x.kind=some t/\x.num=false/\Q (.q [.str "wrong",.int 0,.bl true]) ds
theorem qap1(T:Txt K mg a):VFn P w K mg base 9 a.f50 a.d50 ["_law_row", "_law_way", "_law_thing"] (qan0 a.Cg a.Ca):=by refine VFn.mk2 T.d50.F qE7 (wOf [true,true,true]) (by walk_at "m") (by walk_at "l") (λ_ _ _ _ _ _ _ f=>⟨_,(Aa (stryW (λE' u A o=>(Ag (sif (q2 (Al (qi8 f.u64) (qb0 _)) Bc (vnm 1) Ad) (Ag (Fy (qj5 0 T.d31 T.Ci.cl (qd9 T) o (rm f) (vaN 2 Ab)))) (Ag (sif (q2 (Al (qi8 f.u64) (qb0 _)) Bc (vnm 1) Ad) (Ag (Fy (qj5 0 T.d32 T.Ci.cl (qJ7 T) o (rm f) (vaN 2 Ab)))) (Ag (Fy (qj5 0 T.d33 T.Ci.cl (qaa1 T) o (rm f) (vaN 2 Ab))))))))) (Mq 3 qE7.nd T.D5 T.Cj (λv=>(Ag (An (Je (vaV (Ah T.d46 (qx8 T) qy3 (rm (f.mark _)) (vaN 3 Ab)) (vaV (Ix (K:=K) rfl (vnm 3)) (vaV (Ah T.d35 (qv3 T) qy3 (rm (f.mark _)) (vaV (Ix (K:=K) rfl (vnm 3)) Ab)) Ab))))))) (Mq 3 qE7.nd T.Dl T.Dr (λv=>(Ag (An (Je (vaV (Ah T.d46 (qx8 T) qy3 (rm (f.mark _)) (vaN 3 Ab)) (vaV (qa3 Ad) (vaV (qa3 Ad) Ab))))))) vhnil))) (Ag (An (qa3 (Bk (qa0 A4 (qa0 Ad (qa0 Ad qa6 rfl) rfl) rfl)))))),λB Q u h=>?_⟩);obtain⟨n,wr,c,g,d,way,x,t,rfl,j,r,q⟩:=h;have i:=qd4 j;refine At [rA a n wr c g d,.int way,x,.u] rfl ?_;refine qat5 λN X C y=>?_;have s:X ⟨a.Cd,[("at",.int 0)]⟩ [rA a n wr c g d,.int way,x,.u]:=y _ _ (as_t T.Db (qaJ8 rfl rfl (.head _) T.D5 T.Dh rfl rfl q));refine if_v (b:=way==0) (Ae rfl rfl rfl) (λ_=>qz1 (qn4 (p:=rA a n wr c g d) rfl (qh2 rfl) (qc1 (x:=x) (qc7 rfl i) (qc2 (qa2 (a:=x) (qc7 rfl i) (qa2 (a:=rA a n wr c g d) rfl ⟨false,n,wr,c,g,d,x,t,rfl,j,λ_=>qa2 (a:=[rA a n wr c g d,.int way,x,.u]) rfl s,λk e z=>absurd (r.symm.trans (qU5 e z)) zA8⟩)))))) λ_=>?_;refine if_v (b:=way==1) (Ae rfl rfl rfl) (λ_=>qz1 (qn4 (p:=rA a n wr c g d) rfl (qh2 rfl) (qc1 (x:=x) (qc7 rfl i) (qc2 (qa2 (a:=x) (qc7 rfl i) (qa2 (a:=rA a n wr c g d) rfl ⟨n,wr,c,g,d,x,t,rfl,j,.inl ⟨r,qa2 (a:=[rA a n wr c g d,.int way,x,.u]) rfl s⟩⟩)))))) λ_=>?_;exact qz1 (qn4 (p:=rA a n wr c g d) rfl (qh2 rfl) (qc1 (x:=x) (qc7 rfl i) (qc2 (qa2 (a:=x) (qc7 rfl i) (qa2 (a:=rA a n wr c g d) rfl ⟨n,wr,c,g,d,x,t,rfl,j,r,qa2 (a:=[rA a n wr c g d,.int way,x,.u]) rfl s⟩)))))
theorem qad1:qa9 ["_law_bag_here", "_law_way", "_law_odd_here"] ["_law_bag_here"] (qa4 qaA0):=by walk_at "s"
noncomputable def M4(u v:Int):Ds:=[.non,.str "1",.bl true,.bl false,.int (0-1-u),.int (1000000000000000000+1+v),.q [.int 1],.l true [.int 0],.dct true [(.inl 0,.int 1)],.str ""]
structure Odd(d:D):Prop where
 im:d.imm=true
 kd:∃t,d.kind=some t
 nn:d.num=false
 ok:okN 20 d=true
 fx:d.fz=d
theorem qaD1{u v:Int}(a:0<=u)(b:0<=v)(h:d∈M4 u v):Odd d:=by unfold M4 at h;simp only[zAl,zB0,or_false] at h;rcases h with rfl|rfl|rfl|rfl|rfl|rfl|rfl|rfl|rfl|rfl;{exact⟨rfl,⟨_,rfl⟩,rfl,rfl,rfl⟩};{exact⟨rfl,⟨_,rfl⟩,rfl,rfl,rfl⟩};{exact⟨rfl,⟨_,rfl⟩,rfl,rfl,rfl⟩};{exact⟨rfl,⟨_,rfl⟩,rfl,rfl,rfl⟩};{exact⟨rfl,⟨_,rfl⟩,Bool.and_eq_false_iff.mpr (.inl (zB3 ⋯)),rfl,rfl⟩};{exact⟨rfl,⟨_,rfl⟩,Bool.and_eq_false_iff.mpr (.inr (zB3 ⋯)),rfl,rfl⟩};{exact⟨rfl,⟨_,rfl⟩,rfl,rfl,rfl⟩};{exact⟨rfl,⟨_,rfl⟩,rfl,rfl,rfl⟩};{exact⟨rfl,⟨_,rfl⟩,rfl,rfl,rfl⟩};exact⟨rfl,⟨_,rfl⟩,rfl,rfl,rfl⟩
def qaK1:VSp:=λds Q _=>∃b ns,ds=[b]/\Rp ns b/\∀a d,Rp ns a->Odd d->Q d [a]
theorem qav4(T:Txt K mg a):VFn P w K mg base 2 a.f51 a.d51 ["_law_bag_here"] qaK1:=by refine VFn.mk2 T.d51.F qad1 (wOf [true]) (by walk_at "m") (by walk_at "l") (λ_ _ _ _ _ _ _ e=>⟨_,(Aa (Ak 1 qad1.nd (Ah T.d37 (qb7 T) qa1 (rm e) (vaN 0 (vaV (qa3 Ad) Ab)))) (Aa (Ak 2 qad1.nd (Ie (vaV (Bl (qa3 Ax)) (vaV (Bl (qa3 A4)) (vaV (Bl (qa3 vbl)) (vaV (Bl (qa3 vbl)) (vaV (Bl (e2 (Aj qm3) qm2 (qa3 (v2 (Aj qm3) qm2 Ad Ad)) (Ah T.d37 (qb7 T) qa1 (rm e) (vaN 0 (vaV (qa3 Ad) Ab))))) (vaV (Bl (e2 (Aj qe5) qe4 (qa3 (v2 (Aj qe5) qe4 (Ka 1000000000000000000) Ad)) (Ah T.d37 (qb7 T) qa1 (rm e) (vaN 0 (vaV (qa3 Ad) Ab))))) (vaV (Bl (qa3 (Bk (qa0 Ad qa6 rfl)))) (vaV (Bl (qa3 (Bj (qa0 Ad qa6 rfl)))) (vaV (Bl (qa3 vdct1)) Ab))))))))))) (Ag (An (qc4 (v2 (Av qb4) Am (v2 (Aj qe5) qe4 (vnm 2) (Bj (qa0 A4 qa6 rfl))) (vnm 1))))))),λc Q G h=>?_⟩);obtain⟨b,k,rfl,B,q⟩:=h;refine At [b,.u,.u] rfl ?_;refine qc0 (λc=>∃b i,c=[b,.int i,.u]/\Rp k b/\0<=i/\i<10) (λK f=>qe6 (qc6 (m:=10) rfl B rfl ∅ ∅ λv g j n B'=>f _ ⟨g,v,rfl,B',j,n⟩)) ?_;rintro c ⟨b,i,rfl,B,p,r⟩;refine qc0 (λc=>∃b u v,c=[b,.int i,.l false ((M4 u v).take 9)]/\Rp k b/\0<=u/\0<=v) (λK f=>qe6 (qq4 ?_)) ?_;{refine qf2 (y:=.non) rfl ?_;refine qf2 (y:=.str "1") rfl ?_;refine qf2 (y:=.bl true) rfl ?_;refine qf2 (y:=.bl false) rfl ?_;refine qf4 (I8 (qt8 (x:=.int (0-1)) rfl (qc6 (ds:=[b,.int i,.u]) rfl B rfl ∅ ∅ λu g s H B'=>qa2 (a:=D.int (0-1-u)) rfl ?_)));refine qf4 (I8 (qt8 (x:=.int (1000000000000000000+1)) rfl (qc6 (ds:=[g,.int i,.u]) rfl B' rfl ∅ ∅ λv t j n B2=>qa2 (a:=D.int (1000000000000000000+1+v)) rfl ?_)));refine qf2 (y:=.q [.int 1]) rfl ?_;refine qf2 (y:=.l false [.int 0]) rfl ?_;refine qf2 (y:=.dct false [(.inl 0,.int 1)]) rfl ?_;exact qc2 ⟨by show 9<=1000000;decide,f _ ⟨t,u,v,rfl,B2,s,j⟩⟩};rintro c ⟨b,u,v,rfl,B,z,A⟩;obtain⟨d,C,E⟩:=qo3 (xs:=M4 u v) (i:=i) p (by show i<10;exact r);have o:=qaD1 z A C;exact qk5 (qy6 (d:=d) (Ae (x:=.l false (M4 u v)) (y:=.int i) (Ae rfl rfl rfl) rfl E) o.im (q b d B o))
theorem qat9:qa9 ["_law_plan", "_law_key", "_law_room", "_law_on"] ["_law_plan", "_law_key", "_law_room"] (qa4 qaA1):=by walk_at "s"
def qaK2:VSp:=Aw λds d=>∃n wr ps k r,ds=[Af n wr ps,.int k,.int r]/\1<=n/\(ps.map (·.1)).Nodup/\d=B6 (Aq n wr ps k r)
theorem qU4(T:Txt K mg a):VFn P w K mg base 2 a.f39 a.d39 ["_law_plan", "_law_key", "_law_room"] qaK2:=by refine VFn.mk2 T.d39.F qat9 (wOf [true,true,true]) qb5 (by walk_at "l") (λ_ _ _ _ _ _ _ e=>⟨_,(Aa (Ak 3 qat9.nd (e2n 2 (Aj qm3) qm2 (Ah T.d38 (qQ7 T) qa1 (rm e) (vaN 0 (vaN 1 Ab))))) (Aa (sif (tv (v2 (Av qb4) Am (vnm 0) Ad)) (Ag (An (qa3 (v2 (Aj ql6) ql5 (vnm 3) (v2 (Av qb4) Am (vnm 0) Ad))))) As) (Ag (An (eif (q2 (Al Jh (qb0 _)) Ko (vnm 3) Ad) (qc4 (vnm 3)) (qa3 Ax)))))),λj Q m h=>?_⟩);obtain⟨d,⟨n,wr,c,k,r,rfl,f,g,rfl⟩,q⟩:=h;refine At [Af n wr c,.int k,.int r,.u] rfl ?_;refine qb3 [Af n wr c,.int k,.int r,.int (r-qd2 n c k)] (λK i=>⟨rfl,qF9 (x:=Af n wr c) (y:=.int k) (d:=.int (qd2 n c k)) rfl rfl rfl ⟨n,wr,c,k,rfl,f,g,rfl⟩ rfl (qa2 (a:=D.int (r-qd2 n c k)) rfl i)⟩) ?_;unfold Aq at q;refine qg2 wr rfl (λh=>?_) (λh=>?_);{subst h;exact qg6 (.int ((r-qd2 n c k)%n)) (Ae rfl (y:=.int n) rfl (G8 ⋯)) q};subst h;refine qk5 (Iy (b:=decide (0<=r-qd2 n c k)) rfl (λh=>?_) (λh=>?_));{rw[if_neg ∅,if_pos (zAe h)] at q;exact⟨rfl,q⟩};rw[if_neg ∅,if_neg (zBj h)] at q;exact q
theorem qE8:qa9 ["_law_plan", "_law_room", "_law_one", "_law_other", "_law_first", "_law_second"] ["_law_plan", "_law_room", "_law_one", "_law_other"] (qa4 qP7):=by walk_at "s"
theorem gt2(f g x y:Int):HT.lexGt [f,0-x] [g,0-y]=(decide (g<f)||decide (f=g)&&decide (x<y)):=by rw[HT.qy2,HT.qy2,HT.qt5];by_cases h:f=g;{subst h;rw[if_pos rfl,zB3 (Int.lt_irrefl f),zAn rfl,Bool.false_or,Bool.true_and];by_cases a:0-x=0-y;{rw[if_pos a,zB3 ⋯]};rw[if_neg a];exact zCi.mpr ⋯};rw[if_neg h,zB3 h,Bool.false_and,Bool.or_false]
def qan1:VSp:=Aw λds d=>∃n wr ps r x y,ds=[Af n wr ps,.int r,.int x,.int y]/\1<=n/\(ps.map (·.1)).Nodup/\d=.bl (qh4 n wr ps r x y)
theorem qap2(T:Txt K mg a):VFn P w K mg base 3 a.f40 a.d40 ["_law_plan", "_law_room", "_law_one", "_law_other"] qan1:=by
 refine VFn.mk2 T.d40.F qE8 (wOf [true,true,true,true]) qb5 (by walk_at "l") (λ_ _ _ _ _ _ _ i=>⟨_,(Aa (Ak 4 qE8.nd (Ah T.d39 (qU4 T) qa1 (rm i) (vaN 0 (vaN 2 (vaN 1 Ab))))) (Aa (Ak 5 qE8.nd (Ah T.d39 (qU4 T) qa1 (rm i) (vaN 0 (vaN 3 (vaN 1 Ab))))) (Aa (sif (tor (q2 (Al Gd (qb0 _)) Gc (vnm 4) Ax) (Ho (q2 (Al (qi8 i.u64) (qb0 _)) Bc (vnm 2) (vnm 3)))).te (Ag (An (qa3 vbl))) As) (Ag (An (qa3 (vor (v2 (A5 Gd (qb0 _)) Gc (vnm 5) Ax) (Lf (v2 (A5 (qaZ8 i.units0) (qb0 _)) qaZ0 (Bk (qa0 (vnm 4) (qa0 (v2 (Aj qm3) qm2 Ad (vnm 2)) qa6 rfl) rfl)) (Bk (qa0 (vnm 5) (qa0 (v2 (Aj qm3) qm2 Ad (vnm 3)) qa6 rfl) rfl))))))))))),λs Q t h=>?_⟩);obtain⟨d,⟨n,wr,b,r,x,y,rfl,m,o,rfl⟩,q⟩:=h;refine At [Af n wr b,.int r,.int x,.int y,.u,.u] rfl ?_;refine qb3 [Af n wr b,.int r,.int x,.int y,B6 (Aq n wr b x r),.u] (λK j=>qR3 (x:=Af n wr b) (y:=.int x) (w:=.int r) rfl rfl rfl rfl rfl ⟨n,wr,b,x,r,rfl,m,o,rfl⟩ rfl j) ?_;refine qb3 [Af n wr b,.int r,.int x,.int y,B6 (Aq n wr b x r),B6 (Aq n wr b y r)] (λK j=>qR3 (x:=Af n wr b) (y:=.int y) (w:=.int r) rfl rfl rfl rfl rfl ⟨n,wr,b,y,r,rfl,m,o,rfl⟩ rfl j) ?_;unfold qh4 at q;cases k:Aq n wr b x r with
 |none=>rw[k] at q;exact qc8 true (λQ q=>q) (λ_=>q) nofun|some f=>
  rw[k] at q;by_cases c:x=y
  .subst c;rw[k] at q ⊢;refine qc8 true (λQ q=>qh7 false true (λQ q=>q) (λ_ Q q=>qf8 (Ae rfl rfl (show some (D.bl (decide (x=x)))=some (.bl true) by rw[zAn rfl])) q) q) (λ_=>?_) nofun;have e:(decide (f<f)||decide (f=f)&&decide (x<x))=false:=by simp
   exact e ▸ (show Q (.bl (decide (f<f)||decide (f=f)&&decide (x<x))) _ from q)
  refine qc8 false (λQ q=>qh7 false false (λQ q=>q) (λ_ Q q=>qf8 (Ae rfl rfl (show some (D.bl (decide (x=y)))=some (.bl false) by rw[zB3 c])) q) q) nofun λ_=>?_
  cases p:Aq n wr b y r with|none=>rw[p] at q;exact qg6 _ rfl q|some g=>rw[p] at q;refine qg6 (.bl (HT.lexGt [f,0-x] [g,0-y])) (qaT2 (a:=false) rfl rfl) ?_;rw[gt2];exact q
theorem qE5:qa9 ["_law_plan", "_law_rooms", "_law_room", "_law_thing", "_law_far_here", "_law_there"] ["_law_plan", "_law_rooms", "_law_room"] (qa4 qad2):=by walk_at "s"
theorem qap4{t:String}{Q:Bool->Ds->Prop}(d:rdN i ds=some v)(c:v.kind=some t)(e:Au [.sl i] [v] (ds.set i .u)=some ds)(q:Q (!v.num) ds):ttOr (Gr (ttE (qj2 qD8 [] (tbN i A6)))) (Gr (ttV (f3 gLe gLe (kC (.int 0)) (rdN i) (kC (.int 1000000000000000000))))) ds Q xe:=by refine(show ttOr _ _ _ _ _ from(show Gr _ _ _ _ from(show ttE _ _ _ _ from qH8 d ⟨_,⟨v,t,rfl,c,rfl⟩,qa2 e (qa2 (a:=(Hh t "int" && !(Hh t "bool"))) rfl ?_)⟩)));cases v with|int k=>cases c;refine Ju ∅ (qg3 (b:=(D.int k).num) ?_ q);unfold f3;rw[d];show (if (decide (0<=k))=true then some (D.bl (decide (k<=1000000000000000000))) else some (D.bl false))=some (D.bl (decide (0<=k)&&decide (k<=1000000000000000000)));cases decide (0<=k)<;>rfl|_=>cases c<;>exact G7 ∅ q
noncomputable def wsD(o:Option Str):D:=.str (o.getD "")
def qaz5:VSp:=Aw λds d=>∃n wr ps z ys r,ds=[Af n wr ps,.l z ys,.int (r:Nat)]/\1<=n/\n<=64/\(ps.map (·.1)).Nodup/\r<n.toNat/\Rm n ys r/\d=wsD (wordD n wr ps ys r)
theorem qaD0(T:Txt K mg a):VFn P w K mg base 4 a.f47 a.d47 ["_law_plan", "_law_rooms", "_law_room"] qaz5:=by
 refine VFn.mk2 T.d47.F qE5 (wOf [true,true,true]) qb5 (by walk_at "l") (λ_ _ _ _ _ _ _ o=>⟨_,(Aa (Ak 3 qE5.nd (qc4 (v2 (Av qb4) Am (vnm 1) (vnm 2)))) (Aa (sif (q2 (Al Gd (qb0 _)) Gc (vnm 3) Ax) (Ag (An (qa3 A4))) As) (Aa (sif (tor (Bn (te (Ah T.d35 (qv3 T) qa1 (rm (rlow o)) (vaN 3 Ab)))) (Ho (Bn (qch Ii Ij Ii Ij Ad (vnm 3) (Ka 1000000000000000000))))).te (Ag (An (qa3 A4))) As) (Aa (sif (q2 (Al qm7 (by with_unfolding_all rfl)) Ik (vnm 3) (vsl (vnm 1) G2 (G3 (vnm 2)))) (Ag (An (qa3 A4))) As) (Aa (Ak 4 qE5.nd (Ah T.d39 (qU4 T) qa1 (rm o) (vaN 0 (vaN 3 (vaN 2 Ab))))) (Aa (sif (q2 (Al Gd (qb0 _)) Gc (vnm 4) Ax) (Ag (An (qa3 A4))) As) (Aa (Ak 5 qE5.nd (qc4 (v2 (Av qb4) Am (vnm 1) (v2 (Aj qm3) qm2 (vnm 2) Ad)))) (Aa (sif (tor (q2 (Al (qi8 o.u64) (qb0 _)) Bc (vnm 4) Ad) (Ho (tand (q2 (Al qq1 (qb0 _)) qu4 (vnm 5) Ax) (Kr (tor (Bn (te (Ah T.d35 (qv3 T) qa1 (rm (rlow o)) (vaN 5 Ab)))) (Ho (Bn (qch Ii Ij Ii Ij Ad (vnm 5) (Ka 1000000000000000000))))).te)).te)).te (Ag (An (qa3 A4))) As) (Aa (sif (q2 (Al Gd (qb0 _)) Gc (vnm 5) Ax) (Ag (An (qa3 A4))) As) (Ag (An (e2P (Av qb4) Am (qa3 (Bj (qa0 A4 (qa0 A4 qa6 rfl) rfl))) (ecty qX5 qaT8.ops T.Eo (Gy (vaV (Ah T.d40 (qap2 T) qa1 (rm o) (vaN 0 (vaV (qa3 (v2 (Aj ql6) ql5 (v2 (Aj qm3) qm2 (vnm 2) Ad) (v2 (Av qb4) Am (vnm 0) Ad))) (vaN 5 (vaN 3 Ab))))) Ab))))))))))))))),λds Q xe h=>?_⟩);obtain⟨d,⟨n,wr,e,z,c,r,rfl,O,n2,Y,p,R,rfl⟩,q⟩:=h;have hp:=Row.qm1 (n:=n.toNat) p;obtain⟨v,G⟩:∃v,c[r]?=some v:=⟨c[r]'(by rw[R.len];exact p),by simp⟩;obtain⟨t,H⟩:∃t,c[Row.prev n.toNat r]?=some t:=⟨c[Row.prev n.toNat r]'(by rw[R.len];exact hp),by simp⟩;obtain⟨u,I⟩:=R.kn v (zB5 G);obtain⟨s,J⟩:=R.kn t (zB5 H);have ev:atD c r=v:=by unfold atD;rw[G];rfl
 have et:atD c (Row.prev n.toNat r)=t:=by unfold atD;rw[H];rfl
 unfold wordD at q;rw[ev,et] at q;refine At [Af n wr e,.l z c,.int (r:Nat),.u,.u,.u] rfl ?_;refine qb3 [Af n wr e,.l z c,.int (r:Nat),v,.u,.u] (λK A=>qa2 (Ae rfl rfl (Jy G)) ⟨qk9 R.im G,A⟩) ?_;have S:rdN 3 [Af n wr e,.l z c,.int (r:Nat),v,.u,.u]=some v:=qc7 rfl (qd4 I);rcases qG3 I with rfl|B;{exact qg2 true rfl (λ_=>q) nofun};refine qg2 false (Ae S rfl (by show v.isN.map D.bl=_;rw[B];rfl)) nofun λ_=>?_
 cases g:v.num with
 |false=>refine qc8 true (λQ q=>qap4 S I rfl (by rw[g];exact q)) (λ_=>?_) nofun;cases v with|non=>cases B|int k=>have q:Q (wsD (if (D.int k).num=true then _ else some "key")) [Af n wr e,.l z c,.int (r:Nat)]:=q;rw[if_neg (by rw[g];decide)] at q;exact q|_=>exact q
 |true=>
  obtain⟨k,rfl,hk⟩:=qq2 g;have q:Q (wsD (if (D.int k).num=true then (if (c.take r).any (qt1 k)=true then some "twice" else match Aq n wr e k (r:Int) with|none=>some "home"|some f=>if f=0 then none else wordA n wr e (Row.prev n.toNat r) t k) else some "key")) [Af n wr e,.l z c,.int (r:Nat)]:=q;rw[if_pos g] at q;refine qc8 false (λQ q=>qap4 S I rfl (by rw[g];exact q)) nofun λ_=>?_
  obtain⟨L,e1,e2⟩:=qaj0 (k:=k) (l:=c.take r) λy hy=>by obtain⟨i,M⟩:=zC8 hy;rw[List.getElem?_take] at M;split at M;{rename_i hlt;exact R.fl i y hlt M};cases M
  have U:f2 (J1 false) (rdN 3) (fsl (rdN 1) foN (foS (rdN 2))) [Af n wr e,.l z c,.int (r:Nat),.int k,.u,.u]=some (.bl ((c.take r).any (qt1 k))):=by refine Ae (x:=.int k) (y:=.l false (c.take r)) rfl ?_ ?_;{show gSl (.l z c) none (some (r:Int))=_;show gd (D.imms (Bz c none (some (r:Int)))=true) (.l false (Bz c none (some (r:Int))))=_;rw[qv7];exact qi2 (qG6 R.im)};show ((flats (c.take r)).bind λL=>some (D.bl (if false=true then !inV (.int k) L else inV (.int k) L)))=_;rw[e1];show some (D.bl (inV (.int k) L))=_;rw[e2]
  refine qg2 _ U (λh=>?_) λh=>?_;{rw[if_pos h] at q;exact q};rw[if_neg (by rw[h];decide)] at q;refine qb3 [Af n wr e,.l z c,.int (r:Nat),.int k,B6 (Aq n wr e k (r:Nat)),.u] (λK A=>qe6 (qR3 (x:=Af n wr e) (y:=.int k) (w:=.int (r:Nat)) rfl rfl rfl rfl rfl ⟨n,wr,e,k,r,rfl,O,Y,rfl⟩ rfl A)) ?_;cases Z:Aq n wr e k (r:Nat) with
  |none=>rw[Z] at q;exact qg2 true rfl (λ_=>q) nofun|some f=>
   rw[Z] at q;have q:Q (wsD (if f=0 then none else wordA n wr e (Row.prev n.toNat r) t k)) [Af n wr e,.l z c,.int (r:Nat)]:=q;refine qg2 false rfl nofun λ_=>?_
   have V:gIx (.l z c) (.int ((r:Int)-1))=some t:=by show (ixN c.length ((r:Int)-1)).bind (λj=>c[j]?)=some t;rw[show ixN c.length ((r:Int)-1)=some (Row.prev n.toNat r) from ?_];{exact H};have:=R.len;unfold ixN Row.prev;by_cases C:r=0;{subst C;rw[if_neg ⋯,if_pos ⋯,if_pos rfl];congr 1;lia};rw[if_pos ⋯,if_pos ⋯,if_neg C];congr 1;lia
   refine qb3 [Af n wr e,.l z c,.int (r:Nat),.int k,B6 (some f),t] (λK A=>qa2 (Ae rfl (Ae (x:=.int (r:Nat)) (y:=.int 1) rfl rfl rfl) V) ⟨qk9 R.im H,A⟩) ?_;have W:rdN 5 [Af n wr e,.l z c,.int (r:Nat),.int k,B6 (some f),t]=some t:=qc7 rfl (qd4 J);by_cases N:f=0;{rw[if_pos N] at q;exact qc8 true (λQ q=>qh7 true false (λQ q=>qf8 (b:=true) (Ae rfl rfl (by show some (D.bl (f==0))=_;rw[N];rfl)) q) nofun q) (λ_=>q) nofun};rw[if_neg N] at q;have X:f2 gEq (rdN 4) (kC (.int 0)) [Af n wr e,.l z c,.int (r:Nat),.int k,B6 (some f),t]=some (.bl false):=Ae rfl rfl (by show some (D.bl (f==0))=_;rw[beq_false_of_ne N]);rcases qG3 J with rfl|B
   .refine qc8 false (λQ q=>qh7 false false (λQ q=>qf8 X q) (λ_ Q q=>qj8 false false (λQ q=>qf8 (b:=false) rfl q) nofun q) q) nofun λ_=>?_
    exact qg2 true rfl (λ_=>q) nofun
   have E:f2 Lb (rdN 5) (kC .non) [Af n wr e,.l z c,.int (r:Nat),.int k,B6 (some f),t]=some (.bl true):=Ae W rfl (qaR2 B);cases m:t.num with
   |false=>rw[qS8 m B] at q;exact qc8 true (λQ q=>qh7 false true (λQ q=>qf8 X q) (λ_ Q q=>qj8 true true (λQ q=>qf8 E q) (λ_ Q q=>qap4 W J rfl (by rw[m];exact q)) q) q) (λ_=>q) nofun|true=>
    obtain⟨x,rfl,hx⟩:=qq2 m;refine qc8 false (λQ q=>qh7 false false (λQ q=>qf8 X q) (λ_ Q q=>qj8 true false (λQ q=>qf8 E q) (λ_ Q q=>qap4 W J rfl (by rw[m];exact q)) q) q) nofun λ_=>?_
    refine qg2 false rfl nofun λ_=>?_
    have q:Q (wsD (if (D.int x).num=true then (if qh4 n wr e ((Row.prev n.toNat r:Nat):Int) x k=true then none else some "order") else none)) [Af n wr e,.l z c,.int (r:Nat)]:=q;rw[if_pos m] at q;refine qk5 (qt8 (x:=.l false [.str "order",.str ""]) rfl ?_);have pm:((r:Int)-1)%n=((Row.prev n.toNat r:Nat):Int):=by unfold Row.prev;by_cases C:r=0;{subst C;rw[if_pos rfl,<-Int.add_emod_right,zBm ⋯ ⋯];lia};rw[if_neg C,zBm ⋯ ⋯];lia
    refine co_to (qf4 (ql4 (qc1 (x:=Af n wr e) rfl (qe1 (y:=.int ((Row.prev n.toNat r:Nat):Int)) (Ae (x:=.int ((r:Int)-1)) (y:=.int n) (Ae rfl rfl rfl) rfl (by rw[qaD8 O,pm])) (qc1 (x:=.int x) rfl (qc1 (x:=.int k) rfl (qc2 (qa2 (a:=D.int k) rfl (qa2 (a:=D.int x) rfl (qa2 (a:=Af n wr e) rfl ⟨_,⟨n,wr,e,_,x,k,rfl,O,Y,rfl⟩,qa2 (a:=[Af n wr e,.l z c,.int (r:Nat),.int k,B6 (some f),.int x]) rfl (qc2 ?_)⟩))))))))));cases ha:qh4 n wr e ((Row.prev n.toNat r:Nat):Int) x k with|true=>rw[if_pos ha] at q;exact qa2 (a:=D.int 1) rfl (qa2 (a:=D.str "") rfl q)|false=>rw[if_neg (by rw[ha];decide)] at q;exact qa2 (a:=D.int 0) rfl (qa2 (a:=D.str "order") rfl q)
theorem qE6:qa9 ["_law_plan", "_law_rooms", "_law_room", "_law_word_here"] ["_law_plan", "_law_rooms"] (qa4 qP4):=by walk_at "s"
theorem qaX1{g:D->D->Option D}{Q:Bool->Ds->Prop}(h:ta ds (λx ds1=>tb ds1 (λy a=>orF (g x y) λd=>orF d.asB λb=>Q b a) xe) xe):ttE (t2 g ta tb) ds Q xe:=h
theorem qai7{α β:Type}{f g:α->Option β}:∀{l:List α},(∀x∈l,f x=g x)->l.filterMap f=l.filterMap g|[],_=>rfl|x::l,h=>by rw[zBs,zBs,h x zAb,qai7 λy a=>h y (zA6 _ a)]
theorem qaI6{n:Int}{wr:Bool}{ps:Pr}{w:Str}(e:wordD n wr ps ys r=some w):w ≠ "" := by
 rintro rfl;unfold wordD wordA at e
 repeat' split at e
 all_goals first|cases e|exact absurd (Qc e) ∅
def kAt(ys:Ds)(i:Nat):Int:=match atD ys i with|.int k=>k|_=>0
def farE(n:Int)(wr:Bool)(ps:Pr)(ys:Ds):D->Option D|.int i=>some (B6 (Aq n wr ps (kAt ys i.toNat) i))|_=>none
theorem qai9:∀{l:Ds},(∀y∈l,y=.non∨∃j,y=.int j/\Ap j)->∃a,flats l=some a/\inV .non a=l.any (λy=>y matches .non)|[],_=>⟨[],rfl,rfl⟩|y::l,h=>by obtain⟨a,c,e2⟩:=qai9 λz d=>h z (zA6 _ d);rcases h y zAb with rfl|⟨j,rfl,_⟩;{refine⟨.non::a,?_,?_⟩;{show ((flats l).bind λb=>some (V.non::b))=_;rw[c];rfl};show (eqV .non .non||inV .non a)=(true||_);rfl};refine⟨.int j::a,?_,?_⟩;{show ((flats l).bind λb=>some (V.int j::b))=_;rw[c];rfl};show (eqV (.int j) .non||inV .non a)=(false||l.any _);rw[e2];rfl
def qam8:VSp:=Aw λds d=>∃n wr ps z ys,ds=[Af n wr ps,.l z ys]/\1<=n/\n<=64/\(ps.map (·.1)).Nodup/\(∀y∈ys,∃t,y.kind=some t)/\D.imms ys=true/\d=qe3 n wr ps ys
theorem qao9(T:Txt K mg a):VFn P w K mg base 5 a.f48 a.d48 ["_law_plan", "_law_rooms"] qam8:=by
 refine VFn.mk2 T.d48.F qE6 (wOf [true,true]) qb5 (by walk_at "l") (λ_ _ _ _ _ _ _ S=>⟨_,(Aa (sif (tor (Bn (tv (vbi qj0 qB7.ops T.Cb (qa0 (vnm 1) (qa0 (vty "list" T.Cz) qa6 rfl) rfl)))) (Ho (q2 (Al (qi7 S.u64) (qb0 _)) B8 (vbi qu8 qu7.ops T.D3 (qa0 (vnm 1) qa6 rfl)) (v2 (Av qb4) Am (vnm 0) Ad)))).te (Ag (An (qa3 (Bk (qa0 A4 (qa0 Ad qa6 rfl) rfl))))) As) (Aa (qE0 Qd T.Cq (Gy (vaV (qc4 (v2 (Av qb4) Am (vnm 0) Ad)) Ab)) (Bf 2 qE6.nd) (Aa (Ak 3 qE6.nd (Ah T.d47 (qaD0 T) qa1 (rm S) (vaN 0 (vaN 1 (vaN 2 Ab))))) (Ag (sif (q2 (Al (qi7 S.u64) (qb0 _)) B8 (vnm 3) A4) (Ag (An (qa3 (Bk (qa0 (vnm 3) (qa0 (vnm 2) qa6 rfl) rfl))))) As)))) (Aa (sif (VTw.te (tor (q2 (Al qm7 (by with_unfolding_all rfl)) Ik Ax (vnm 1)) (Ho (q2e (A5 qm7 (by with_unfolding_all rfl)) (Al qm7 (by with_unfolding_all rfl)) Ik (qa3 Ad) (ecR1 (NY:=["_law_room", "_law_plan", "_law_rooms"]) (src:=[none,some 0,some 1]) T.Cq (Gy (vaV (qc4 (v2 (Av qb4) Am (vnm 0) Ad)) Ab)) (blk (λav C s0 H0 ex=>(Bf 0 (show (["_law_room", "_law_plan", "_law_rooms"]:List Str).Nodup by decide +kernel))) (λav C s0 H0 ex=>Iu) (λav C s0 H0 ex=>(Ah T.d39 (qU4 T) qt0 (rm S) (vaN 1 (vaV (qc4 (v2 (Av qb4) Am (vnm 2) (vnm 0))) (vaN 0 Ab))))))))))) (Ag (An (qa3 Ax))) As) (Ag (An (qa3 (Bk (qa0 A4 (qa0 Ad qa6 rfl) rfl)))))))),λB Q xe h=>?_⟩);obtain⟨d,⟨n,wr,g,z,c,rfl,U,n2,nd,Z,hm,rfl⟩,q⟩:=h;refine At [Af n wr g,.l z c,.u,.u] rfl ?_;unfold qe3 at q;by_cases H:c.length=n.toNat;case neg=>
  rw[if_neg H] at q;refine qc8 true (λQ q=>qh7 false true (λQ q=>qg3 (qy4 rfl) q) (λ_ Q q=>qf8 (Ae (qk8 rfl) (y:=.int n) rfl ?_) q) q) (λ_=>q) nofun;show some (D.bl (!((c.length:Nat):Int)==n))=_;rw[beq_false_of_ne ⋯];rfl
 rw[if_pos H] at q;refine qc8 false (λQ q=>qh7 false false (λQ q=>qg3 (qy4 rfl) q) (λ_ Q q=>qf8 (Ae (qk8 rfl) (y:=.int n) rfl ?_) q) q) nofun λ_=>?_
 {show some (D.bl (!((c.length:Nat):Int)==n))=_;rw[show ((c.length:Nat):Int)=n by lia,zB1];rfl};refine qc0 (λB=>(∀i,i<n.toNat->wordD n wr g c i=none)/\∃d E,B=[Af n wr g,.l z c,d,E]) (λK I=>?_) ?_
 .refine qG9 (n:=n) rfl (qR2 ⋯ ⋯) ?_;refine qf7 (λi B=>(∀j,j<i->wordD n wr g c j=none)/\∃d E,B=[Af n wr g,.l z c,d,E]) _ 0 _ ⟨λj J=>absurd J (zC1 _),_,_,rfl⟩ ?_ ?_
  .rintro j x hx B ⟨m,d,E,rfl⟩ K I;rw[zAo] at m I;obtain⟨J,rfl⟩:=qP9 hx;have R:Rm n c j:=⟨H,Z,hm,λi y o u=>by rcases qj1 u (m i o) with h|⟨k,h1,h2,_⟩;{exact .inl h};exact .inr ⟨k,h1,h2⟩⟩;refine qp5 (At [Af n wr g,.l z c,.int (j:Nat),E] rfl ?_);refine qb3 [Af n wr g,.l z c,.int (j:Nat),wsD (wordD n wr g c j)] (λK I=>qe6 (qR3 (x:=Af n wr g) (y:=.l z c) (w:=.int (j:Nat)) rfl rfl rfl rfl rfl ⟨n,wr,g,z,c,j,rfl,U,n2,nd,J,R,rfl⟩ rfl I)) ?_;cases e:wordD n wr g c j with
   |none=>
    refine if_v (b:=false) rfl nofun λ_=>I _ ⟨λi o=>?_,_,_,rfl⟩
    rcases Nat.lt_succ_iff_lt_or_eq.mp o with h|rfl;{exact m i h};exact e
   |some w=>have ew:qu6 n wr g c=some (w,j):=qz0 J (λi o=>by rw[m i o];rfl) (by rw[e];rfl);have q:Q (match qu6 n wr g c with|some (w,r)=>.q [.str w,.int (r:Nat)] | none=>if qf1 n wr g c=true then .q [.str "turned",.int 0] else .non) [Af n wr g,.l z c]:=q;rw[ew] at q;have V:w ≠ "" := qaI6 e;exact if_v (b:=true) (Ae rfl rfl (by show some (D.bl (!(w=="")))=_;rw[beq_false_of_ne V];rfl)) (λ_=>q) nofun
  rintro B ⟨m,hd⟩;refine I _ ⟨λi o=>m i ?_,hd⟩;unfold Bo;rw[zAk,zBb,zAo];exact o
 rintro B ⟨V,d,E,rfl⟩;have a0:qu6 n wr g c=none:=qH1 λi o=>by rw[V i o];rfl
 have q:Q (match qu6 n wr g c with|some (w,r)=>.q [.str w,.int (r:Nat)] | none=>if qf1 n wr g c=true then .q [.str "turned",.int 0] else .non) [Af n wr g,.l z c]:=q;rw[a0] at q;have q:Q (if qf1 n wr g c=true then .q [.str "turned",.int 0] else .non) [Af n wr g,.l z c]:=q;have M:∀i v,c[i]?=some v->v=.non∨∃k,v=.int k/\Ap k/\Aq n wr g k (i:Nat)≠none:=λi v s=>qj1 s (V i (by have:=(zA5.mp s).1;lia));obtain⟨W,e1,e2⟩:=qai9 (l:=c) λy u=>by obtain⟨i,o⟩:=zC8 u;rcases M i y o with h|⟨k,h1,h2,_⟩;{exact .inl h};exact .inr ⟨k,h1,h2⟩
 have A:f2 (J1 false) (kC .non) (rdN 1) [Af n wr g,.l z c,d,E]=some (.bl (c.any λy=>y matches .non)):=by refine Ae (x:=.non) (y:=.l z c) rfl rfl ?_;show ((flats c).bind λW=>some (D.bl (if false=true then !inV .non W else inV .non W)))=_;rw[e1];show some (D.bl (inV .non W))=_;rw[e2]
 cases X:(c.any λy=>y matches .non) with
 |true=>
  rw[X] at A;obtain⟨y,u,a1⟩:=zC3.mp X;obtain⟨i,o⟩:=zC8 u;have ht:qf1 n wr g c=false:=by unfold qf1;rw[Pf];refine⟨_,qaj7 o,?_⟩;cases y with|non=>exact zA8|_=>cases a1
  rw[if_neg (by rw[ht];decide)] at q;exact qc8 true (λQ q=>qh7 true false (λQ q=>qf8 A q) nofun q) (λ_=>q) nofun
 |false=>
  rw[X] at A;have Y:∀i,i<n.toNat->∃k f,c[i]?=some (.int k)/\kAt c i=k/\Aq n wr g k (i:Nat)=some f:=λi o=>by obtain⟨v,s⟩:∃v,c[i]?=some v:=⟨_,zBa ⋯⟩;rcases M i v s with rfl|⟨k,rfl,_,h3⟩;{exact absurd (zC3.mpr ⟨_,zB5 s,rfl⟩) (by rw[X];decide)};cases m:Aq n wr g k (i:Nat) with|none=>exact absurd m h3|some f=>exact⟨k,f,s,by unfold kAt atD;rw[s];rfl,m⟩
  have el:∃L:List Int,(Bo 0 n.toNat).filterMap (farE n wr g c)=Re L/\(0∈L↔qf1 n wr g c=false):=by
   refine⟨(Ob n.toNat).map λi:Nat=>(Aq n wr g (kAt c i) (i:Nat)).getD 0,?_,?_⟩;{unfold Bo Re;rw[Ou,zCn,<-List.filterMap_eq_map];refine qai7 λi o=>?_;obtain⟨k,f,s,t,m⟩:=Y i (zAm.mp o);show some (B6 (Aq n wr g (kAt c (0+(i:Int)).toNat) (0+(i:Int))))=some (D.int ((Aq n wr g (kAt c i) (i:Nat)).getD 0));rw[Int.zero_add,zCg,t,m];rfl};constructor;{intro h;obtain⟨i,o,e⟩:=zAy.mp h;obtain⟨k,f,s,t,m⟩:=Y i (zAm.mp o);rw[t,m] at e;have e:f=0:=e;unfold qf1;rw[Pf];refine⟨_,qaj7 s,?_⟩;show ¬(match Aq n wr g k (i:Nat) with|some f=>decide (0<f)|none=>false)=true;rw[m,e];decide};intro h;unfold qf1 at h;obtain⟨y,u,G⟩:=List.all_eq_false.mp h;obtain⟨p,a2,rfl⟩:=zAy.mp u;have s:=List.mem_zipIdx_iff_getElem?.mp a2;have o:p.2<n.toNat:=by have:=(zA5.mp s).1;lia
   obtain⟨k,f,N,t,m⟩:=Y p.2 o;rw[s] at N;refine zAy.mpr ⟨p.2,zAm.mpr o,?_⟩;rw[t,m];show f=0;have e1:p.1=.int k:=Qc N;rw[e1] at G;have G:¬(match Aq n wr g k (p.2:Nat) with|some f=>decide (0<f)|none=>false)=true:=G;rw[m] at G;have G:¬(decide (0<f))=true:=G;have f0:0<=f:=by by_cases H:wr=false->Rb n g k<=p.2;{rw[qL5 U o H] at m;have:=Qc m;lia};have ⟨a3,a5⟩:=Classical.not_imp.mp H;subst a3;rw[qar2 U ⋯] at m;cases m
   rcases Int.lt_or_eq_of_le f0 with h|h;{exact absurd (zAn h) G};exact h.symm
  obtain⟨L,eL,hL⟩:=el;have a4:qf1 n wr g c=!decide (0∈L):=by by_cases h:(0:Int)∈L;{rw[zAn h,hL.mp h];rfl};rw[zB3 h];cases ht:qf1 n wr g c with|true=>rfl|false=>exact absurd (hL.mpr ht) h
  rw[a4] at q;refine qc8 (decide (0∈L)) (λQ q=>qh7 false (decide (0∈L)) (λQ q=>qf8 A q) (λ_ Q q=>qaX1 (qm4 (d:=.int 0) rfl (qbd4 (qh8 (y:=.int n) rfl rfl (qc2 (qa2 (a:=n) rfl ⟨qR2 ⋯ ⋯,?_⟩)))))) q) (λh=>?_) λh=>?_
  .refine qo2 (λι=>∃d,ι=[d,Af n wr g,.l z c]) (farE n wr g c) _ [] _ (by show 0+_<1000000;rw[qV2];lia) ⟨_,rfl⟩ ?_ ?_
   .rintro y u ι a6 ⟨d,rfl⟩ R hR O;obtain⟨j,J,rfl⟩:=zAy.mp u;obtain⟨k,f,s,t,m⟩:=Y j (zAm.mp J);have e0:D.int (0+(j:Int))=D.int (j:Nat):=congrArg D.int (Int.zero_add _);rw[e0] at hR ⊢;have hE:farE n wr g c (.int (j:Nat))=some (B6 (Aq n wr g k (j:Nat))):=by show some (B6 (Aq n wr g (kAt c ((j:Nat):Int).toNat) (j:Nat)))=_;rw[zCg,t]
    rw[hE] at hR;exact qp5 (qal6 (G7 rfl (ql4 (qc1 (x:=Af n wr g) rfl (qh8 (y:=.int k) (Ae rfl rfl (Jy s)) rfl (qc1 (x:=.int (j:Nat)) rfl (qc2 (qa2 (a:=D.int (j:Nat)) rfl (qa2 (a:=Af n wr g) rfl ⟨_,⟨n,wr,g,k,j,rfl,U,nd,rfl⟩,qa2 (a:=[.int (j:Nat),Af n wr g,.l z c]) rfl ⟨O,hR _ ⟨_,rfl⟩⟩⟩)))))))))
   rintro ι ⟨d,rfl⟩;rw[eL,zBh];exact qa2 (a:=D.bl (decide (0∈L))) qaR3 (qa2 (a:=decide (0∈L)) rfl q)
  {rw[h] at q;exact q};rw[h] at q;exact q
theorem qw4:qa9 ["_law_plan", "_law_rooms", "_law_row", "_law_e"] ["_law_plan", "_law_rooms"] (qa4 qad5):=by walk_at "s"
theorem qaW7{K:Qe}{L:List (γ×Str)}{C:γ}{w gl:Str}{a:D}(h:rdN i ds=some (.exn C fs))(d:Au [.sl i] [.exn C fs] (ds.set i .u)=some ds)(hm:(C,w)∈L)(ex:Exc K C)(f:qd1 K C fl)(g:fs.lookup fl=some v)(b:qd1 K C gl)(c:fs.lookup gl=some a)(q:e.rt (.q [.str w,v,a]) ds):Me (Js (tbV (qj2 (qO3 L) [] (tbN i A6)) (tbV (Ms K (rdN i) fl) (tbV (Ms K (rdN i) gl) A6)))) (Hw e) ds:=qk5 (qam1 (qf4 (qH8 h ⟨.str w,⟨C,fs,w,rfl,hm,rfl⟩,qa2 d (qf4 (qa2 h ⟨C,fs,v,rfl,ex,f,g,qf4 (qa2 h ⟨C,fs,a,rfl,ex,b,c,qc2 ⟨lt3,q⟩⟩)⟩))⟩)))
def qac4(C CP:γ):VSp:=λds Q _=>∃x r,ds=[x,r]/\x.known=true/\x.imm=true/\r.known=true/\(Ib CP x (.adr CP)=some (.bl false)/\Q (.q [.str "wrong",.int 0,.bl true]) ds∨∃n wr ps,x=Ra true CP n wr ps/\1<=n/\n<=64/\(r.isN=some false/\Jp r (.ty "list")=some (.bl false)/\Q (.q [.str "wrong",.int 1,.bl true]) ds∨∃z ys,r=.l z ys/\(∀y∈ys,∃t,y.kind=some t)/\D.imms ys=true/\(∀w (k:Nat),qe3 n wr ps ys=.q [.str w,.int (k:Nat)]->Q (.q [.str "unkept",.str w,.int (k:Nat)]) ds)/\(∀g,ys=Rf n.toNat g->qe3 n wr ps ys=.non->Q (.q [.str "told",.l false ys,.int 0]) ds)))
theorem qs5(T:Txt K mg a):VFn P w K mg base 12 a.f49 a.d49 ["_law_plan", "_law_rooms"] (qac4 a.Cg a.Ca):=by refine VFn.mk2 T.d49.F qw4 (wOf [true,true]) (by walk_at "m") (by walk_at "l") (λ_ _ _ _ _ _ _ b=>⟨_,(Aa (stryW (λE' v D c=>(Ag (Ak 2 qw4.nd (qaT5 T.Ci T.Fh T.d27 (qC2 T) c (rm b) (vaN 0 (vaN 1 Ab)))))) (Mq 3 qw4.nd T.D5 T.Cj (λj=>(Ag (An (Je (vaV (Ah T.d46 (qx8 T) qy3 (rm (b.mark _)) (vaN 3 Ab)) (vaV (Ix (K:=K) rfl (vnm 3)) (vaV (Ah T.d35 (qv3 T) qy3 (rm (b.mark _)) (vaV (Ix (K:=K) rfl (vnm 3)) Ab)) Ab))))))) (Mq 3 qw4.nd T.D7 T.E7 (λj=>(Ag (An (Je (vaV (Ah T.d46 (qx8 T) qy3 (rm (b.mark _)) (vaN 3 Ab)) (vaV (Ix (K:=K) rfl (vnm 3)) (vaV (Ix (K:=K) rfl (vnm 3)) Ab))))))) (Mq 3 qw4.nd T.Dl T.Dr (λj=>(Ag (An (Je (vaV (Ah T.d46 (qx8 T) qy3 (rm (b.mark _)) (vaN 3 Ab)) (vaV (qa3 Ad) (vaV (qa3 Ad) Ab))))))) vhnil)))) (Ag (An (Je (vaV (qa3 A4) (vaV (qL7 2 T.d28 T.Ci.cl (qh0 T) qa1 (rm b)) (vaV (qa3 Ad) Ab))))))),λE Q v h=>?_⟩);obtain⟨x,r,rfl,f,ix,o,h⟩:=h;refine At [x,r,.u,.u] rfl ?_;refine qat5 λN X A s=>?_;have B:rdN 0 [x,r,.u,.u]=some x:=qc7 rfl f;have t:rdN 1 [x,r,.u,.u]=some r:=qc7 rfl o;have u:∀i:Int,Q (.q [.str "wrong",.int i,.bl true]) [x,r]->X ⟨a.Cd,[("at",.int i)]⟩ [x,r,.u,.u]:=λi q=>s _ _ (as_t T.Db (qaJ8 rfl rfl (.head _) T.D5 T.Dh rfl rfl q));refine qe6 (qU9 (qc1 (x:=x) B (qc1 (x:=r) t (qc2 (qa2 (a:=r) t (qa2 (a:=x) (qc7 rfl f) ⟨x,r,rfl,f,ix,o,?_⟩))))));rcases h with⟨hp,q⟩|⟨n,wr,ps,rfl,n1,n2,h⟩;{exact .inl ⟨hp,qa2 (a:=[x,r,.u,.u]) rfl (u 0 q)⟩};refine .inr ⟨n,wr,ps,rfl,n1,n2,?_⟩;rcases h with⟨hN0,c,q⟩|⟨z,ys,rfl,hkn,him,qx,q⟩;{exact .inl ⟨hN0,c,qa2 (a:=[Ra true a.Ca n wr ps,r,.u,.u]) rfl (u 1 q)⟩};refine .inr (.inr ⟨z,ys,rfl,hkn,him,λw k e=>qa2 (a:=[Ra true a.Ca n wr ps,.l z ys,.u,.u]) rfl (s _ _ (as_f T.E8 (as_t T.Du (qaW7 rfl rfl (.tail _ (.head _)) T.D7 T.Da rfl T.D9 rfl (qx w k e))))),λg e _ C=>?_⟩);have q:=q g e C;subst e;exact⟨rfl,qa2 (a:=rA a n wr ps g []) rfl (qa2 (a:=[Ra true a.Ca n wr ps,.l z (Rf n.toNat g),.u,.u]) rfl (A _ (qk5 (qam1 (qe1 (y:=.str "told") rfl (qf4 (Mx (p:=rA a n wr ps g []) (d:=rL n g) rfl (qh2 rfl) ⟨false,n,wr,ps,g,[],rfl,rfl⟩ rfl (qe1 (y:=.int 0) rfl (qc2 ⟨lt3,q⟩)))))))))⟩
theorem ql7:qa9 ["_law_bag_here", "_law_rooms", "_law_keys", "_law_way", "_law_at", "_law_other", "_law_found"] ["_law_bag_here", "_law_rooms", "_law_keys"] (qa4 qF0):=by walk_at "s"
structure M5(y:D):Prop where
 im:y.imm=true
 kd:∃t,y.kind=some t
 ok:okN 20 y=true
 fx:y.fz=y
def GoodL(ys:Ds):Prop:=∀y∈ys,M5 y
theorem GoodL.imms:∀{ys:Ds},GoodL ys->D.imms ys=true|[],_=>rfl|y::l,h=>by show (y.imm&&D.imms l)=true;rw[(h y zAb).1,GoodL.imms λz a=>h z (zA6 _ a)];rfl
theorem GoodL.app(h:GoodL xs)(h':GoodL ys):GoodL (xs++ys):=λy a=>(zAd.mp a).elim (h y) (h' y)
theorem GoodL.sub(h:GoodL ys)(a:xs.Sublist ys):GoodL xs:=λy b=>h y (a.subset b)
theorem GoodL.set(h:GoodL ys)(a:M5 d)(i:Nat):GoodL (ys.set i d):=λy b=>(List.mem_or_eq_of_mem_set b).elim (h y) λe=>e ▸ a
theorem qaH4(r:Nat):Bz ys (some ((r:Nat):Int)) none=ys.drop r:=by unfold Bz;rw[HT.qad7,HT.qP8];by_cases h:r<=ys.length;{rw[Nat.min_eq_left h];exact zAq (by rw[zBx];lia)};rw[Nat.min_eq_right ⋯,Op (zA3 _),Op ⋯,Pw]
theorem GoodL.take(G:GoodL ys)(m:Nat):GoodL (ys.take m):=λy a=>G y (O7 a)
theorem GoodL.drop(G:GoodL ys)(m:Nat):GoodL (ys.drop m):=λy a=>G y (List.mem_of_mem_drop a)
theorem slT{z:Bool}{m:Nat}(G:GoodL ys):gSl (.l z ys) none (some ((m:Nat):Int))=some (.l false (ys.take m)):=by show gd (D.imms (Bz ys none (some ((m:Nat):Int)))=true) (.l false (Bz ys none (some ((m:Nat):Int))))=_;rw[qv7];exact qi2 (G.take m).imms
theorem slF{z:Bool}{m:Nat}(G:GoodL ys):gSl (.l z ys) (some ((m:Nat):Int)) none=some (.l false (ys.drop m)):=by show gd (D.imms (Bz ys (some ((m:Nat):Int)) none)=true) (.l false (Bz ys (some ((m:Nat):Int)) none))=_;rw[qaH4];exact qi2 (G.drop m).imms
theorem M6{z:Bool}(G:GoodL xs)(G':GoodL ys)(h:xs.length+ys.length<=1000000):Jd (.l z xs) (.l z' ys)=some (.l false (xs++ys)):=qi2 ⟨G.imms,G'.imms,h⟩
theorem ixm{m:Nat}(h:m<N):ixN N ((m:Nat):Int)=some m:=by unfold ixN;rw[if_pos ⋯,if_pos ⋯,zCg]
theorem qaz3{g fc:FV}{k':Int}{n n':Nat}(h:g ds=some (.q [x,y]))(hi:ds[i]?=some (.l false ys))(j:fb ds=some (.int k))(l:ixN ys.length k=some n)(b:(ds.set i (.l false (ys.set n x)))[i]?=some (.l false (ys.set n x)))(c:fc (ds.set i (.l false (ys.set n x)))=some (.int k'))(f:ixN (ys.set n x).length k'=some n')(q:e.nx ((ds.set i (.l false (ys.set n x))).set i (.l false ((ys.set n x).set n' y)))):Gw (Bs g) (Kv 2 (qL4 (G5 (λ_=>some (i,[])) fb) (qL4 (G5 (λ_=>some (i,[])) fc) Iq))) e ds:=qm4 (Q:=λd a=>Kv 2 (qL4 (G5 (λ_=>some (i,[])) fb) (qL4 (G5 (λ_=>some (i,[])) fc) Iq)) d a e.nx) h ⟨rfl,qy7 (K:=λa=>qL4 (G5 (λ_=>some (i,[])) fc) Iq [y] a e.nx) hi j l (qy7 (K:=λa=>Iq [] a e.nx) b c f q)⟩
theorem qY2(h:te ds (λd a=>g d a e.nx) e.xe):Gw te g e ds:=h
def qac3:VSp:=λds Q _=>∃ns b z ys z' ks,ds=[b,.l z ys,.l z' (Re ks)]/\Rp ns b/\GoodL ys/\ys≠[]/\ys.length<=500/\ks.length<=500/\∀c a,Rp ns c->GoodL a->a.length<=ys.length+1->Q (.l false a) [c,.l z ys,.l z' (Re ks)]
abbrev qj3 (z) (ys) (z') (ks) (way) (m) (o) (xs) (p0:D):=([p0,.l z ys,.l z' (Re ks),.int way,.int (m:Nat),.int (o:Nat),.l false xs]:Ds)
theorem qaf1(T:Txt K mg a):VFn P w K mg base 3 a.f52 a.d52 ["_law_bag_here", "_law_rooms", "_law_keys"] qac3:=by
 refine VFn.mk2 T.d52.F ql7 (wOf [true,true,true]) (by walk_at "m") (by walk_at "l") (λ_ _ _ _ _ _ _ s=>⟨_,(Aa (Ak 3 ql7.nd (Ah T.d37 (qb7 T) qa1 (rm s) (vaN 0 (vaV (qa3 Ad) Ab)))) (Aa (Ak 4 ql7.nd (Ah T.d37 (qb7 T) qa1 (rm s) (vaN 0 (vaV (qa3 (vbi qu8 qu7.ops T.D3 (qa0 (vnm 1) qa6 rfl))) Ab)))) (Aa (Ak 5 ql7.nd (Ah T.d37 (qb7 T) qa1 (rm s) (vaN 0 (vaV (qa3 (vbi qu8 qu7.ops T.D3 (qa0 (vnm 1) qa6 rfl))) Ab)))) (Aa (Ak 6 ql7.nd (qa3 (Hq qf0 qz6.ops T.Cz (qa0 (vnm 1) qa6 rfl)))) (Aa (sif (q2 (Al (qi8 s.u64) (qb0 _)) Bc (vnm 3) Ad) (Ag (An (qa3 (v2 (Aj qe5) qe4 (vsl (vnm 6) G2 (G3 (vnm 4))) (vsl (vnm 6) (G3 (v2 (Aj qe5) qe4 (vnm 4) Ad)) G2))))) As) (Aa (sif (q2 (Al (qi8 s.u64) (qb0 _)) Bc (vnm 3) Ad) (Ag (An (qa3 (v2 (Aj qe5) qe4 (v2 (Aj qe5) qe4 (vsl (vnm 6) G2 (G3 (vnm 4))) (Bj (qa0 Ax qa6 rfl))) (vsl (vnm 6) (G3 (vnm 4)) G2))))) As) (Aa (sif (q2 (Al (qi8 s.u64) (qb0 _)) Bc (vnm 3) Ad) (Ag (An (qa3 (v2 (Aj qe5) qe4 (vsl (vnm 6) (G3 (vnm 4)) G2) (vsl (vnm 6) G2 (G3 (vnm 4))))))) As) (Aa (sif (q2 (Al (qi8 s.u64) (qb0 _)) Bc (vnm 3) Ad) (Ag (G4 (qa3 (Bk (qa0 (v2 (Av qb4) Am (vnm 6) (vnm 5)) (qa0 (v2 (Av qb4) Am (vnm 6) (vnm 4)) qa6 rfl) rfl))) (Kw (n:=2) rfl (qL3 (Ge (vpn 6) (vnm 4)) (qL3 (Ge (vpn 6) (vnm 5)) Ku))))) As) (Aa (sif (q2 (Al (qi8 s.u64) (qb0 _)) Bc (vnm 3) Ad) (Ag (G4 (e2P (Av qb4) Am (qa3 (v2 (Aj qe5) qe4 (vnm 2) (Bj (qa0 Ad qa6 rfl)))) (Ah T.d37 (qb7 T) qa1 (rm s) (vaN 0 (vaV (qa3 (v2 (Aj qe5) qe4 (vbi qu8 qu7.ops T.D3 (qa0 (vnm 2) qa6 rfl)) Ad)) Ab)))) (Ge (vpn 6) (vnm 4)))) As) (Aa (sif (q2 (Al (qi8 s.u64) (qb0 _)) Bc (vnm 3) Ad) (Ag (G4 (qa3 Ax) (Ge (vpn 6) (vnm 4)))) As) (Aa (sif (q2 (Al (qi8 s.u64) (qb0 _)) Bc (vnm 3) Ad) (Ag (G4 (Ah T.d37 (qb7 T) qa1 (rm s) (vaN 0 (vaV (qa3 (Ka 1000000000000000000)) Ab))) (Ge (vpn 6) (vnm 4)))) As) (Aa (sif (q2 (Al Gg (qb0 _)) Gj (vnm 3) Ad) (Ag (G4 (Ah T.d51 (qav4 T) qa1 (rm s) (vaN 0 Ab)) (Ge (vpn 6) (vnm 4)))) As) (Ag (An (emv 6))))))))))))))),λf Q xe h=>?_⟩);obtain⟨E,b,z,c,r,g,rfl,B,G,V,hl,W,q⟩:=h;have hp:=List.length_pos_iff.mpr V;obtain⟨I,J⟩:∃I:Int,I=(c.length:Nat):=⟨_,rfl⟩;refine At [b,.l z c,.l r (Re g),.u,.u,.u,.u] rfl ?_;refine qc0 (λf=>∃b way,f=[b,.l z c,.l r (Re g),.int way,.u,.u,.u]/\Rp E b/\0<=way/\way<10) (λK j=>qe6 (qc6 (m:=10) rfl B rfl ∅ ∅ λv t C H B'=>j _ ⟨t,v,rfl,B',C,H⟩)) ?_;rintro f ⟨b,way,rfl,B,w0,w1⟩;refine qc0 (λf=>∃b p,f=[b,.l z c,.l r (Re g),.int way,.int p,.u,.u]/\Rp E b/\0<=p/\p<I) (λK j=>qe6 (qc6 (ds:=[b,.l z c,.l r (Re g),.int way,.u,.u,.u]) (m:=I) rfl B (by rw[J];exact qk8 rfl) ⋯ ⋯ λv t C H B'=>j _ ⟨t,v,rfl,B',C,H⟩)) ?_;rintro f ⟨b,p,rfl,B,a0,a1⟩;refine qc0 (λf=>∃b other,f=[b,.l z c,.l r (Re g),.int way,.int p,.int other,.u]/\Rp E b/\0<=other/\other<I) (λK j=>qe6 (qc6 (ds:=[b,.l z c,.l r (Re g),.int way,.int p,.u,.u]) (m:=I) rfl B (by rw[J];exact qk8 rfl) ⋯ ⋯ λv t C H B'=>j _ ⟨t,v,rfl,B',C,H⟩)) ?_;rintro f ⟨b,other,rfl,B,o0,o1⟩;refine qb3 [b,.l z c,.l r (Re g),.int way,.int p,.int other,.l false c] (λK j=>qp8 (d:=.l false c) (show Jo (.l z c)=_ from qi2 G.imms) j) ?_;obtain⟨m,rfl⟩:∃m:Nat,p=(m:Nat):=⟨p.toNat,⋯⟩;obtain⟨o,rfl⟩:∃o:Nat,other=(o:Nat):=⟨other.toNat,⋯⟩;have N:m<c.length:=⋯;have R:o<c.length:=⋯;have lt:=List.length_take_le m c;have ld:=zBx (i:=m) (l:=c);have X:=zBx (i:=m+1) (l:=c);refine qg2 (way==0) (Ae rfl rfl rfl) (λ_=>?_) λ_=>?_;{exact qg6 (.l false (c.take m++c.drop (m+1))) (Ae (x:=.l false (c.take m)) (y:=.l false (c.drop (m+1))) (by exact slT (z:=false) G) (by exact slF (z:=false) (m:=m+1) G) (M6 (G.take m) (G.drop _) (by rw[zB6];lia))) (q b _ B ((G.take m).app (G.drop _)) (by rw[zAf,zB6];lia))};refine qg2 (way==1) (Ae rfl rfl rfl) (λ_=>?_) λ_=>?_
 .have Gn:GoodL [.non]:=λy L=>by rw[zAg.mp L];exact⟨rfl,⟨_,rfl⟩,rfl,rfl⟩
  exact qg6 (.l false (c.take m++[.non]++c.drop m)) (Ae (x:=.l false (c.take m++[.non])) (y:=.l false (c.drop m)) (Ae (x:=.l false (c.take m)) (y:=.l false [.non]) (by exact slT (z:=false) G) rfl (M6 (G.take m) Gn (by rw[zB6];show _+1<=_;lia))) (by exact slF (z:=false) (m:=m) G) (M6 ((G.take m).app Gn) (G.drop _) (by rw[zAf,zB6];show _+1+_<=_;lia))) (q b _ B (((G.take m).app Gn).app (G.drop _)) (by rw[zAf,zAf,zB6];show _+1+_<=_;lia))
 refine qg2 (way==2) (Ae rfl rfl rfl) (λ_=>?_) λ_=>?_;{exact qg6 (.l false (c.drop m++c.take m)) (Ae (x:=.l false (c.drop m)) (y:=.l false (c.take m)) (by exact slF (z:=false) (m:=m) G) (by exact slT (z:=false) G) (M6 (G.drop _) (G.take m) (by rw[zB6];lia))) (q b _ B ((G.drop _).app (G.take m)) (by rw[zAf,zB6];lia))};have A:∀(d:D)(e:Ds),GoodL e->e.length=c.length->M5 d->GoodL (e.set m d)/\(e.set m d).length=c.length:=λd e Y Z h3=>⟨Y.set h3 m,by rw[zCo];exact Z⟩;refine qc0 (λf=>∃e,f=(qj3 z c r g way m o e b)/\GoodL e/\e.length=c.length) (λK j=>?_) ?_;{refine if_v (b:=way==3) (Ae rfl rfl rfl) (λ_=>?_) λ_=>j _ ⟨c,rfl,G,rfl⟩;have e1:c[o]?=some c[o]:=zBa R;have e2:c[m]?=some c[m]:=zBa N;have S:=G _ (Oz R);have U:=G _ (Oz N);have:=A c[o] c G rfl S;exact qaz3 (x:=c[o]) (y:=c[m]) (n:=m) (n':=o) (k:=(m:Nat)) (k':=(o:Nat)) (qaJ2 (Ae (x:=.l false c) (y:=.int (o:Nat)) rfl rfl (qM4 e1)) (Ae (x:=.l false c) (y:=.int (m:Nat)) rfl rfl (qM4 e2)) S.1 U.1) rfl rfl (ixm N) rfl rfl (ixm ⋯) (j _ ⟨_,rfl,this.1.set U o,by rw[zCo];exact this.2⟩)};rintro f ⟨e,rfl,Gx,u⟩;refine qc0 (λf=>∃b e,f=(qj3 z c r g way m o e b)/\Rp E b/\GoodL e/\e.length=c.length) (λK j=>?_) ?_
 .refine if_v (b:=way==4) (Ae rfl rfl rfl) (λ_=>?_) λ_=>j _ ⟨b,e,rfl,B,Gx,u⟩;have Gk:GoodL (Re g++[.int 7]):=GoodL.app (λy L=>by obtain⟨k,_,rfl⟩:=zAy.mp L;exact⟨rfl,⟨_,rfl⟩,rfl,rfl⟩) λy L=>by rw[zAg.mp L];exact⟨rfl,⟨_,rfl⟩,rfl,rfl⟩
  obtain⟨kl,O⟩:∃kl:Int,kl=((Re g).length:Nat):=⟨_,rfl⟩;have a2:(Re g).length=g.length:=by unfold Re;rw[zAk]
  refine qY2 (qt8 (x:=.l false (Re g++[.int 7])) (Ae (x:=.l r (Re g)) (y:=.l false [.int 7]) rfl rfl (M6 (xs:=Re g) (ys:=[.int 7]) (Gk.sub (Oj _ _)) (Gk.sub (List.sublist_append_right _ _)) (by unfold Re;rw[zAk];show _+1<=_;lia))) (qc6 (ds:=[b,.l z c,.l r (Re g),.int way,.int (m:Nat),.int (o:Nat),.l false e]) (m:=kl+1) rfl B (Ae (x:=.int kl) (y:=.int 1) (by rw[O];exact qk8 rfl) rfl rfl) ⋯ ⋯ λv t C H B'=>?_));obtain⟨d,hd,ed⟩:=qo3 (xs:=Re g++[.int 7]) (i:=v) C (by rw[zAf];show _<(((Re g).length+1:Nat):Int);lia);have:=A d e Gx u (Gk d hd);exact qa2 (a:=d) ed (qy7 (ys:=e) rfl rfl (ixm ⋯) (j _ ⟨t,_,rfl,B',this.1,this.2⟩))
 rintro f ⟨b,e,rfl,B,Gx,u⟩;refine qc0 (λf=>∃e,f=(qj3 z c r g way m o e b)/\GoodL e/\e.length=c.length) (λK j=>?_) ?_;{refine if_v (b:=way==5) (Ae rfl rfl rfl) (λ_=>?_) λ_=>j _ ⟨e,rfl,Gx,u⟩;have:=A .non e Gx u ⟨rfl,⟨_,rfl⟩,rfl,rfl⟩;exact qac1 (d:=.non) (n:=m) rfl rfl rfl (ixm ⋯) (j _ ⟨_,rfl,this.1,this.2⟩)};rintro f ⟨e,rfl,Gx,u⟩;refine qc0 (λf=>∃b e,f=(qj3 z c r g way m o e b)/\Rp E b/\GoodL e/\e.length=c.length) (λK j=>?_) ?_;{refine if_v (b:=way==6) (Ae rfl rfl rfl) (λ_=>?_) λ_=>j _ ⟨b,e,rfl,B,Gx,u⟩;refine qY2 (qc6 (ds:=[b,.l z c,.l r (Re g),.int way,.int (m:Nat),.int (o:Nat),.l false e]) rfl B rfl ∅ ∅ λv t C H B'=>?_);have:=A (.int v) e Gx u ⟨rfl,⟨_,rfl⟩,rfl,rfl⟩;exact qy7 (ys:=e) rfl rfl (ixm ⋯) (j _ ⟨t,_,rfl,B',this.1,this.2⟩)};rintro f ⟨b,e,rfl,B,Gx,u⟩;refine qc0 (λf=>∃b e,f=(qj3 z c r g way m o e b)/\Rp E b/\GoodL e/\e.length=c.length) (λK j=>?_) ?_;{refine if_v (b:=decide (6<way)) (Ae rfl rfl rfl) (λ_=>?_) λ_=>j _ ⟨b,e,rfl,B,Gx,u⟩;refine qY2 (qH8 (x:=b) (qc7 rfl B.known) ⟨b,E,rfl,B,λt d B' M=>qa2 (a:=(qj3 z c r g way m o e t)) rfl ?_⟩);have:=A d e Gx u ⟨M.im,M.kd,M.ok,M.fx⟩;exact qy7 (ys:=e) rfl rfl (ixm ⋯) (j _ ⟨t,_,rfl,B',this.1,this.2⟩)};rintro f ⟨b,e,rfl,B,Gx,u⟩;exact q b e B Gx ⋯
theorem qb9:qa9 ["_law_there", "_law_bag_here", "_law_plan", "_law_rooms", "_law_keys", "_law_wrong", "_law_some", "_law_turn", "_law_handed", "_law_fault_here", "_law_due"] ["_law_there", "_law_bag_here", "_law_plan", "_law_rooms", "_law_keys"] (qa4 qk3):=by walk_at "s"
theorem qy8{g:Nat->Option Int}:GoodL (Rf N g):=λy a=>by
 obtain⟨i,_,rfl⟩:=zAy.mp a;cases g i with
 |none=>exact⟨rfl,⟨_,rfl⟩,rfl,rfl⟩
 |some k=>exact⟨rfl,⟨_,rfl⟩,rfl,rfl⟩
theorem qaw8{z:Bool}(G:GoodL ys):gNe (.l z ys) (.l z' ys)=some (.bl false):=by show (Hm (eqN 20) ys ys).map (λb=>D.bl (!b))=_;rw[qn0 λy a=>qz3 (G y a).ok];rfl
def qM8(CP:γ)(n:Int)(wr:Bool)(ps:Pr):Ds:=[.non,.str "a",.int 5,.l true [],.q [Ra true CP n wr ps],.dct true []]
theorem qab2{CP:γ}{n:Int}{wr:Bool}{ps:Pr}(h:x∈qM8 CP n wr ps):x.imm=true/\x.known=true/\Ib CP x (.adr CP)=some (.bl false):=by
 have f:∀{x:D},x.isC CP=some (.bl false)->Ib CP x (.adr CP)=some (.bl false):=λh=>by show (if CP=CP then _ else none)=_;rw[if_pos rfl];exact h
 simp only[qM8,zAl,zB0,or_false] at h;rcases h with rfl|rfl|rfl|rfl|rfl|rfl;all_goals exact⟨rfl,rfl,f rfl⟩
def DueOk(n:Int)(wr:Bool)(ps:Pr)(ys:Ds)(d:D):Prop:=(qe3 n wr ps ys=.non/\(∃g,ys=Rf n.toNat g)/\d=.q [.str "told",.l true ys,.int 0])∨∃w,∃k:Nat,qe3 n wr ps ys=.q [.str w,.int (k:Nat)]/\d=.q [.str "unkept",.str w,.int (k:Nat)]
theorem qaT4{z:Bool}{g:Nat->Option Int}:eqT (.q [.str "told",.l z (Rf N g),.int 0]) (.q [.str "told",.l z' (Rf N g),.int 0])=some true:=by show ((some true).bind λa=>((Hm (eqN 19) (Rf N g) (Rf N g)).bind λb=>some (b&&true)).bind λb=>some (a&&b))=_;rw[qn0 λy c=>qz3 (n:=19) (by obtain⟨i,_,rfl⟩:=zAy.mp c;cases g i<;>rfl)];rfl
theorem qF8{C CP:γ}{n:Int}{wr:Bool}{ps:Pr}(D1:DueOk n wr ps ys d)(G:GoodL ys)(b:1<=n)(c:n<=64)(q:∀x,eqT x d=some true->Q x [Ra true CP n wr ps,.l z' ys]):qac4 C CP [Ra true CP n wr ps,.l z' ys] Q xe:=by refine⟨_,_,rfl,rfl,rfl,rfl,.inr ⟨n,wr,ps,rfl,b,c,.inr ⟨z',ys,rfl,λy a=>(G y a).kd,G.imms,λw k e=>?_,λg e f=>?_⟩⟩⟩;{obtain⟨h,_⟩|⟨i,j,h,rfl⟩:=D1;{rw[h] at e;cases e};rw[h] at e;cases e;exact q _ (qn0 λy a=>qz3 (n:=20) (by simp only[zAl,zB0,or_false] at a;rcases a with rfl|rfl|rfl<;>rfl))};obtain⟨_,_,rfl⟩|⟨i,j,h,_⟩:=D1;{subst e;exact q _ qaT4};rw[h] at f;cases f
theorem qF7(h:eqT x d=some true):gNe x d=some (.bl false):=by unfold gNe;rw[h];rfl
theorem qar8(h:eqT x d=some true):gEq x d=some (.bl true):=by unfold gEq;rw[h];rfl
theorem DueOk.known{n:Int}{wr:Bool}{ps:Pr}:DueOk n wr ps ys d->d.known=true|.inl ⟨_,_,e⟩=>e ▸ rfl|.inr ⟨_,_,_,e⟩=>e ▸ rfl
theorem qG8:∀{ys:Ds},GoodL ys->D.fzs ys=ys|[],_=>rfl|y::l,h=>by show y.fz::D.fzs l=_;rw[(h y zAb).fx,qG8 λz a=>h z (zA6 _ a)]
theorem qM3{g:D->Option D}(h:f ds=some y)(h':g y=some d):(f ds).bind g=some d:=by rw[h];exact h'
theorem qar0{n:Int}{wr:Bool}{ps:Pr}:DueOk n wr ps ys (.q [.str "told",.l true ys,.int 0])/\qe3 n wr ps ys=.non∨∃w,∃k:Nat,qe3 n wr ps ys=.q [.str w,.int (k:Nat)]/\DueOk n wr ps ys (.q [.str "unkept",.str w,.int (k:Nat)]):=by rcases qaj2 (n:=n) (wr:=wr) (ps:=ps) (ys:=ys) with h|⟨w,k,h⟩;{refine .inl ⟨.inl ⟨h,?_,rfl⟩,h⟩;unfold qe3 at h;by_cases a:ys.length=n.toNat;{rw[if_pos a] at h;obtain⟨g,e,_⟩:=qaj1 a h;exact⟨g,e⟩};rw[if_neg a] at h;cases h};exact .inr ⟨w,k,h,.inr ⟨w,k,h,rfl⟩⟩
def qA3(CP:γ):VSp:=λds Q _=>∃n wr ps ns b g z ks S,ds=[Ra true CP n wr ps,b,Af n wr ps,.l true (Rf n.toNat g),.l z (Re ks)]/\Rp ns b/\1<=n/\n<=64/\(ps.map (·.1)).Nodup/\ks.length<=500/\(∀k∈S,Ap k)/\Kept n.toNat wr (Rb n ps) g S/\∀a,Rp ns a->Q (.bl true) [Ra true CP n wr ps,a,Af n wr ps,.l true (Rf n.toNat g),.l z (Re ks)]
abbrev qa7(a:Adr)(n:Int)(wr:Bool)(ps:Pr) (g) (z) (ks) (p1 c d e f h b:D):=([Ra true a.Ca n wr ps,p1,Af n wr ps,.l true (Rf n.toNat g),.l z (Re ks),c,d,e,f,h,b]:Ds)
theorem qB2(T:Txt K mg a):VFn P w K mg base 13 a.f53 a.d53 ["_law_there", "_law_bag_here", "_law_plan", "_law_rooms", "_law_keys"] (qA3 a.Ca):=by
 refine VFn.mk2 T.d53.F qb9 (wOf [true,true,true,true,true]) (by walk_at "m") (by walk_at "l") (λ_ _ _ _ _ _ _ s=>⟨_,(Aa (Ak 5 qb9.nd (e2P (Av qb4) Am (Ie (vaV (Bl (qa3 Ax)) (vaV (Bl (qa3 A4)) (vaV (Bl (qa3 Ad)) (vaV (Bl (qa3 (Bj qa6))) (vaV (Bl (qa3 (Bk (qa0 (vnm 0) qa6 rfl)))) (vaV (Bl (qa3 vdct0)) Ab))))))) (Ah T.d37 (qb7 T) qa1 (rm s) (vaN 1 (vaV (qa3 Ad) Ab))))) (Aa (sif (q2v (A5 (qi7 s.u64) (qb0 _)) (Al (qi7 s.u64) (qb0 _)) B8 (Ah T.d49 (qs5 T) qa1 (rm s) (vaN 5 (vaV (e2P (Av qb4) Am (qa3 (Bj (qa0 (vnm 3) (qa0 Ad (qa0 Ax qa6 rfl) rfl) rfl))) (Ah T.d37 (qb7 T) qa1 (rm s) (vaN 1 (vaV (qa3 Ad) Ab)))) Ab))) (Bk (qa0 A4 (qa0 Ad (qa0 vbl qa6 rfl) rfl) rfl))) (Ag (An (qa3 vbl))) As) (Aa (sif (q2v (A5 (qi7 s.u64) (qb0 _)) (Al (qi7 s.u64) (qb0 _)) B8 (Ah T.d49 (qs5 T) qa1 (rm s) (vaN 0 (vaV (e2P (Av qb4) Am (Ie (vaV (Bl (qa3 A4)) (vaV (Bl (qa3 Ad)) (vaV (Bl (qa3 (Hq qM1 qaH5.ops T.Er (qa0 (vnm 3) qa6 rfl)))) (vaV (Bl (qa3 vdct0)) (vaV (Bl (qa3 vbl)) (vaV (Bl (qa3 vbl)) (vaV (Bl (qa3 Ad)) Ab)))))))) (Ah T.d37 (qb7 T) qa1 (rm s) (vaN 1 (vaV (qa3 Ad) Ab)))) Ab))) (Bk (qa0 A4 (qa0 Ad (qa0 vbl qa6 rfl) rfl) rfl))) (Ag (An (qa3 vbl))) As) (Aa (Ak 6 qb9.nd (qc4 (vnm 3))) (Aa (qE0 Qd T.Cq (Gy (vaV (qa3 Ad) Ab)) (Bf 7 qb9.nd) (Aa (Ak 6 qb9.nd (Bl (Ah T.d52 (qaf1 T) qa1 (rm s) (vaN 1 (vaV (eorM 6 (Ld (qa3 (Bj (qa0 Ax qa6 rfl))))) (vaN 4 Ab)))))) (Aa (Ak 8 qb9.nd (qa3 (Hq qf0 qz6.ops T.Cz (qa0 (vnm 6) qa6 rfl)))) (Aa (Ak 9 qb9.nd (Ah T.d48 (qao9 T) qa1 (rm s) (vaN 2 (vaN 6 Ab)))) (Aa (Ak 10 qb9.nd (qa3 (Bk (qa0 A4 (qa0 (vnm 6) (qa0 Ad qa6 rfl) rfl) rfl)))) (Aa (sif (q2 (Al qq1 (qb0 _)) qu4 (vnm 9) Ax) (Ag (Ak 10 qb9.nd (qa3 (v2 (Aj qaP3) qaO9 (Bk (qa0 A4 qa6 rfl)) (vnm 9))))) As) (Aa (sif (tor (q2v (A5 (qi7 s.u64) (qb0 _)) (Al (qi7 s.u64) (qb0 _)) B8 (Ah T.d49 (qs5 T) qa1 (rm s) (vaN 0 (vaN 8 Ab))) (vnm 10)) (Ho (q2 (Al (qi7 s.u64) (qb0 _)) B8 (vnm 8) (vnm 6)))).te (Ag (An (qa3 vbl))) As) (Aa (G4 (qc4 (vnm 3)) (gallV (vpn 8))) (Aa (sif (q2v (A5 (qi7 s.u64) (qb0 _)) (Al (qi7 s.u64) (qb0 _)) B8 (Ah T.d49 (qs5 T) qa1 (rm s) (vaN 0 (vaN 8 Ab))) (Bk (qa0 A4 (qa0 (vnm 3) (qa0 Ad qa6 rfl) rfl) rfl))) (Ag (An (qa3 vbl))) As) (Aa (G4 (qc4 (vnm 6)) (gallV (vpn 8))) (Ag (sif (q2v (A5 (qi7 s.u64) (qb0 _)) (Al (qi7 s.u64) (qb0 _)) B8 (Ah T.d49 (qs5 T) qa1 (rm s) (vaN 0 (vaN 8 Ab))) (vnm 10)) (Ag (An (qa3 vbl))) As)))))))))))) (Ag (An (e2v (A5 (qi8 s.u64) (qb0 _)) Bc (Ah T.d49 (qs5 T) qa1 (rm s) (vaN 0 (vaN 3 Ab))) (Bk (qa0 A4 (qa0 (vnm 3) (qa0 Ad qa6 rfl) rfl) rfl)))))))))),λp Q xe h=>?_⟩);obtain⟨n,wr,k,H,b,g,z,o,S,rfl,B,I,M,Z,N,hS,KP,q⟩:=h;have due0:DueOk n wr k (Rf n.toNat g) (.q [.str "told",.l true (Rf n.toNat g),.int 0]):=.inl ⟨by unfold qe3;rw[if_pos (by unfold Rf;rw[zAk,zBb])];exact qK6 I KP hS,⟨g,rfl⟩,rfl⟩;refine At (qa7 a n wr k g z o b .u .u .u .u .u .u) rfl ?_;refine qc0 (λp=>∃b w,p=(qa7 a n wr k g z o b w .u .u .u .u .u)/\Rp H b/\w.imm=true/\w.known=true/\Ib a.Ca w (.adr a.Ca)=some (.bl false)) (λK r=>?_) ?_;{refine qe6 (qam5 (qq4 ?_));refine qf2 (y:=.non) rfl ?_;refine qf2 (y:=.str "a") rfl ?_;refine qf2 (y:=.int 5) rfl ?_;refine qf2 (y:=.l false []) rfl ?_;refine qf2 (y:=.q [Ra true a.Ca n wr k]) rfl ?_;refine qf2 (y:=.dct false []) rfl ?_;refine qc2 ⟨by show 6<=1000000;decide,?_⟩;refine qc6 (ds:=[Ra true a.Ca n wr k,b,Af n wr k,.l true (Rf n.toNat g),.l z (Re o),.u,.u,.u,.u,.u,.u]) rfl B rfl ∅ ∅ λi u O R B'=>?_;obtain⟨d,A,U⟩:=qo3 (xs:=qM8 a.Ca n wr k) (i:=i) O R;rw[show (D.q [Ra true a.Ca n wr k]).fz=.q [Ra true a.Ca n wr k] from congrArg (λd=>D.q [d]) qai4];exact qa2 (a:=d) U (r _ ⟨u,d,rfl,B',qab2 A⟩)};rintro p ⟨b,w,rfl,B,wi,V,hw⟩;refine qc0 (λp=>∃b,p=(qa7 a n wr k g z o b w .u .u .u .u .u)/\Rp H b) (λK r=>?_) ?_;{refine qx4 (ql4 (qc1 (x:=w) (qc7 rfl V) (qf4 (qt8 (x:=.l false [.l true (Rf n.toNat g),.int 5,.non]) rfl (qc6 (ds:=[Ra true a.Ca n wr k,b,Af n wr k,.l true (Rf n.toNat g),.l z (Re o),w,.u,.u,.u,.u,.u]) rfl B rfl ∅ ∅ λi u O R B'=>?_)))));obtain⟨d,A,U⟩:=qo3 (xs:=([.l true (Rf n.toNat g),.int 5,.non]:Ds)) (i:=i) O R;refine qa2 (a:=d) U (qc2 (qa2 (a:=w) (qc7 rfl V) ⟨w,d,rfl,V,wi,?_,.inl ⟨hw,qa2 (a:=(qa7 a n wr k g z o u w .u .u .u .u .u)) rfl (qa2 (a:=D.bl false) rfl (qa2 (a:=false) rfl (r _ ⟨u,rfl,B'⟩)))⟩⟩));simp only[zAl,zB0,or_false] at A;rcases A with rfl|rfl|rfl<;>rfl};rintro p ⟨b,rfl,B⟩;refine qc0 (λp=>∃b,p=(qa7 a n wr k g z o b w .u .u .u .u .u)/\Rp H b) (λK r=>?_) ?_
 .refine qx4 (ql4 (qc1 (x:=Ra true a.Ca n wr k) rfl (qf4 (qam5 (qq4 ?_)))));refine qf2 (y:=.str "a") rfl ?_;refine qf2 (y:=.int 5) rfl ?_;refine qf2 (y:=.q (Rf n.toNat g)) (show gd (D.imms (Rf n.toNat g)=true) (.q (Rf n.toNat g))=_ from qi2 qy8.imms) ?_;refine qf2 (y:=.dct false []) rfl ?_;refine qf2 (y:=.bl true) rfl ?_;refine qf2 (y:=.bl false) rfl ?_;refine qf2 (y:=.int 0) rfl ?_;refine qc2 ⟨by show 7<=1000000;decide,?_⟩;refine qc6 (ds:=[Ra true a.Ca n wr k,b,Af n wr k,.l true (Rf n.toNat g),.l z (Re o),w,.u,.u,.u,.u,.u]) rfl B rfl ∅ ∅ λi u O R B'=>?_;obtain⟨d,A,U⟩:=qo3 (xs:=([.str "a",.int 5,.q (D.fzs (Rf n.toNat g)),.dct true [],.bl true,.bl false,.int 0]:Ds)) (i:=i) O R;have A:d.known=true/\d.isN=some false/\Jp d (.ty "list")=some (.bl false):=by simp only[zAl,zB0,or_false] at A;rcases A with rfl|rfl|rfl|rfl|rfl|rfl|rfl<;>exact⟨rfl,rfl,rfl⟩
  exact qa2 (a:=d) U (qc2 (qa2 (a:=Ra true a.Ca n wr k) rfl ⟨_,d,rfl,rfl,rfl,A.1,.inr ⟨n,wr,k,rfl,I,M,.inl ⟨A.2.1,A.2.2,qa2 (a:=(qa7 a n wr k g z o u w .u .u .u .u .u)) rfl (qa2 (a:=D.bl false) rfl (qa2 (a:=false) rfl (r _ ⟨u,rfl,B'⟩)))⟩⟩⟩))
 rintro p ⟨b,rfl,B⟩;refine qb3 (qa7 a n wr k g z o b w (.l true (Rf n.toNat g)) .u .u .u .u) (λK r=>qT7 rfl rfl r) ?_;have J:(Rf n.toNat g).length<=64:=by unfold Rf;rw[zAk,zBb];lia
 refine qc0 (λp=>∃b y t h f d,p=(qa7 a n wr k g z o b w y t h f d)/\Rp H b) (λK r=>qv6 rfl rfl (qf7 (λi p=>∃b C t h f d,p=(qa7 a n wr k g z o b w (.l true C) t h f d)/\Rp H b/\GoodL C/\C.length<=64+i) _ 0 _ ⟨b,_,_,_,_,_,rfl,B,qy8,J⟩ ?_ λp ⟨b,C,t,h,f,d,e,B,_⟩=>r _ ⟨b,_,t,h,f,d,e,B⟩)) ?_
 .rintro j x E p ⟨b,C,t,h,f,d,rfl,B,G,hl⟩ K2 W;have hj:j<3:=(zA5.mp E).1;refine qp5 (At (qa7 a n wr k g z o b w (.l true C) x h f d) rfl ?_);refine qc0 (λp=>∃b c,p=(qa7 a n wr k g z o b w (.l true c) x h f d)/\Rp H b/\GoodL c/\c.length<=65+j) (λK r=>?_) ?_;{refine qe6 (I8 (ql4 (qc1 (x:=b) (qc7 rfl B.known) (qf4 ⟨true,C,rfl,?_⟩))));by_cases X:C=[];{subst X;rw[if_pos rfl];refine qm4 (d:=.l false [.non]) rfl (qc1 (x:=.l z (Re o)) rfl (qc2 (qa2 (a:=.l z (Re o)) rfl (qa2 (a:=b) (qc7 rfl B.known) ⟨H,b,false,[.non],z,o,rfl,B,λy Y=>by rw[zAg.mp Y];exact⟨rfl,⟨_,rfl⟩,rfl,rfl⟩,nofun,∅,N,λu c B' G' L=>qa2 (a:=(qa7 a n wr k g z o u w (.l true []) x h f d)) rfl ?_⟩))));rw[show (D.l false c).fz=.l true c from congrArg _ (qG8 G')];exact r _ ⟨u,c,rfl,B',G',zA7 L (by show 2<=_;lia)⟩};rw[if_neg X];refine qc1 (x:=.l z (Re o)) rfl (qc2 (qa2 (a:=.l z (Re o)) rfl (qa2 (a:=b) (qc7 rfl B.known) ⟨H,b,true,C,z,o,rfl,B,G,X,⋯,N,λu c B' G' L=>qa2 (a:=(qa7 a n wr k g z o u w .u x h f d)) rfl ?_⟩)));rw[show (D.l false c).fz=.l true c from congrArg _ (qG8 G')];exact r _ ⟨u,c,rfl,B',G',⋯⟩};rintro p ⟨b,c,rfl,B,G',L⟩;refine qb3 (qa7 a n wr k g z o b w (.l true c) x (.l false c) f d) (λK r=>qp8 (d:=.l false c) (show Jo (.l true c)=_ from qi2 G'.imms) r) ?_;refine qb3 (qa7 a n wr k g z o b w (.l true c) x (.l false c) (qe3 n wr k c) d) (λK r=>qe6 (qF9 (x:=Af n wr k) (y:=.l true c) rfl rfl rfl ⟨n,wr,k,true,c,rfl,I,M,Z,λy Y=>(G' y Y).kd,G'.imms,rfl⟩ rfl r)) ?_;refine qb3 (qa7 a n wr k g z o b w (.l true c) x (.l false c) (qe3 n wr k c) (.q [.str "told",.l true c,.int 0])) (λK r=>qp8 (d:=.q [.str "told",.l true c,.int 0]) rfl r) ?_;refine qc0 (λp=>∃d,p=(qa7 a n wr k g z o b w (.l true c) x (.l false c) (qe3 n wr k c) d)/\DueOk n wr k c d) (λK r=>?_) ?_
  .rcases qar0 (n:=n) (wr:=wr) (ps:=k) (ys:=c) with⟨D1,e⟩|⟨w',k',e,D1⟩
   .refine if_v (b:=false) ?_ nofun λ_=>r _ ⟨_,rfl,D1⟩
    rw[e];rfl
   refine if_v (b:=true) ?_ (λ_=>?_) nofun
   {rw[e];rfl};refine qp8 (d:=.q [.str "unkept",.str w',.int (k':Nat)]) ?_ (r _ ⟨_,rfl,D1⟩);rw[e];rfl
  rintro p ⟨d,rfl,D1⟩;refine qc8 false (λQ q=>qh7 false false (λQ q=>qx4 (qS6 (x:=Ra true a.Ca n wr k) (y:=.l false c) rfl rfl rfl (qF8 D1 G' I M λv E=>qa2 (a:=(qa7 a n wr k g z o b w (.l true c) x (.l false c) (qe3 n wr k c) d)) rfl (qa2 (a:=D.bl false) (qM3 (y:=d) (qc7 rfl D1.known) (qF7 E)) (qa2 (a:=false) rfl q))))) (λ_ Q q=>qf8 (Ae (x:=.l false c) (y:=.l true c) rfl rfl (qaw8 G')) q) q) nofun λ_=>?_
  refine qb3 (qa7 a n wr k g z o b w (.l true c) x (rL n g) (qe3 n wr k c) d) (λK r=>qy6 (d:=.l true (Rf n.toNat g)) rfl rfl (qa2 (a:=(8,[])) rfl (qa2 (a:=c) rfl (qa2 (a:=Rf n.toNat g) rfl ⟨qy8.imms,zA7 (Nat.add_le_add (show c.length<=100 by lia) (zA7 J (show 64<=100 by decide))) ∅,r⟩)))) ?_;refine qc8 false (λQ q=>qx4 (qS6 (x:=Ra true a.Ca n wr k) (y:=rL n g) rfl rfl rfl (qF8 due0 qy8 I M λv E=>qa2 (a:=(qa7 a n wr k g z o b w (.l true c) x (rL n g) (qe3 n wr k c) d)) rfl (qa2 (a:=D.bl false) (qM3 (y:=.q [.str "told",.l true (Rf n.toNat g),.int 0]) rfl (qF7 E)) (qa2 (a:=false) rfl q))))) nofun λ_=>?_
  refine qb3 (qa7 a n wr k g z o b w (.l true c) x (.l false c) (qe3 n wr k c) d) (λK r=>qy6 (d:=.l true c) rfl rfl (qa2 (a:=(8,[])) rfl (qa2 (a:=Rf n.toNat g) rfl (qa2 (a:=c) rfl ⟨G'.imms,zA7 (Nat.add_le_add (zA7 J (show 64<=100 by decide)) (show c.length<=100 by lia)) ∅,r⟩)))) ?_;exact qx4 (qS6 (x:=Ra true a.Ca n wr k) (y:=.l false c) rfl rfl rfl (qF8 D1 G' I M λv E=>qa2 (a:=(qa7 a n wr k g z o b w (.l true c) x (.l false c) (qe3 n wr k c) d)) rfl (qa2 (a:=D.bl false) (qM3 (y:=d) (qc7 rfl D1.known) (qF7 E)) (qa2 (a:=false) rfl (W _ ⟨b,c,_,_,_,_,rfl,B,G',⋯⟩)))))
 rintro p ⟨b,y,t,h,f,d,rfl,B⟩;exact qk5 (qI2 (qS6 (x:=Ra true a.Ca n wr k) (y:=.l true (Rf n.toNat g)) rfl rfl rfl (qF8 due0 qy8 I M λv E=>qa2 (a:=(qa7 a n wr k g z o b w y t h f d)) rfl (qa2 (a:=D.bl true) (qM3 (y:=.q [.str "told",.l true (Rf n.toNat g),.int 0]) rfl (qar8 E)) (q b B)))))
theorem qr3:qa9 ["_law_script", "_law_bag_here", "_law_plan", "_law_keys", "_law_rooms", "_law_there", "_law_row", "_law_key", "_law_held", "_law_turn", "_law_odd_here", "_law_way"] ["_law_script"] (qa4 Jw):=by walk_at "s"
theorem qaq2{wr:Bool}{hm:Int->Nat}{g:Nat->Option Int}(b:0<N)(a:∀k,hm k<N)(h:∀i k,g i=some k->hm k=i)(H:Holds N g S):Kept N wr hm g S:=⟨⟨a,λi j k _ _ e c=>(h i k e).symm.trans (h j k c),λi k d e f=>absurd ((qg5 (a k) d).mpr (h i k e).symm) (Nat.ne_of_gt f)⟩,⟨0,b,λk e=>h 0 k e⟩,H,λ_ i x _ e=>zC7 (h i x e)⟩
theorem qaE9{n:Int}{wr:Bool}(m:Nat)(a:1<=n)(hm:(m:Int)<=n)(b:S=(Ob m).map λ(i:Nat)=>(i:Int))(c:S.Nodup):Kept n.toNat wr (Rb n []) (λi=>if i<m then some (i:Int) else none) S:=by refine qaq2 ⋯ (G0 a) (λi k e=>?_) ⟨c,λk=>?_⟩;{split at e;{cases e;show ((i:Int)%n).toNat=i;rw[zBm ⋯ ⋯];rfl};cases e};subst b;simp only[zAy,zAm];constructor;{rintro⟨i,d,rfl⟩;exact⟨i,⋯,if_pos d⟩};rintro⟨i,_,e⟩;split at e;{rename_i h;cases e;exact⟨i,h,rfl⟩};cases e
theorem qaK9{g:Nat->Option Int}(h:Gb N g k=.int (j:Nat)):j<N/\g j=some k:=by unfold Gb at h;cases e:He N g k with|none=>rw[e] at h;cases h|some i=>rw[e] at h;have h:=h;injection h with h;have h:i=j:=⋯;subst h;obtain⟨a,b,_⟩:=List.findIdx?_eq_some_iff_getElem.mp e;rw[zBb] at a;rw[List.getElem_range] at b;exact⟨a,zAe b⟩
theorem qau4{g:Nat->Option Int}(hi:i<N)(e:g i=some k)(inj:∀i j x,i<N->j<N->g i=some x->g j=some x->i=j):Gb N g k=.int (i:Nat):=by obtain⟨j,a⟩:=qan9 hi e;obtain⟨b,c⟩:=qaK9 a;rw[a,inj i j k hi b e c]
theorem fz_rl{z:Bool}{g:Nat->Option Int}:(D.l z (Rf N g)).fz=.l true (Rf N g):=congrArg (D.l true) (qG8 qy8)
theorem qaF5{t:VT}{n:VTS}(h:t ds (λd a=>orF d.asB λk=>if (!k)=true then n e a else e.nx a) e.xe):sIf (Gr (ttE t)) n Jt e ds:=h
noncomputable def Bd:Ds:=[.q [.str "put",.int 0],.q [.str "put",.int 1]]
abbrev qi5 (u) (n:Int) (wr:Bool) (ps:Pr) (g0) (a:Adr) (p1 d e f g h b c:D):=([D.hole u,p1,Af n wr ps,d,.l true (Rf n.toNat g0),Ra true a.Ca n wr ps,e,f,g,h,b,c]:Ds)
theorem qba3(T:Txt K mg a):Gv P w K mg base (CX1 P w) 14 a.f54 a.d54 ["_law_script"] (Km K):=by refine T.d54.F.okX qr3 (λvs H Q E h=>?_) (λa0 A outer s H vs Q E I h=>?_);{obtain⟨l,ns,rfl,_⟩:=h;rfl};obtain⟨l,ns,rfl,hS,hl,k⟩:=h;refine⟨_,qQ0 (sset 1 qr3.nd (callD T.d36 (qaP4 T) (rm I) (qf6 (pv 0) qu3))) (show VSs ⟨λ_=>E,λ_=>false,Oa 12 none,[]⟩ (Ha true (CX1 P w) P w K mg base ["_law_script", "_law_bag_here", "_law_plan", "_law_keys", "_law_rooms", "_law_there", "_law_row", "_law_key", "_law_held", "_law_turn", "_law_odd_here", "_law_way"] "law" (qa4 Jw) a.f54 a0 A outer s H E) _ _ from(Aa (G4 (Ah T.d44 (qap0 T) qa1 (rm I) (vaN 1 (vaV (qa3 Ad) Ab))) (Kw (n:=2) rfl (qL3 (Bf 2 qr3.nd) (qL3 (Bf 3 qr3.nd) Ku)))) (Aa (Ak 3 qr3.nd (Ah T.d45 (qaa3 T) qa1 (rm I) (vaN 2 (vaN 3 Ab)))) (Aa (Ak 4 qr3.nd (Bl (Ah T.d42 (qJ8 T) qa1 (rm I) (vaN 2 (vaN 3 Ab))))) (Aa (Ak 5 qr3.nd (Bl (emake T.Ce T.Em T.d10 (qx7 T) qa1 (rm I) (vaV (qc4 (v2 (Av qb4) Am (vnm 2) Ad)) (vaV (qc4 (v2 (Av qb4) Am (vnm 2) Ad)) (vaV (qa3 (Hq qf0 qz6.ops T.Cz (qa0 (v2 (Av qb4) Am (vnm 2) Ad) qa6 rfl))) Ab)))))) (Aa (sif (Bn (te (Ah T.d53 (qB2 T) qa1 (rm I) (vaN 5 (vaN 1 (vaN 2 (vaN 4 (vaN 3 Ab)))))))) (Ag (An (qa3 vbl))) As) (Aa (Ak 6 qr3.nd (qaT5 T.Ci T.Fh T.d27 (qC2 T) qa1 (rm I) (vaV (Bl (emake T.Ce T.Em T.d10 (qx7 T) qa1 (rm I) (vaV (qa3 (v2 (Aj qe5) qe4 Ad (v2 (Aj ql6) ql5 (v2 (Av qb4) Am (vnm 2) Ad) Ad))) (vaV (qc4 (v2 (Av qb4) Am (vnm 2) Ad)) (vaV (qa3 (Bj qa6)) Ab))))) (vaV (qa3 Ax) Ab)))) (Aa (sforT Qd (qa3 (Bk (qa0 Ad (qa0 Ad qa6 rfl) rfl))) (Bf 7 qr3.nd) (Ag (Fy (qj5 6 T.d32 T.Ci.cl (qJ7 T) qa1 (rm I) (vaN 7 Ab))))) (Aa (Ak 8 qr3.nd (qL7 6 T.d28 T.Ci.cl (qh0 T) qa1 (rm I))) (Aa (qE0 Qd T.Cq (Gy (vaV (qa3 Ad) Ab)) (Bf 9 qr3.nd) (Aa (Ak 10 qr3.nd (Ah T.d51 (qav4 T) qa1 (rm I) (vaN 1 Ab))) (Aa (qE0 Qd T.Cq (Gy (vaV (qa3 Ad) Ab)) (Bf 11 qr3.nd) (Ag (sif (q2v (A5 (qi7 I.u64) (qb0 _)) (Al (qi7 I.u64) (qb0 _)) B8 (Ah T.d50 (qap1 T) qa1 (rm I) (vaN 6 (vaN 11 (vaN 10 Ab)))) (Bk (qa0 A4 (qa0 Ad (qa0 vbl qa6 rfl) rfl) rfl))) (Ag (An (qa3 vbl))) As))) (Ag (sif (tor (q2v (A5 (qi7 I.u64) (qb0 _)) (Al (qi7 I.u64) (qb0 _)) B8 (qL7 6 T.d28 T.Ci.cl (qh0 T) qa1 (rm I)) (vnm 8)) (Ho (q2v (A5 (qi7 I.u64) (qb0 _)) (Al (qi7 I.u64) (qb0 _)) B8 (qL7 6 T.d34 T.Ci.cl (qQ6 T) qa1 (rm I)) (Bj (qa0 (Bk (qa0 A4 (qa0 Ad qa6 rfl) rfl)) (qa0 (Bk (qa0 A4 (qa0 Ad qa6 rfl) rfl)) qa6 rfl) rfl))))).te (Ag (An (qa3 vbl))) As))))) (Ag (An (Jq (e2v (A5 (qi8 I.u64) (qb0 _)) Bc (qj5 6 T.d31 T.Ci.cl (qd9 T) qa1 (rm I) (vaV (qa3 Ad) Ab)) Ad) (Jq (e2v (A5 (qi8 I.u64) (qb0 _)) Bc (qj5 6 T.d31 T.Ci.cl (qd9 T) qa1 (rm I) (vaV (qa3 Ad) Ab)) Ad) (Ld (e2v (A5 Gd (qb0 _)) Gc (qj5 6 T.d31 T.Ci.cl (qd9 T) qa1 (rm I) (vaV (qa3 Ad) Ab)) Ax)))))))))))))))).h,?_⟩;refine⟨_,rfl,l,ns,rfl,hS,hl,λp L H' hp hL kp B=>?_⟩;obtain⟨x,y,z,J,B⟩:=B;refine qap9 (rest:=[]) (X:=Ha true (CX1 P w) P w K mg base [] "law" (qa4 Jw) a.f54 a0 A outer s H E) (n:=10) (x:=x) (y:=y) (z:=z) (ns:=J) rfl (λ_=>rfl) rfl B.at_ B.li B.ne (λH'=>k H') ?_;have B0:Rp J (bagD x y z J):=⟨x,y,z,rfl,B.x0,B.y0,B.y1,B.z0,B.nn⟩;generalize bagD x y z J=b at B0;generalize V.ref l=u;refine At [D.hole u,b,.u,.u,.u,.u,.u,.u,.u,.u,.u,.u] rfl ?_;refine qc0 (λv=>∃b n wr f R,v=[D.hole u,b,Af n wr f,kL R,.u,.u,.u,.u,.u,.u,.u,.u]/\Rp J b/\1<=n/\n<=64/\L7 f/\R.Nodup/\(∀k∈R,Ap k)/\R.length<=66) (λK M=>?_) ?_;{refine qY2 (ql4 (qc1 (x:=b) (qc7 rfl B0.known) (qe1 (y:=.int 64) rfl (qc2 (qa2 (a:=b) (qc7 rfl B0.known) ?_)))));exact⟨b,64,J,rfl,B0,∅,∅,λW n wr f R B' n1 n2 G nd hk U=>qa2 (a:=[D.hole u,W,.u,.u,.u,.u,.u,.u,.u,.u,.u,.u]) rfl (qR6 (M _ ⟨W,n,wr,f,R,rfl,B',n1,n2,G,nd,hk,U⟩))⟩};rintro v ⟨b,n,wr,f,R,rfl,B,n1,n2,G,nd,hk,U⟩;refine qc0 (λv=>∃S:List Int,v=[D.hole u,b,Af n wr f,kL S,.u,.u,.u,.u,.u,.u,.u,.u]/\S.Sublist R/\∀q,¬Crowd n.toNat wr (Rb n f) S q) (λK M=>qe6 (qS6 (x:=Af n wr f) (y:=kL R) rfl rfl rfl ⟨n,wr,f,false,R,rfl,n1,n2,G.nd,nd,⋯,λS h nc=>qa2 (a:=[D.hole u,b,Af n wr f,kL R,.u,.u,.u,.u,.u,.u,.u,.u]) rfl (M _ ⟨S,rfl,h,nc⟩)⟩)) ?_;rintro v ⟨S,rfl,sub,nc⟩;replace hk:∀x∈S,Ap x:=λx hx=>hk x (sub.subset hx);replace nd:=nd.sublist sub;replace U:=zA7 sub.length_le U;refine qc0 (λv=>∃C,v=[D.hole u,b,Af n wr f,kL S,.l true (Rf n.toNat C),.u,.u,.u,.u,.u,.u,.u]/\Kept n.toNat wr (Rb n f) C S) (λK M=>?_) ?_;{refine qe6 (I8 (qS6 (x:=Af n wr f) (y:=kL S) rfl rfl rfl ⟨n,wr,f,false,S,rfl,n1,n2,G.nd,nd,⋯,λ⟨q,c⟩=>absurd c (nc q),λ_ g Kg=>qa2 (a:=[D.hole u,b,Af n wr f,kL S,.u,.u,.u,.u,.u,.u,.u,.u]) rfl ?_⟩));rw[fz_rl];exact M _ ⟨g,rfl,Kg⟩};rintro v ⟨C,rfl,Kg⟩;refine qb3 (qi5 u n wr f C a b (kL S) .u .u .u .u .u .u) (λK M=>qe6 (I8 (qU9 (qh8 (y:=.int n) rfl rfl (qh8 (y:=.bl wr) rfl rfl (qe1 (y:=.l false (Rg f)) (qav8 (z:=true)) (qc2 ⟨n,wr,false,f,rfl,n1,n2,G,rfl,qa2 (a:=Ra false a.Ca n wr f) rfl (qa2 (a:=[D.hole u,b,Af n wr f,kL S,.l true (Rf n.toNat C),.u,.u,.u,.u,.u,.u,.u]) rfl ?_)⟩))))))) ?_;{rw[qai4];exact M};refine qc0 (λv=>∃b,v=(qi5 u n wr f C a b (kL S) .u .u .u .u .u .u)/\Rp J b) (λK M=>?_) ?_;{refine qaF5 (ql4 (qc1 (x:=Ra true a.Ca n wr f) rfl (qc1 (x:=b) (qc7 rfl B.known) (qc1 (x:=Af n wr f) rfl (qc1 (x:=.l true (Rf n.toNat C)) rfl (qc1 (x:=kL S) rfl (qc2 (qa2 (a:=kL S) rfl (qa2 (a:=.l true (Rf n.toNat C)) rfl (qa2 (a:=Af n wr f) rfl (qa2 (a:=b) (qc7 rfl B.known) (qa2 (a:=Ra true a.Ca n wr f) rfl ?_))))))))))));exact⟨n,wr,f,J,b,C,false,S,S,rfl,B,n1,n2,G.nd,⋯,hk,Kg,λW B'=>qa2 (a:=(qi5 u n wr f C a W (kL S) .u .u .u .u .u .u)) rfl (qa2 (a:=true) rfl (M _ ⟨W,rfl,B'⟩))⟩};rintro v ⟨b,rfl,B⟩;obtain⟨m,hm⟩:∃m:Int,m=2+n%62:=⟨_,rfl⟩;have Y:1<=m:=⋯;have m2:m<=64:=⋯;have a4:2<=m:=⋯;refine qb3 [D.hole u,b,Af n wr f,kL S,.l true (Rf n.toNat C),Ra true a.Ca n wr f,rA a m wr [] (λ_=>none) [],.u,.u,.u,.u,.u] (λK M=>qe6 (qU9 (qf4 (I8 (qU9 (qe1 (y:=.int m) (by rw[hm];rfl) (qh8 (y:=.bl wr) rfl rfl (qe1 (y:=.l false []) rfl (qc2 ⟨m,wr,false,[],rfl,Y,m2,⟨∅,∅,nofun⟩,rfl,qa2 (a:=Ra false a.Ca m wr []) rfl (qa2 (a:=(qi5 u n wr f C a b (kL S) .u .u .u .u .u .u)) rfl ?_)⟩))))))))) ?_;{rw[qai4];exact qe1 (y:=.non) rfl (qc2 ⟨_,_,rfl,rfl,rfl,rfl,.inr ⟨m,wr,[],rfl,Y,m2,.inr (.inl ⟨rfl,rfl,qa2 (a:=rA a m wr [] (λ_=>none) []) rfl (qa2 (a:=(qi5 u n wr f C a b (kL S) .u .u .u .u .u .u)) rfl M)⟩)⟩⟩)};refine qc0 (λv=>∃g O,v=(qi5 u n wr f C a b (kL S) (rA a m wr [] g Bd) O .u .u .u .u)/\Kept m.toNat wr (Rb m []) g [0,1]) (λK M=>qm4 (d:=.q [.int 0,.int 1]) rfl (qa2 (a:=[.int 0,.int 1]) rfl ⟨rfl,?_⟩)) ?_;{refine qp5 (qz1 (qn4 (p:=rA a m wr [] (λ_=>none) []) rfl (qh2 rfl) (qc1 (x:=.int 0) rfl (qc2 (qa2 (a:=.int 0) rfl (qa2 (a:=rA a m wr [] (λ_=>none) []) rfl ⟨m,wr,[],(λ_=>none),[],.int 0,_,rfl,rfl,.inr ⟨[],0,rfl,Y,m2,⟨∅,∅⟩,nofun,Kept.none ⋯ (G0 Y),∅,λq=>(qaE9 1 Y ⋯ rfl ∅).no_crowd q,∅,λcame g1 K1=>qa2 (a:=(qi5 u n wr f C a b (kL S) (rA a m wr [] g1 ([]++[.q [.str "put",.int 0]])) (.int 0) .u .u .u .u)) rfl ?_⟩⟩))))));exact qp5 (qz1 (qn4 (p:=rA a m wr [] g1 [.q [.str "put",.int 0]]) rfl (qh2 rfl) (qc1 (x:=.int 1) rfl (qc2 (qa2 (a:=.int 1) rfl (qa2 (a:=rA a m wr [] g1 [.q [.str "put",.int 0]]) rfl ⟨m,wr,[],g1,[.q [.str "put",.int 0]],.int 1,_,rfl,rfl,.inr ⟨[0],1,rfl,Y,m2,⟨∅,∅⟩,(λx hx=>by rw[zAg.mp hx];exact⟨∅,∅⟩),K1,∅,λq=>(qaE9 2 Y ⋯ rfl ∅).no_crowd q,∅,λcame g2 K2=>qa2 (a:=(qi5 u n wr f C a b (kL S) (rA a m wr [] g2 ([.q [.str "put",.int 0]]++[.q [.str "put",.int 1]])) (.int 1) .u .u .u .u)) rfl (M _ ⟨g2,_,rfl,K2⟩)⟩⟩))))))};rintro v ⟨g,O,rfl,K2⟩;have same:=λj hj=>K2.same (qaE9 (wr:=wr) 2 Y ⋯ rfl ∅) (λ_=>Iff.rfl) j hj;have r0:Gb m.toNat g 0=.int 0:=qau4 (i:=0) ⋯ (same 0 ⋯) K2.o.inj;have r1:Gb m.toNat g 1=.int 1:=qau4 (i:=1) ⋯ (same 1 ⋯) K2.o.inj;have r2:Gb m.toNat g 2=.non:=qT8 λi hi e=>absurd ((K2.h.2 2).mpr ⟨i,hi,e⟩) ∅;refine qb3 (qi5 u n wr f C a b (kL S) (rA a m wr [] g Bd) O (.l false (Rf m.toNat g)) .u .u .u) (λK M=>qe6 (Mx (p:=rA a m wr [] g Bd) (d:=.l false (Rf m.toNat g)) rfl (qh2 rfl) ⟨false,m,wr,[],g,Bd,rfl,rfl⟩ rfl M)) ?_;refine qc0 (λv=>∃b Z N r,v=(qi5 u n wr f C a b (kL S) (rA a m wr [] g Bd) O (.l false (Rf m.toNat g)) Z N r)/\Rp J b) (λK M=>qv6 rfl rfl (qf7 (λi v=>∃b Z N r,v=(qi5 u n wr f C a b (kL S) (rA a m wr [] g Bd) O (.l false (Rf m.toNat g)) Z N r)/\Rp J b) _ 0 _ ⟨b,_,_,_,rfl,B⟩ ?_ λv h=>M _ h)) ?_;{rintro j x hx v ⟨b,Z,N,r,rfl,B⟩ K2 a1;refine qp5 (At (qi5 u n wr f C a b (kL S) (rA a m wr [] g Bd) O (.l false (Rf m.toNat g)) x N r) rfl ?_);refine qc0 (λv=>∃b d,v=(qi5 u n wr f C a b (kL S) (rA a m wr [] g Bd) O (.l false (Rf m.toNat g)) x d r)/\Rp J b/\Odd d) (λK M=>qe6 (qH8 (x:=b) (qc7 rfl B.known) ⟨b,J,rfl,B,λW d B' od=>qa2 (a:=(qi5 u n wr f C a W (kL S) (rA a m wr [] g Bd) O (.l false (Rf m.toNat g)) x N r)) rfl (M _ ⟨W,d,rfl,B',od⟩)⟩)) ?_;rintro v ⟨b,d,rfl,B,od⟩;obtain⟨t,ht⟩:=od.kd;refine qc0 (λv=>∃r,v=(qi5 u n wr f C a b (kL S) (rA a m wr [] g Bd) O (.l false (Rf m.toNat g)) x d r)) (λK M=>qv6 rfl rfl (qf7 (λi v=>∃r,v=(qi5 u n wr f C a b (kL S) (rA a m wr [] g Bd) O (.l false (Rf m.toNat g)) x d r)) _ 0 _ ⟨_,rfl⟩ ?_ λv h=>M _ h)) ?_;{rintro j' x' a2 v ⟨r,rfl⟩ K3 a3;obtain⟨_,rfl⟩:=qP9 a2;refine qp5 (At (qi5 u n wr f C a b (kL S) (rA a m wr [] g Bd) O (.l false (Rf m.toNat g)) x d (.int (j':Nat))) rfl ?_);exact qx4 (qaU4 (x:=rA a m wr [] g Bd) (y:=.int (j':Nat)) (w:=d) rfl rfl (qc7 rfl (qd4 ht)) rfl rfl ⟨m,wr,[],g,Bd,_,d,t,rfl,ht,od.nn,qa2 (a:=(qi5 u n wr f C a b (kL S) (rA a m wr [] g Bd) O (.l false (Rf m.toNat g)) x d (.int (j':Nat)))) rfl (qa2 (a:=D.bl false) rfl (qa2 (a:=false) rfl (a3 _ ⟨_,rfl⟩)))⟩)};rintro v ⟨r,rfl⟩;exact qh7 false false (λQ q=>qx4 (Mx (p:=rA a m wr [] g Bd) (d:=.l false (Rf m.toNat g)) rfl (qh2 rfl) ⟨false,m,wr,[],g,Bd,rfl,rfl⟩ rfl (qa2 (a:=D.bl false) (qM3 (y:=.l false (Rf m.toNat g)) rfl (qaw8 qy8)) (qa2 (a:=false) rfl q)))) (λ_ Q q=>qx4 (Mx (p:=rA a m wr [] g Bd) (d:=.l false Bd) rfl (qh2 rfl) ⟨false,m,wr,[],g,Bd,rfl,rfl,rfl⟩ rfl (qa2 (a:=D.bl false) rfl (qa2 (a:=false) rfl q)))) (a1 _ ⟨b,_,_,_,rfl,B⟩)};rintro v ⟨b,Z,N,r,rfl,B⟩;exact qk5 (qaU9 (qI2 (qn4 (p:=rA a m wr [] g Bd) rfl (qh2 rfl) (qe1 (y:=.int 0) rfl (qc2 (qa2 (a:=rA a m wr [] g Bd) rfl ⟨false,m,wr,[],g,Bd,.int 0,_,rfl,rfl,(λh=>absurd h ∅),(λk e _=>by cases e;rw[r0];exact qa2 (a:=(qi5 u n wr f C a b (kL S) (rA a m wr [] g Bd) O (.l false (Rf m.toNat g)) Z N r)) rfl (qa2 (a:=D.bl true) rfl (qa2 (a:=true) rfl (qaU9 (qI2 (qn4 (p:=rA a m wr [] g Bd) rfl (qh2 rfl) (qe1 (y:=.int 1) rfl (qc2 (qa2 (a:=rA a m wr [] g Bd) rfl ⟨false,m,wr,[],g,Bd,.int 1,_,rfl,rfl,(λh=>absurd h ∅),(λk e _=>by cases e;rw[r1];exact qa2 (a:=(qi5 u n wr f C a b (kL S) (rA a m wr [] g Bd) O (.l false (Rf m.toNat g)) Z N r)) rfl (qa2 (a:=D.bl true) rfl (qa2 (a:=true) rfl (qI2 (qn4 (p:=rA a m wr [] g Bd) rfl (qh2 rfl) (qe1 (y:=.int 2) rfl (qc2 (qa2 (a:=rA a m wr [] g Bd) rfl ⟨false,m,wr,[],g,Bd,.int 2,_,rfl,rfl,(λh=>absurd h ∅),(λk e _=>by cases e;rw[r2];exact qa2 (a:=(qi5 u n wr f C a b (kL S) (rA a m wr [] g Bd) O (.l false (Rf m.toNat g)) Z N r)) rfl (qa2 (a:=D.bl true) rfl rfl))⟩))))))))⟩)))))))))⟩))))))
end
theorem dfX{x:Str}{f:γ}{m:Array (Option V')}{kV e i d j:V'}(X:K.In h)(G:h.Ns Nh mg)(a:W.nsIn K Nh x=some (some (.ref f)))(l:K.lookup f=some ⟨oc,od,.func (W.fnOf x qual (qf9 st) (qd6 st) (qa4 st) .none kV e i g d j),m⟩)(c:W.codeIn K d qual=true)(k:W.keepIn K (.ref f)=true)(b:∀(kV e i:V')(g:Option γ)(d j:V')(us:List V'),us.length=ps.length->bindArgs (W.fnOf x qual (qf9 st) (qd6 st) (qa4 st) .none kV e i g d j) ⟨us,[]⟩=pure (ps.zip us)):Df K mg x qual st f (W.fnOf x qual (qf9 st) (qd6 st) (qa4 st) .none kV e i g d j) ps:=dfmk l c k (W.mg_of X G a) b
theorem qbe4{l:W.OpenLaw}{w:Nw}{K:Qe}{mg:Str->Option V'}{fa f0 f1 f2 f3 f4 f5 f6 f7 f8 f9 c f g h i j n o p q r t u x y z A d B C D E F G H I J L M N O P Q R S T U V X Y Z a0 a1 a2 h7 C0 C1 C2 C3 C4 C5 C6 C7 C8 C9 C10 C11 C12:γ}{d0 d1 d2 d3 d4 d5 d6 d7 d8 d9 a3 a4 a5 a6 a7 a8 a9 b0 b1 b2 b3 b4 b5 b6 b7 b8 b9 c0 c1 c2 c3 c4 c5 c6 c7 c8 c9 e0 e1 e3 e4 e5 e6 e7 e8 e9 g0 g9 h0 h1 h2 h3 h4 h5 b:δ}{Cr Cv Cw:Tok}(h8:mg "law"=some (.ref fa))(j0:Df K mg "_wall" "_wall" qau0 f0 d0 ["k"])(j1:Md K C3 "__init__" "Wrong.__init__" qo7 f1 d1 ["self", "at"])(j2:Md K C4 "__init__" "NoRoom.__init__" qm0 f2 d2 ["self", "room"])(j3:Md K C7 "__init__" "Unkept.__init__" ql8 f3 d3 ["self", "word", "room"])(j4:Df K mg "is_whole" "is_whole" qw6 f4 d4 ["thing"])(j5:Df K mg "is_whole_within" "is_whole_within" qg8 f5 d5 ["thing", "least", "most"])(j6:Df K mg "is_number" "is_number" qs0 f6 d6 ["thing"])(j7:Df K mg "are_parted" "are_parted" qo6 f7 d7 ["numbers"])(j8:Df K mg "is_number_pair" "is_number_pair" qh9 f8 d8 ["thing"])(j9:Df K mg "is_home_list" "is_home_list" qk0 f9 d9 ["thing"])(h9:Md K C0 "__init__" "Plan.__init__" qs3 c a3 ["self", "rooms", "wraps", "homes"])(i0:Md K C0 "is_room" "Plan.is_room" qk2 f a4 ["self", "thing"])(i1:Md K C0 "home" "Plan.home" qs4 g a5 ["self", "key"])(i2:Md K C0 "far" "Plan.far" qx1 h a6 ["self", "key", "room"])(i3:Md K C0 "goes_ahead" "Plan.goes_ahead" qg9 i a7 ["self", "room", "one", "other"])(i4:Df K mg "room_ahead" "room_ahead" qo5 j a8 ["plan", "room"])(i5:Df K mg "word_by_room_ahead" "word_by_room_ahead" qe9 n a9 ["plan", "rooms", "room"])(i6:Df K mg "word_due" "word_due" qw5 o b0 ["plan", "rooms", "room"])(i7:Df K mg "is_turned" "is_turned" qr9 p b1 ["plan", "rooms"])(i8:Df K mg "fault_of" "fault_of" qw7 q b2 ["plan", "rooms"])(i9:Df K mg "are_crowd" "are_crowd" qs1 r b3 ["plan", "keys", "room"])(k0:Df K mg "crowded_room" "crowded_room" qk1 t b4 ["plan", "keys"])(k1:Df K mg "refuse_crowd" "refuse_crowd" qj9 u b5 ["plan", "keys"])(k2:Df K mg "bring_in" "bring_in" qw8 x b6 ["plan", "rooms", "key"])(k3:Df K mg "room_behind" "room_behind" qt2 y b7 ["plan", "room"])(k4:Df K mg "is_drawn_from" "is_drawn_from" qn8 z b8 ["plan", "rooms", "room"])(k5:Df K mg "draw_back" "draw_back" qC0 A b9 ["plan", "rooms", "room"])(k6:MdN K C1 "__init__" "Row.__init__" qx0 d c0 ["self", "plan", "rooms"])(k7:Md K C1 "rooms_held" "Row.rooms_held" qi0 B c1 ["self"])(k8:Md K C1 "keys_held" "Row.keys_held" qi6 C c2 ["self"])(k9:Md K C1 "many" "Row.many" qI9 D c3 ["self"])(l0:Md K C1 "room_of" "Row.room_of" ql9 E c4 ["self", "key"])(l1:Md K C1 "put" "Row.put" qE9 F c5 ["self", "key"])(l2:Md K C1 "take" "Row.take" qw9 G c6 ["self", "key"])(l3:Md K C1 "deeds" "Row.deeds" qs2 H c7 ["self"])(l4:Df K mg "_law_whole" "_law_whole" qP3 I c8 ["_law_found"])(l5:Df K mg "_law_bag" "_law_bag" qaA2 J c9 ["_law_script"])(l6:Df K mg "_law_take" "_law_take" qad3 L e0 ["_law_bag_here", "_law_many"])(l7:Df K mg "_law_home" "_law_home" qad6 M e1 ["_law_plan", "_law_key"])(l8:Df K mg "_law_far" "_law_far" qaA1 N e3 ["_law_plan", "_law_key", "_law_room"])(l9:Df K mg "_law_ahead" "_law_ahead" qP7 O e4 ["_law_plan", "_law_room", "_law_one", "_law_other"])(m0:Df K mg "_law_passing" "_law_passing" qx2 P e5 ["_law_plan", "_law_keys"])(m1:Df K mg "_law_housed" "_law_housed" qF1 Q e6 ["_law_plan", "_law_keys"])(m2:Df K mg "_law_drawn_homes" "_law_drawn_homes" qk4 R e7 ["_law_bag_here", "_law_size", "_law_many"])(m3:Df K mg "_law_drawn" "_law_drawn" qP5 S e8 ["_law_bag_here", "_law_most"])(m4:Df K mg "_law_fitting" "_law_fitting" qx3 T e9 ["_law_plan", "_law_keys"])(m5:Df K mg "_law_sort" "_law_sort" qad4 U g0 ["_law_e"])(m6:Df K mg "_law_word" "_law_word" qad2 V g9 ["_law_plan", "_law_rooms", "_law_room"])(m7:Df K mg "_law_fault" "_law_fault" qP4 X h0 ["_law_plan", "_law_rooms"])(m8:Df K mg "_law_made" "_law_made" qad5 Y h1 ["_law_plan", "_law_rooms"])(m9:Df K mg "_law_asked" "_law_asked" qP6 Z h2 ["_law_row", "_law_way", "_law_thing"])(n0:Df K mg "_law_odd" "_law_odd" qaA0 a0 h3 ["_law_bag_here"])(n1:Df K mg "_law_spoilt" "_law_spoilt" qF0 a1 h4 ["_law_bag_here", "_law_rooms", "_law_keys"])(n2:Df K mg "_law_refused_row" "_law_refused_row" qk3 a2 h5 ["_law_there", "_law_bag_here", "_law_plan", "_law_rooms", "_law_keys"])(h6:Df K mg "law" "law" Jw h7 b ["_law_script"])(n3:mg "MOST_NUMBER"=some (.int 1000000000000000000 Cr))(n4:mg "MOST_ROOMS"=some (.int 64 Cv))(n5:mg "MOST_HOMES"=some (.int 64 Cw))(n6:mg "ValueError"=none)(n7:mg "abs"=none)(n8:mg "all"=none)(n9:mg "bool"=none)(o0:mg "dict"=none)(o1:mg "enumerate"=none)(o2:mg "int"=none)(o3:mg "isinstance"=none)(o4:mg "len"=none)(o5:mg "list"=none)(o6:mg "max"=none)(o7:mg "min"=none)(o8:mg "range"=none)(o9:mg "set"=none)(p0:mg "sorted"=none)(p2:mg "tuple"=none)(p3:Cl K mg "Plan" C0)(p4:Mk K C0 c)(p5:qd1 K C0 "rooms")(p6:qd1 K C0 "wraps")(p7:qd1 K C0 "homes")(p8:qd1 K C0 "home_numbers")(p9:IsO K C0)(q0:Cl K mg "Row" C1)(q1:Mk K C1 d)(q3:qd1 K C1 "plan")(q4:qd1 K C1 "held")(q5:qd1 K C1 "done")(q6:mg "HomeError"=some (.ref C2))(q7:Exc K C2)(q8:mg "Wrong"=some (.ref C3))(q9:Exc K C3)(r0:Qf K (.ref C3) (.type "ValueError")=some true)(r1:MkE K C3 f1)(r2:qd1 K C3 "at")(r3:IsX K C3)(r4:Qf K (.ref C3) (.ref C4)=some false)(r5:Qf K (.ref C3) (.ref C5)=some false)(r6:Qf K (.ref C3) (.ref C6)=some false)(r7:Qf K (.ref C3) (.ref C7)=some false)(r8:Qf K (.ref C3) (.ref C8)=some false)(r9:Qf K (.ref C3) (.ref C9)=some false)(j100:Qf K (.ref C3) (.ref C10)=some false)(j101:Qf K (.ref C3) (.ref C11)=some false)(j102:Qf K (.ref C3) (.ref C12)=some false)(j103:W.mroIn K C3 (.ref C2)=some true)(j104:W.mroIn K C3 (.ref C3)=some true)(j105:W.mroIn K C3 (.ref C7)=some false)(j106:mg "NoRoom"=some (.ref C4))(j107:Exc K C4)(j108:Qf K (.ref C4) (.type "ValueError")=some true)(j109:MkE K C4 f2)(j110:qd1 K C4 "room")(j111:IsX K C4)(j112:Qf K (.ref C4) (.ref C3)=some false)(j113:Qf K (.ref C4) (.ref C5)=some false)(j114:Qf K (.ref C4) (.ref C6)=some false)(j115:Qf K (.ref C4) (.ref C7)=some false)(j116:Qf K (.ref C4) (.ref C8)=some false)(j117:Qf K (.ref C4) (.ref C9)=some false)(j118:Qf K (.ref C4) (.ref C10)=some false)(j119:Qf K (.ref C4) (.ref C11)=some false)(j120:Qf K (.ref C4) (.ref C12)=some false)(j121:W.mroIn K C4 (.ref C2)=some true)(j122:W.mroIn K C4 (.ref C3)=some false)(j123:W.mroIn K C4 (.ref C7)=some false)(j124:mg "There"=some (.ref C5))(j125:mg "NotThere"=some (.ref C6))(j126:mg "Unkept"=some (.ref C7))(j127:Exc K C7)(j128:Qf K (.ref C7) (.type "ValueError")=some true)(j129:MkE K C7 f3)(j130:qd1 K C7 "word")(j131:qd1 K C7 "room")(j132:IsX K C7)(j133:Qf K (.ref C7) (.ref C3)=some false)(j134:Qf K (.ref C7) (.ref C4)=some false)(j135:Qf K (.ref C7) (.ref C5)=some false)(j136:Qf K (.ref C7) (.ref C6)=some false)(j137:Qf K (.ref C7) (.ref C8)=some false)(j138:Qf K (.ref C7) (.ref C9)=some false)(j139:Qf K (.ref C7) (.ref C10)=some false)(j140:Qf K (.ref C7) (.ref C11)=some false)(j141:Qf K (.ref C7) (.ref C12)=some false)(j142:W.mroIn K C7 (.ref C2)=some true)(j143:W.mroIn K C7 (.ref C3)=some false)(j144:W.mroIn K C7 (.ref C7)=some true)(j145:mg "Unlike"=some (.ref C8))(j146:mg "NoText"=some (.ref C9))(j147:mg "NoRow"=some (.ref C10))(j148:mg "NoPlan"=some (.ref C11))(j149:mg "TooMany"=some (.ref C12))(hb:∀(s:Sh)(v:V'),BindsTo s b ⟨[v],[]⟩ [("_law_script",v)]):∃fd:δ,(∀(s:Sh)(v:V'),BindsTo s fd ⟨[v],[]⟩ [("_law_script",v)])/\∀base:Heap,K.In base->base.Ns Nh mg->Gv l.prog w K mg base (CX1 l.prog w) 14 fa fd ["_law_script"] (Km K):=by have e:=h8.symm.trans h6.m;injection e with e;injection e with e;subst e;exact⟨b,hb,λbase _ _=>qba3 (a:=⟨f0,d0,f1,d1,f2,d2,f3,d3,f4,d4,f5,d5,f6,d6,f7,d7,f8,d8,f9,d9,c,a3,f,a4,g,a5,h,a6,i,a7,j,a8,n,a9,o,b0,p,b1,q,b2,r,b3,t,b4,u,b5,x,b6,y,b7,z,b8,A,b9,d,c0,B,c1,C,c2,D,c3,E,c4,F,c5,G,c6,H,c7,I,c8,J,c9,L,e0,M,e1,N,e3,O,e4,P,e5,Q,e6,R,e7,S,e8,T,e9,U,g0,V,g9,X,h0,Y,h1,Z,h2,a0,h3,a1,h4,a2,h5,fa,b,Cr,Cv,Cw,C0,C1,C2,C3,C4,C5,C6,C7,C8,C9,C10,C11,C12⟩) ⟨j0,j1,j2,j3,j4,j5,j6,j7,j8,j9,h9,i0,i1,i2,i3,i4,i5,i6,i7,i8,i9,k0,k1,k2,k3,k4,k5,k6,k7,k8,k9,l0,l1,l2,l3,l4,l5,l6,l7,l8,l9,m0,m1,m2,m3,m4,m5,m6,m7,m8,m9,n0,n1,n2,h6,n3,n4,n5,n6,n7,n8,n9,o0,o1,o2,o3,o4,o5,o6,o7,o8,o9,p0,p2,p3,p4,p5,p6,p7,p8,p9,q0,q1,q3,q4,q5,q6,q7,q8,q9,r0,r1,r2,r3,r4,r5,r6,r7,r8,r9,j100,j101,j102,j103,j104,j105,j106,j107,j108,j109,j110,j111,j112,j113,j114,j115,j116,j117,j118,j119,j120,j121,j122,j123,j124,j125,j126,j127,j128,j129,j130,j131,j132,j133,j134,j135,j136,j137,j138,j139,j140,j141,j142,j143,j144,j145,j146,j147,j148,j149⟩⟩
theorem walk{l:W.OpenLaw}{d:DefRec}{K:Params->Qe}(c:l.most=some 63)(b:d.params.defaults=[])(e:∀(w:Nw)(h:Heap),YP w h->(K w.params).In h)(F:∀(w:Nw)(mg:Str->Option V')(fa:γ)(h:Heap),(K w.params).In h->h.Ns Nh mg->mg d.name=some (.ref fa)->∃fd:δ,(∀(s:Sh)(u:V'),BindsTo s fd ⟨[u],[]⟩ [("_law_script",u)])/\∀base:Heap,(K w.params).In base->base.Ns Nh mg->Gv l.prog w (K w.params) mg base (CX1 l.prog w) 14 fa fd ["_law_script"] (Km (K w.params))):W.WalkO q loose XP YP l.row.toRowW d [] (λf vs=>PySem.call f vs):=L2.qaI7 (n:=63) (k:=14) (x := "_law_script") (CX:=λw=>CX1 l.prog w) (sp:=λw=>Km (K w.params)) c ∅ b ⟨λ_=>rfl,∅,∅⟩ e F (λ_ _ a g i _ j=>⟨a,g,rfl,j,i,λ_=>rfl⟩) λ_ _ _ _ _ ⟨_,_,_,_,_,_,_,_,z⟩=>z
end LV.My
open PySem PySem.W PyProof.Rows L2
local macro_rules | `(tactic| walk_at "u")=>`(tactic| (intro _ _ _ _ _ _;repeat' first|exact LV.ec0 (rfl)|refine LV.ec1 λ_=>?_))
local macro_rules | `(tactic| walk_at "d")=>`(tactic| (refine' LV.My.dfX (by assumption) (by assumption) ?a ?l ?c ?k ?b;(case a|l|c|k=>k_is);(case b=>walk_at "u")))
local macro_rules | `(tactic| walk_at "e")=>`(tactic| (refine' mdmk ?l ?c ?k ?a ?i ?b;(case a|i|l|c|k=>k_is);(case b=>walk_at "u")))
local macro_rules | `(tactic| walk_at "c")=>`(tactic| (refine' mg_of (by assumption) (by assumption) ?a;k_is))
local macro_rules | `(tactic| walk_at "z")=>`(tactic| (refine' mg_none_of (by assumption) (by assumption) ?a;k_is))
local macro_rules | `(tactic| walk_at "q")=>`(tactic| (first|k_is|kernel_rfl|rfl))
local macro_rules | `(tactic| walk_at "n")=>`(tactic| (show findIn _ _ _=some none;k_is))
local macro_rules | `(tactic| walk_at "x9")=>`(tactic| (refine⟨?_,?_,?_,?_,?_,?_,?_,?_,?_⟩<;>walk_at "q"))
local macro_rules | `(tactic| walk_at "ix")=>`(tactic| (refine⟨⟨?_,?_,?_,?_,?_,?_,?_,?_,?_⟩,?_,?_,?_⟩<;>walk_at "q"))
local macro_rules | `(tactic| walk_at "me")=>`(tactic| (refine⟨⟨?_,?_,?_,?_,?_,?_,?_,?_,?_⟩,?_,?_,?_,?_⟩<;>walk_at "q"))
theorem PySem.Challenge.cw_homeward_k33_rows_refused_holds : PySem.Challenge.rw_homeward_k33_rows_refused.Holds := by
 w_on;o_law;k_head;(case hw=>w_witness2)
 k_fill
 refine LV.My.walk (l:=PySem.Challenge.rw_homeward_k33_rows_refused) rfl rfl (λw h Y=>PySem.W.kIn_of Y) ?F
 case F=>
 intro w g j h KX G f;refine' LV.My.qbe4 f ?j0 ?j1 ?j2 ?j3 ?j4 ?j5 ?j6 ?j7 ?j8 ?j9 ?j10 ?j11 ?j12 ?j13 ?j14 ?j15 ?j16 ?j17 ?j18 ?j19 ?j20 ?j21 ?j22 ?j23 ?j24 ?j25 ?j26 ?j27 ?j28 ?j29 ?j30 ?j31 ?j32 ?j33 ?j34 ?j35 ?j36 ?j37 ?j38 ?j39 ?j40 ?j41 ?j42 ?j43 ?j44 ?j45 ?j46 ?j47 ?j48 ?j49 ?j50 ?j51 ?j52 ?j53 ?j54 ?j55 ?j56 ?j57 ?j58 ?j59 ?j60 ?j61 ?j62 ?j63 ?j64 ?j65 ?j66 ?j67 ?j68 ?j69 ?j70 ?j71 ?j72 ?j73 ?j74 ?j75 ?j76 ?j77 ?j78 ?j79 ?j80 ?j81 ?j82 ?j83 ?j84 ?j85 ?j86 ?j87 ?j88 ?j89 ?j90 ?j91 ?j92 ?j93 ?j94 ?j95 ?j96 ?j97 ?j98 ?j99 ?j100 ?j101 ?j102 ?j103 ?j104 ?j105 ?j106 ?j107 ?j108 ?j109 ?j110 ?j111 ?j112 ?j113 ?j114 ?j115 ?j116 ?j117 ?j118 ?j119 ?j120 ?j121 ?j122 ?j123 ?j124 ?j125 ?j126 ?j127 ?j128 ?j129 ?j130 ?j131 ?j132 ?j133 ?j134 ?j135 ?j136 ?j137 ?j138 ?j139 ?j140 ?j141 ?j142 ?j143 ?j144 ?j145 ?j146 ?j147 ?j148 ?j149 ?hb
 case j55|j56|j57|j86|j88|j106|j124|j125|j126|j145|j146|j147|j148|j149=>walk_at "c"
 case j74|j81=>refine' ⟨⟨?_,?_,?_,?_⟩,mg_of (by assumption) (by assumption) ?a⟩;(case a=>k_is);k_is;k_is;k_is;k_is
 case j0|j4|j5|j6|j7|j8|j9|j15|j16|j17|j18|j19|j20|j21|j22|j23|j24|j25|j26|j35|j36|j37|j38|j39|j40|j41|j42|j43|j44|j45|j46|j47|j48|j49|j50|j51|j52|j53|j54=>walk_at "d"
 case j1|j2|j3|j10|j11|j12|j13|j14|j28|j29|j30|j31|j32|j33|j34=>walk_at "e"
 case j27=>refine' LV.mdmkN ?l ?c ?k ?a ?i ?t ?b ?bn;(case a|i|l|c|k|t=>k_is);(case b=>intro _ _ _ _ _ _;repeat' first|exact LV.ec0 (⟨_,rfl,rfl⟩)|refine LV.ec1 λ_=>?_);(case bn=>intro _ _ _ _ _ _;refine LV.ec2 ?_;repeat' first|exact LV.ec0 (⟨_,rfl,rfl⟩)|refine LV.ec1 λ_=>?_)
 case j58|j59|j60|j61|j62|j63|j64|j65|j66|j67|j68|j69|j70|j71|j72|j73=>walk_at "z"
 case j76|j77|j78|j79|j83|j84|j85|j92|j110|j130|j131=>walk_at "n"
 case j80=>refine⟨?_,?_,?_,?_,kf_of ?_ ?_ ?_ ?_ ?_ ?_ ?_⟩<;>walk_at "q"
 case j87|j89|j107|j127=>walk_at "x9"
 case j90|j94|j95|j96|j97|j98|j99|j100|j101|j102|j103|j104|j105|j108|j112|j113|j114|j115|j116|j117|j118|j119|j120|j121|j122|j123|j128|j133|j134|j135|j136|j137|j138|j139|j140|j141|j142|j143|j144=>walk_at "q"
 case j93|j111|j132=>walk_at "ix"
 case j75|j82=>refine⟨?_,?_,?_,?_⟩<;>k_is
 case j91|j109|j129=>walk_at "me"
 case hb=>exact λs v=>.of_eq rfl
#print axioms PySem.Challenge.cw_homeward_k33_rows_refused_holds
