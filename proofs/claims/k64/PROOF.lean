import PyProof.Rows.All
import Wide.All
import OpenK.AllK
import Wide.FinOn
import Lean
import PyProof.EqAt
import PyProof.EqKinds
import PyProof.TupleCall
import PyProof.CompFree
import KE.KIsAll
import PyProof.AttrMiss
import PyProof.IsiH_list
import KE.KDictOf
import PyProof.ConsumeWalk
import PyProof.Rows.SetFrom
import PyProof.NeKinds
import PyProof.AutoListH
import PyProof.EnumMake
import PyProof.EnumFor
import PyProof.EnumStmt
import PyProof.LayNew
import PyProof.Rows.EnumRows
import KE.KDictList
import KE.KItemsList
import PyProof.ZipIter
import PyProof.Rows.ZipGen
import KE.KRevIter
import PySem.Challenge.RW_homeward_k64_sized
local macro_rules|`(⋯)=>`(by lia)|`(∅)=>`(by decide)
set_option linter.all false
set_option Elab.async false
def zA0:=@List.count_append
def zA1:=@Option.bind_eq_some_iff
def zA2:=@PySem.Heap.get?_push_of_some
def zA3:=@Nat.le_refl
def zA4:=@List.getElem?_eq_some_iff
def zA5:=@List.size_toArray
def zA6:=@List.mem_cons_of_mem
def zA7:=@List.mem_cons_self
def zA8:=@Option.map_eq_some_iff
def zA9:=@PySem.Heap.lt_size
def zAa:=@List.append_nil
def zAb:=@List.length_append
def zAc:=@Nat.lt_of_lt_of_le
def zAd:=@List.mem_singleton
def zAe:=@List.length_map
def zAf:=@List.mem_append
def zAg:=@Nat.le_trans
def zAh:=@of_decide_eq_true
def zAi:=@decide_eq_true
def zAj:=@List.mem_cons
def zAk:=@Nat.ne_of_lt
def zAl:=@Nat.zero_add
def zAm:=@List.length_cons
def zAn:=@Bool.false_ne_true
def zAo:=@List.mem_range
def zAp:=@Bool.and_eq_true_iff
def zAq:=@List.count_cons
def zAr:=@List.take_of_length_le
def zAs:=@List.append_assoc
def zAt:=@List.mem_filter
def zAu:=@List.getElem?_append_left
def zAv:=@List.lookup_cons
def zAw:=@List.mem_append_right
def zAx:=@PySem.Heap.get?_push_size
def zAy:=@List.map_cons
def zAz:=@decide_eq_false
def zB0:=@Option.isSome_iff_exists
def zB1:=@beq_self_eq_true
def zB2:=@List.mem_of_getElem?
def zB3:=@List.forall_mem_cons
def zB4:=@List.nil_append
def zB5:=@decide_eq_true_eq
def zB6:=@Array.length_toList
def zB7:=@Array.toList_append
def zB8:=@List.mem_map
def zB9:=@List.getElem?_map
def zBa:=@List.length_range
def zBb:=@Bool.and_eq_true
def zBc:=@Nat.le_of_lt
def zBd:=@List.cons_merge_cons
def zBe:=@List.all_eq_true
def zBf:=@List.getElem?_set_ne
def zBg:=@PySem.Heap.get?_update_other
def zBh:=@List.take_append_drop
def zBi:=@Nat.zero_le
def zBj:=@of_decide_eq_false
def zBk:=@List.not_mem_nil
def zBl:=@beq_eq_false_iff_ne
def zBm:=@beq_iff_eq
def zBn:=@List.take_sublist
def zBo:=@List.map_append
def zBp:=@List.length_take
def zBq:=@Array.perm_iff_toList_perm
def zBr:=@List.forall_mem_append
def zBs:=@List.nodup_append
def zBt:=@List.replicate_succ
def zBu:=@PySem.Heap.get?_update_self
def zBv:=@decide_eq_decide
def zBw:=@List.cons_append
def zBx:=@List.pairwise_map
def zBy:=@Nat.le_of_lt_succ
def zBz:=@List.find?_cons
def zC0:=@List.nodup_cons
def zC1:=@List.getElem?_set_self
def zC2:=@Nat.le_of_not_lt
def zC3:=@Nat.lt_of_le_of_lt
def zC4:=@List.map_map
def zC5:=@Nat.lt_irrefl
def zC6:=@List.drop_eq_getElem_cons
def zC7:=@List.mem_append_left
def zC8:=@List.getElem?_eq_getElem
def zC9:=@Nat.sub_le
def zCa:=@List.flatten_cons
def zCb:=@Int.emod_eq_of_lt
def zCc:=@Nat.lt_of_succ_lt
def zCd:=@Nat.le_of_eq
def zCe:=@List.filterMap_cons
def zCf:=@List.any_cons
def zCg:=@List.filter_cons_of_neg
def zCh:=@Nat.succ_le_succ
def zCi:=@Nat.mod_eq_of_lt
def zCj:=@List.length_drop
def zCk:=@List.findIdx?_cons
def zCl:=@Int.emod_lt_of_pos
def zCm:=@Nat.min_eq_left
def zCn:=@Nat.not_lt_zero
def zCo:=@List.length_nil
set_option genSizeOf false
set_option genInjectivity false
set_option maxRecDepth 100000
noncomputable section
structure PySem.W.Fast:Prop where
 (tw5222765710439549452 tw7762301498181601342 tw7997354603968312926 tw6316668602090896410 tw13165305436140969255 tw6463856827235648367 tw15865265239373499313 tw15844818239606844558 tw3901818272971349368 tw5304930724010369727 tw16976532687640435249 tw5907689235315476239 tw12380865732075719137 tw5502757772481737622 tw12080150601579188901 tw17779917064748791901 tw11552164462181581208 tw14399706984025445909 tw11885503684095404413 tw2586505326761553452 tw10782200347342317938 tw18276484405085962166 tw8600507402262456714 tw7230028860667541432 tw14267625003592467926 tw12800994480791928907 tw1259645196881759517 tw7786433499023780706 tw14261505053105488674 tw594915151111907995 tw4612468254989063836 tw10480744725993720259 tw4985082193078242341 tw9388324374731650117 tw11184308123682954614 tw10085364337018213885 tw14350398552437752741 tw5545221087274604394 tw17589346981342726955 tw3913497060265207216
 tw12252209675923680252 tw15520839643564051313 tw6159326584530736176 tw17659837471441028202 tw17501169287938864440 tw14055478217611670855 tw13572559089066711843 tw4990534847325371597 tw14047038339820448943 tw1036311959910980216 tw15597522117926138990 tw1911133810126146311 tw9699770200647756785 tw12172403022327430461 tw12458356338552467827 tw3324713926775846940 tw7593760116126779974 tw17069548665997131601 tw7609007079946915829 tw4946908380725929640 tw10576206214045777728 tw12912050268697584286 tw4667338977260195967 tw9863817512367983461 tw7269055713893736239 tw15123356743393110407 tw17846830689229359520 tw4984036035179547705 tw5297523182632883440 tw3833800530472724263 tw10907780704127872111 tw3895366475725519779 tw16249814210744831778 tw43055458816064139 tw6558316906261505476 tw11357980438650448193 tw8328191502985853816 tw647248366195444395 tw4366128610888474388 tw17784640535684078755
 tw3789305123489785064 tw2866360347920630451 tw1901731991049844255 tw11542845214957310063 tw6664464493402379308 tw14890977119785267061 tw327678679019357295 tw9418749041190146216 tw7270590038323692850 tw8346820686833448129 tw7930983123331215879 tw2908822829569676169 tw89519918980947239 tw1790053214189581098 tw16670951401180286639 tw6073470105878009550 tw15977877365166368395 tw2253111961200918369 tw14807294412728392049 tw1498844266305982596 tw11159441810698463952 tw4599269449580726334 tw1261819742360109897 tw6124627064659637071 tw9167523525286347294 tw12517837069884380039 tw10539925382427540985 tw12803540147921378995 tw12191546463929020074 tw7980775379617517428 tw133769559758460553 tw8310598382223678555 tw14996463873378198449 tw7179528635266717454 tw3609915223263591659 tw11929179048704188722 tw7055666822810170728 tw11594888259204424879 tw8920551478921432102 tw5350602296620602711
 tw16742856051239363314 tw11324093735547727846 tw8928947162478640122 tw15989448750877824616 tw11639879990988032277 tw2429177843860015484 tw6454176276959955092 tw15191338206244415508 tw8492398946821517400 tw13215817238110273244 tw5720294658917035809 tw8733315054651751351 tw6285297771194901842 tw8007984894308058046 tw11903505900334006842 tw17605973365875753519 tw125865958605924850 tw1768259039522264962 tw12816640800601967355 tw17775997883032074748 tw12070824010415079199 tw8383493553243114394 tw14273826373124243404 tw14947065064791505881 tw14904599082366444356 tw18187921591789099669 tw11517025294247717868 tw16583560858449110153 tw15659484159768297890 tw17987302587354930250 tw5540223510344067962 tw6712958836147793585 tw14866007254277411021 tw5664164146872130781 tw12343396621667472672 tw2519671704992517405 tw12383947981950228911 tw9119067017556853294 tw6194107706762323000 tw4097816729533036821
 tw17890413101247160255 tw1892629701842561449 tw16123092999538285210 tw2882623411060897299 tw13186965967908239737 tw16622070303702720842 tw14489876654726514255 tw2840334654277493293 tw4729360547743218156 tw12530233133000124061 tw8368131942667745907 tw800678712324158757 tw14285704126912346984 tw6941470481618172510 tw6237606751852261017 tw9619855534048286778 tw14969741405240257518 tw9057299510557595697 tw14722814999821913768 tw3033824287486701268 tw3851150992777876192 tw1739503356679797946 tw2977092253444149974 tw1572299606677213189 tw5001541678794722227 tw10873599608785616731 tw14691585231992137476 tw2809409229195003175 tw13984729203833478594 tw15031266157156674820 tw10080856810036909319 tw9284695060265234125 tw4814457147429949149 tw4092769431484495323 tw17398593451616531223 tw15601285576587902439 tw11658130333534060139 tw1145110094503218702 tw9081605351062013143 tw14091203104696624048
 tw13159257623650489603 tw11072340547393023264 tw13462012034670880105 tw11414831542654226256 tw760284496894074471 tw8604751627484173256 tw7574446900836202502 tw3454158582102407127 tw3364421435031798337 tw16863257402807124650 tw16710246508036851905 tw15877789226791352849 tw14100183570923903101 tw11211997252450473878 tw2681395377439557230 tw11302343373560238560 tw10484819630308275388 tw2337658698567826848 tw13841173790805288321 tw9545772239085448428 tw6204821549098323140 tw4285032847205620004 tw18038280501339147785 tw14025958428333817002 tw1385550143118236767 tw11154652260881564716 tw4969625223035251160 tw10454743632233343164 tw17945917667999271983 tw2720564381691496217 tw10151442320918173112 tw2393823668529727537 tw7258045275914930355 tw6075057178655781111 tw5974076169991382950 tw3582702887718078012 tw15329072382644887231 tw9199954266707826134 tw5717346876290263096 tw6770140178179877717
 tw6630882092378419081 tw16821137752862632477 tw7108056204382133260 tw5949739619218567932 tw16202150164257651342 tw12620065959075675608 tw18017455412529079043 tw10752416401994007043 tw11399646746769732174 tw5817035487390465546 tw11933373169205126404 tw6150087909278273731 tw6200055612789301701 tw5906189205873066699 tw12637136936104430553 tw11488557772477911071 tw4371870791932590995 tw18173375575763352548 tw5703991246913233826 tw15492001294054012211 tw10852055796626252719 tw3010543186537102327 tw828034843388786174 tw3895086161685316817 tw14764812147923636922 tw5340074366136091289 tw9190692535294849223 tw8512119754606716312 tw6563371714396840847 tw17857848836172415434 tw16890360417545066513 tw14533636567799391307 tw1135043229348188414 tw7753054351847459261 tw14296397728376093891 tw17533087175628726892 tw8900415398242904754 tw14893208256459538086 tw185136109385797111 tw11926603108165524455
 tw6341402672511399040 tw1850171001739199018 tw9309857070317300313 tw9210800066005827573 tw8129870366718558637 tw7594768570562338952 tw7312022192847362355 tw7255518194964050984 tw5678562634394503095 tw5656114097999899752 tw5192034876079097998 tw5129473419144457594 tw4330021790196935581 tw4198457090222812322 tw2661961954367669980 tw2653380881448058766 tw2218184533386710206 tw1987592308297553453 tw1892029414130911119 tw17711855965186738358 tw17165672370130431844 tw17083829538056011971 tw15384687718982151887 tw14892005735935673695 tw14731487724673430617 tw1213086841572853221 tw11474642136242865104 tw11134382501788419792 tw11073082221386156082 tw10145210130625374254 tw12962108251837496108 tw12298641059622058759 tw5142855994895544153 tw17358261757933643565 tw14529457096044788857 tw11997158045648946889 tw9532223509150269884 tw8744109461283361577 tw6174076875224371057 tw5736890115084511511
 tw3518821557528719537 tw2781582928013681289 tw17213574687155613078 tw16067501533882221558 tw13979444336979927741 tw13035775216625983588 tw7730655162663579513 tw17616378419387155157 tw11309513103049577490 tw10649337931376413856 tw16990051792434113998 tw15573069169058396054 tw10674918479226949943 tw4342546171505054388 tw14373845873608129100 tw17308613379865044390 tw14945793190756418598 tw14343605043561991520 tw1266092027229576338 tw12554743966218291519 tw258726093196398850 tw9481598893931277497 tw7862299873104180538 tw7760476882623987649 tw7273013267006369597 tw5608956753253564074 tw5599954183435800027 tw5209472471675731474 tw4868484072363959798 tw4344215044539896387 tw4250160163145495209 tw400391452612317413 tw3447255704224748712 tw323875638088474912 tw2901089809921388636 tw2813804399988825533 tw2176828193335391023 tw18423634356952379679 tw17799997283036448252 tw17500649202517194155
 tw16125352846581126110 tw1465244494339091026 tw13646198898220663401 tw13629364301382081455 tw13558082993654189109 tw13500121081962924582 tw1292953601060160286 tw12496750049508691729 tw12079508817898186932 tw11818053555540742072 tw11599532050435290701 tw10999335600790955629 tw15310588576161411206 tw17918400222903103542 tw1602264586354820854 tw14542219717429499924 tw9499016307597918836 tw4864590923555610791 tw7914103530809286220 tw9487022841632720827 tw878364595475015475 tw7308999664399502110 tw6856971062720126490 tw4791303669681166241 tw4158702534292710643 tw4115757648214269591 tw3564978354123088837 tw2570848675593175547 tw1954199459467066121 tw16698807998050619012 tw16434146230630461082 tw15452551524682836986 tw14650033437864045897 tw13913266468433302623 tw12175887683119520306 tw2603152188872436240 tw6731659346755864837 tw16089913838913081876 tw15068336902237319406 tw11592895626109907018
 tw9383420926116926314 tw14230236423390690789 tw9935813103296932229 tw15046433721605436826 tw4844043617066413802 tw8549373262658397741 tw8456704604277256025 tw5876930803343283206 tw570130423528568879 tw4684475433467759147 tw3677799016429282582 tw2838682638570920795 tw1733028370634682351 tw17329589026448571789 tw16920298026035666890 tw16150915540221641682 tw15300716555033090570 tw14984433311884219146 tw14910659180614933998 tw14155114063630026179 tw1400517951712493876 tw13749153174882317272 tw10104956403936706864 tw10087687114061527146 tw9451587007021105998 tw8259381120494929093 tw16246280113320325658 tw7346325989871326580 tw12439357169105526942 tw9899536216603195265 tw8683591928575050088 tw5872875296714528079 tw5625479262512134754 tw5596036715083246179 tw2752989222320111464 tw15830572247333248021 tw15646024262707265892 tw15314606846526122822 tw13808155331048141620 tw11323592919142857854
 tw1384616051369581666 tw7464614161161380425 tw7036945707190825942 tw5615427236775452259 tw4416517796205617698 tw17681924481767791237 tw16991252159584669 tw12308131406554786311 tw12307720187436549621 tw10511877284315716324 tw11783256661810077910 tw3640832858653470791 tw4887191651803653710:True)
abbrev N'(x:PySem.Str):Prop:=(x==("__debug__" : PySem.Str))=false
abbrev γ:=PySem.Addr
abbrev V':=PySem.Value
abbrev δ:=PySem.Shared
abbrev ε:=PySem.FuncData
open PySem renaming wpAny_bind→G',wpAny_pure→J',starEach→M6,sizeLine→M7,compareOp→M8,foldedSetIterable→M9,wpAny_holding→M',bootBuiltins→Na,wpAny_truthy_bool→Nb,attributeBase→Nc,sizeLine_eq→Nd,mainGlobals→Nf,wpAny_loadPart_at→Ng,sysModules→Nh,keywordEach→Ni,wpAny_mono→Nj,wpAny_passesOwn→Nk,call_meets→Nl,assignEach→Nm,binaryOp→Nn,wpAny→No,model→Np,Program→Nq,Around→Nr,World→Nt,Expr→Nu,Stmt→Nv
open PyProof.Rows renaming wpS_bind→Nw,wpS_pure→Nx,pendingOf→Ny,failedOf→Nz,wpS_modify→N0,arrOf→N1,Keyed→N2,SortSt→N3,kindOf→N4,setArr→N5,setPending→N6
open _root_.List renaming range→N7,replicate→N8,merge→N9,lookup→Oa,length→Ob,take_add_one→Oc,take_length→Oe,all_cons→Of,filter_cons_of_pos→Og,filter_congr→Oh,drop_of_length_le→Oi,drop_eq_nil_of_le→Oj,nodup_range→Ol,length_set→Om,foldl→On,dropLast_concat→Oo,count_nil→Op,drop_zero→Oq,map_take→Os,perm_ext_iff_of_nodup→Ot,pairwise_iff_getElem→Ou,getElem_inj→Ov,drop_length→Ow,sublist_append_left→Ox,of_mem_zip→Oy,length_singleton→Oz,nodup_nil→O0,set_append_right→O1,drop_drop→O2,set_append_left→O3,mem_of_mem_take→O4,mergeSort_perm→O5,map_congr_left→O6,map_nil→O7,getD→O8,contains_cons→O9,set_set→Pa,filterMap_map→Pb,getElem_take→Pc,getElem_drop→Pd,countP_cons→Pe,merge_right→Pf,foldl_cons→Pg,range_succ→Ph,countP_map→Pi,nil_merge→Pj,take_take→Pk,take_zero→Pm,mapM_cons→Pn,filterMap→Po,map_drop→Pq,take_add→Ps,all_map→Pt
open PySem.Value renaming ref→Pu,none→Pw,int→Px,builtin→Py,str→Pz,bool→P0,type→P1,float→P3,isStrOf→P4,isInt→P5,bytes→P6
open And renaming imp_right→P7
open Option.some renaming inj→P8
open PySem.PassesOwn renaming leaving→P9
open PySem.W renaming Frag→P',kitOne→Qa
open PySem.F renaming plainAttrs_list→Qb,slot_list_append→Qc,type_list_append→Qd,slot_list_index→Qe,type_list_index→Qf,slot_list_count→Qg,slot_dict_get→Qh,excAttr_ValueError→Qi,type_list_count→Qj,slot_list_remove→Qk,args_dict_get_3→Ql,plainAttrs_dict→Qm,slot_dict_items→Qn,entry_dict_get→Qo,slot_list_pop→Qp,slot_int_rmul→Qq,entry_bexc_ga→Qr,args_bexc_ga→Qs
open PySem.NameKind renaming free→Qt,cell→Qu
open False renaming elim→Qv
open Or renaming inr→Qw,inl→Qx,imp→Qy
namespace L2
open PySem PySem.Spec PyProof.Rows
variable{M:Model}{N:List Str}{base:Heap}{body:List Nv}{ch fp:List γ}{i n t':Nat}{kw:List (Str×V')}{mg:Str->Option V'}{op:CmpOp}{pl:Sem Bool}{us:List V'}
abbrev Key:=Sum Int Str
noncomputable def Hi:Key->V'->Bool|.inl k,v=>P5 k v|.inr x,v=>P4 x v
noncomputable def keyH(w:Nt):Key->Int|.inl k=>hashInt k|.inr x=>hashStr w x
theorem qd5:∀{k:Key}{v:V'},Hi k v=true->(∃i t,k=Sum.inl i/\v=Px i t)∨(∃x t,k=Sum.inr x/\v=Pz x t)|.inl i,v,h=>by obtain⟨t,e⟩:=Value.isInt_shape h;exact .inl ⟨i,t,rfl,e⟩|.inr x,v,h=>by obtain⟨t,e⟩:=Value.isStrOf_shape h;exact .inr ⟨x,t,rfl,e⟩
theorem qau3(i:Int)(t:Tok):Hi (.inl i) (.int i t)=true:=by simp[Hi,P5]
theorem qau2(x:Str)(t:Tok):Hi (.inr x) (.str x t)=true:=by simp[Hi,P4]
theorem qbd3(a b:Int):decide ((Sum.inl a:Key)=Sum.inl b)=(a==b):=by by_cases e:a=b;{subst e;simp};have h:¬(Sum.inl a:Key)=Sum.inl b:=λq=>e (Sum.inl.inj q);rw[zAz h];exact(zBl.mpr e).symm
theorem qbd0(a b:Str):decide ((Sum.inr a:Key)=Sum.inr b)=decide (a=b):=by by_cases e:a=b;{subst e;simp};have h:¬(Sum.inr a:Key)=Sum.inr b:=λq=>e (Sum.inr.inj q);rw[zAz h,zAz e]
theorem qbd2(a:Int)(b:Str):decide ((Sum.inl a:Key)=Sum.inr b)=false:=zAz (λq=>nomatch q)
theorem qbd1(a:Str)(b:Int):decide ((Sum.inr a:Key)=Sum.inl b)=false:=zAz (λq=>nomatch q)
def qg0(prog:Nq)(w:Nt):PySem.KeyKind prog w Key where
 is:=Hi
 hash:=keyH w
 inj:=λv a b g f=>by
  rcases qd5 g with⟨i,t,rfl,rfl⟩|⟨x,t,rfl,rfl⟩
  .rcases qd5 f with⟨j,u,rfl,e⟩|⟨y,u,rfl,e⟩
   .injection e with c _;rw[c]
   exact nomatch e
  rcases qd5 f with⟨j,u,rfl,e⟩|⟨y,u,rfl,e⟩
  .exact nomatch e
  injection e with c _;rw[c]
 byValue:=λk v h=>by
  rcases qd5 h with⟨i,t,rfl,rfl⟩|⟨x,t,rfl,rfl⟩<;>rfl
 pyHash:=λd h=>by
  rcases qd5 d with⟨i,t,rfl,rfl⟩|⟨x,t,rfl,rfl⟩
  .exact wpAny_pyHash_int h
  exact wpAny_pyHash_str h
 eqBool:=λl d h=>by
  rcases qd5 l with⟨i,t,rfl,rfl⟩|⟨x,t,rfl,rfl⟩
  .rcases qd5 d with⟨j,u,rfl,rfl⟩|⟨y,u,rfl,rfl⟩
   .rw[qbd3] at h;exact wpAny_eqBool_int h
   rw[qbd2] at h;exact SeqAt.EqAt.int_str i t y u _ _ _ _ h
  rcases qd5 d with⟨j,u,rfl,rfl⟩|⟨y,u,rfl,rfl⟩
  .rw[qbd1] at h;exact SeqAt.EqAt.str_int x t j u _ _ _ _ h
  rw[qbd0] at h;exact wpAny_eqBool_str h
 «strs»:=λk x t v h=>by
  rcases qd5 h with⟨i,u,rfl,e⟩|⟨y,u,rfl,e⟩
  .exact nomatch e
  injection e with c _
  subst c;cases v<;>rfl
theorem qae3(prog:Nq)(w:Nt)(i:Int)(t:Tok):(qg0 prog w).is (.inl i) (.int i t)=true:=qau3 i t
theorem qae2(prog:Nq)(w:Nt)(x:Str)(t:Tok):(qg0 prog w).is (.inr x) (.str x t)=true:=qau2 x t
inductive V where
 |non|bl (b:Bool)|int (i:Int)|str (x:Str)|byt (b:Array UInt8)|flt (b:UInt64)|ref (a:γ)|ty (n:String)
 deriving DecidableEq
def Q6:V->V'->Prop|.non,u=>u=Pw|.bl b,u=>u=P0 b|.int i,u=>∃t,u=Px i t|.str x,u=>∃t,u=Pz x t|.byt b,u=>∃t,u=P6 b t|.flt b,u=>∃t,u=P3 b t|.ref a,u=>u=Pu a|.ty n,u=>u=P1 n
abbrev Q7:List V->List V'->Prop:=Paired Q6
theorem Q7.length(r:Q7 xs us):xs.length=us.length:=Paired.length r
theorem Q7.get:∀{xs:List V}{us:List V'}{i:Nat}{x:V},Q7 xs us->xs[i]?=some x->∃u,us[i]?=some u/\Q6 x u|_,_,_,_,.nil,e=>by simp at e|_,_,0,_,.cons r _,e=>by simp at e;subst e;exact⟨_,rfl,r⟩|_,_,i+1,x,.cons _ t,e=>by obtain⟨u,a,b⟩:=Q7.get t (by simpa using e);exact⟨u,by simpa using a,b⟩
theorem Q7.set{x:V}{u:V'}(r:Q6 x u):∀{xs:List V}{us:List V'}(i:Nat),Q7 xs us->Q7 (xs.set i x) (us.set i u)|_,_,_,.nil=>.nil|_,_,0,.cons _ t=>.cons r t|_,_,i+1,.cons q t=>.cons q (Q7.set r i t)
theorem Q7.append(h:Q7 xs us)(s:Q7 ys a):Q7 (xs++ys) (us++a):=by induction h with|nil=>exact s|cons r t i=>exact .cons r i
theorem Q7.take:∀{xs:List V}{us:List V'}(n:Nat),Q7 xs us->Q7 (xs.take n) (us.take n)|_,_,0,_=>.nil|_,_,_+1,.nil=>.nil|_,_,n+1,.cons r t=>.cons r (Q7.take n t)
theorem Q7.drop:∀{xs:List V}{us:List V'}(n:Nat),Q7 xs us->Q7 (xs.drop n) (us.drop n)|_,_,0,r=>r|_,_,_+1,.nil=>.nil|_,_,n+1,.cons _ t=>Q7.drop n t
def RelO:Option V->Option V'->Prop|some v,some u=>Q6 v u|none,none=>True|_,_=>False
def KV{a:Type}:List (a×V)->List (a×V')->Prop:=Paired λ(p:a×V)(q:a×V')=>p.1=q.1/\Q6 p.2 q.2
noncomputable def kV:Key->V|.inl i=>.int i|.inr x=>.str x
inductive HO where
 |l (xs:List V)
 |q (xs:List V)
 |dK (kvs:List (Key×V))|dT (kvs:List (List Key×V))
 |set (S:Int->Bool) (n:Nat)
 |ins (C dx:γ) (fs:List (Str×V))
 |own (x:γ)
 |xd (fs:List (Str×V))
 |met (f x:γ)
 |rng (lo hi:Int)
 |frz (o:Obj) (u:HO)
 |tbl (ps:Array V')
 |ext (φ:Heap->Prop)
noncomputable abbrev Hp:=γ->Option HO
noncomputable def upd(H:Hp)(a:γ)(o:HO):Hp:=λb=>if b=a then some o else H b
theorem qb7:upd H a o a=some o:=by unfold upd;rw[if_pos rfl]
theorem qc0(h:b≠a):upd H a o b=H b:=by unfold upd;rw[if_neg h]
theorem qaM3:upd (upd H a o) a u=upd H a u:=by funext b;unfold upd;split<;>rfl
theorem ne_of{H:Hp}(h:H a=some o)(h':H b=some u)(d:o≠u):a≠b:=by intro e;subst e;rw[h] at h';exact d (P8 h')
theorem qc9{H:Hp}(h:H a=some o)(h':H b=none):a≠b:=by intro e;subst e;rw[h] at h';cases h'
section
variable(P:Nq)(w:Nt)
def ObjOk(H:Hp)(h:Heap)(a:γ):HO->Prop
 |.l xs=>xs.length<=M7/\∃(its:List V')(n:Nat),Q7 xs its/\h.get? a=some {cls:=.type "list",data:=.seq its.toArray n}|.q xs=>xs.length<=M7/\∃its:List V',Q7 xs its/\IsTup h a its.toArray|.dK kvs=>kvs.length<=M7/\(a==Nh)=false/\∃vs,KV kvs vs/\h.DictOf (qg0 P w) a vs|.dT kvs=>kvs.length<=M7/\(a==Nh)=false/\∃xs:List (List Key×γ×V'),
  Paired (λ(p:List Key×V)(q:List Key×γ×V')=>p.1=q.1/\H q.2.1=some (.q (p.1.map kV))/\Q6 p.2 q.2.2) kvs xs/\∃o es b,h.get? a=some o/\o.ExactDict/\o.data=.dict es b/\es.toList=xs.map (entryOfKey (tupleKind (qg0 P w)))/\(xs.map (·.1)).Nodup
 |.set S n=>h.SetOf (intKind P w) a S n|.ins C dx fs=>H dx=some (.own a)/\fs.length<=1000/\dx≠a/\h.get? a=some (W.instObj C dx)/\∃mA,h.Ns1 dx mA/\(∀f,RelO (fs.lookup f) (mA f))/\PySem.Within mA (fs.map (·.1))|.own _=>∃o,h.get? a=some o|.xd fs=>∃mA,h.Ns1 a mA/\∀f,RelO (fs.lookup f) (mA f)|.rng lo hi=>∃t u v,h.get? a=some {cls:=.type "range",data:=.fields #[.int lo t,.int hi u,.int 1 v]}|.frz o u=>h.get? a=some o/\ObjOk H h a u|.tbl ps=>h.get? a=some {cls:=.none,data:=.fields ps}|.met f x=>h.get? a=some (W.methodObj (.ref f) (.ref x))|.ext φ=>φ h/\(∃o,h.get? a=some o)/\∀h1 h2:Heap,φ h1->(∀o,h1.get? a=some o->h2.get? a=some o)->φ h2
def HOk(H:Hp)(h:Heap):Prop:=∀a o,H a=some o->ObjOk P w H h a o
end
section
variable{P:Nq}{w:Nt}{H H':Hp}{h h':Heap}{a:γ}{o:HO}
theorem ObjOk.lt(x:ObjOk P w H h a o):a<h.objs.size:=by cases o with|l c=>obtain⟨_,_,_,_,e⟩:=x;exact zA9 e|q c=>obtain⟨_,_,_,p⟩:=x;exact p.lt|dK b=>obtain⟨_,_,_,_,o,_,_,e,_⟩:=x;exact zA9 e|dT b=>obtain⟨_,_,_,_,o,_,_,e,_⟩:=x;exact zA9 e|set S n=>obtain⟨o,_,_,_,e,_⟩:=x;exact zA9 e|ins C g d=>obtain⟨_,_,_,e,_⟩:=x;exact zA9 e|own y=>obtain⟨_,e⟩:=x;exact zA9 e|xd d=>obtain⟨_,⟨_,_,_,e,_⟩,_⟩:=x;exact zA9 e|rng i j=>obtain⟨_,_,_,e⟩:=x;exact zA9 e|frz k u=>obtain⟨e,_⟩:=x;exact zA9 e|tbl l=>exact zA9 (show h.get? a=some _ from x)|met f y=>exact zA9 (show h.get? a=some _ from x)|ext φ=>obtain⟨_,⟨_,e⟩,_⟩:=x;exact zA9 e
theorem Paired.mapP{α β:Type}{F G:α->β->Prop}{l:List α}{m:List β}(h:Paired F l m)(f:∀a b,F a b->G a b):Paired G l m:=by induction h with|nil=>exact .nil|cons r t i=>exact .cons (f _ _ r) i
theorem ObjOk.stay(x:ObjOk P w H h a o)(k:∀b u,(b=a∨H b=some (.own a))->h.get? b=some u->h'.get? b=some u)(D:∀b,H b=some (.own a)->H' b=some (.own a))(E:∀b xs,H b=some (.q xs)->H' b=some (.q xs)):ObjOk P w H' h' a o:=by induction o with|l xs=>obtain⟨z,l,n,r,e⟩:=x;exact⟨z,l,n,r,k _ _ (.inl rfl) e⟩|q xs=>obtain⟨z,l,r,g,e,c⟩:=x;exact⟨z,l,r,g,k _ _ (.inl rfl) e,c⟩|dK m=>obtain⟨z,y,F,r,g,i,j,e,c⟩:=x;exact⟨z,y,F,r,g,i,j,k _ _ (.inl rfl) e,c⟩|dT m=>obtain⟨z,y,xs,r,g,i,j,e,c⟩:=x;exact⟨z,y,xs,Paired.mapP r λp q z=>⟨z.1,E _ _ z.2.1,z.2.2⟩,g,i,j,k _ _ (.inl rfl) e,c⟩|set S n=>obtain⟨g,i,j,t,e,c⟩:=x;exact⟨g,i,j,t,k _ _ (.inl rfl) e,c⟩|ins C K G=>obtain⟨d,z,I,e,s,⟨A,i,j,e2,c⟩,r⟩:=x;exact⟨D _ d,z,I,k _ _ (.inl rfl) e,s,⟨A,i,j,k _ _ (.inr d) e2,c⟩,r⟩|own y=>obtain⟨g,e⟩:=x;exact⟨g,k _ _ (.inl rfl) e⟩|xd G=>obtain⟨s,⟨A,i,j,e,c⟩,r⟩:=x;exact⟨s,⟨A,i,j,k _ _ (.inl rfl) e,c⟩,r⟩|rng L M=>obtain⟨t,u,v,e⟩:=x;exact⟨t,u,v,k _ _ (.inl rfl) e⟩|frz g u J=>obtain⟨e,q⟩:=x;exact⟨k _ _ (.inl rfl) e,J q⟩|tbl N=>have e:=x;exact k a _ (.inl rfl) e|met f y=>have e:=x;exact k a _ (.inl rfl) e|ext φ=>obtain⟨p,⟨o,e⟩,B⟩:=x;exact⟨B _ _ p λo q=>k _ _ (.inl rfl) q,⟨o,k _ _ (.inl rfl) e⟩,B⟩
theorem HOk.lt(x:HOk P w H h)(e:H a=some o):a<h.objs.size:=(x a o e).lt
theorem HOk.fresh(x:HOk P w H h)(e:h.objs.size<=a):H a=none:=by cases q:H a with|none=>rfl|some u=>exact absurd (zAc (x.lt q) e) (zC5 _)
theorem HOk.kept(x:HOk P w H h)(k:∀b u,h.get? b=some u->h'.get? b=some u):HOk P w H h':=λa o e=>
 (x a o e).stay (λb u _ q=>k b u q) (λ_ q=>q) λ_ _ q=>q
theorem HOk.laid(x:HOk P w H h)(k:∀b u,h.get? b=some u->h'.get? b=some u)(i:h.objs.size<=a)(d:ObjOk P w (upd H a o) h' a o):HOk P w (upd H a o) h':=λb u e=>by
 have f:=x.fresh i;by_cases g:b=a
 .subst g;rw[qb7] at e;cases e;exact d
 rw[qc0 g] at e;exact(x b u e).stay (λc v _ q=>k c v q) (λc q=>by rw[qc0 (qc9 q f)];exact q) λc j q=>by rw[qc0 (qc9 q f)];exact q
end
def Rd(H:Hp)(a:γ)(u:HO):Prop:=H a=some u∨∃o,H a=some (.frz o u)
theorem Rd.ok(r:Rd H a u)(x:HOk P w H h):ObjOk P w H h a u:=by rcases r with r|⟨o,r⟩;{exact x a u r};obtain⟨_,q⟩:=x a _ r;exact q
def Mut:Option HO->Prop|some (.l _)=>True|some (.dK _)=>True|some (.dT _)=>True|some (.set _ _)=>True|some (.ins _ _ _)=>True|some (.ext _)=>True|_=>False
section
variable{P:Nq}{w:Nt}{H:Hp}{h h':Heap}{x e:γ}{o':HO}
theorem HOk.write(o:HOk P w H h)(d:Mut (H x))(m:e=x∨H e=some (.own x))(k:∀b u,b≠e->h.get? b=some u->h'.get? b=some u)(j:∃u,h'.get? e=some u)(l:ObjOk P w (upd H x o') h' x o'):HOk P w (upd H x o') h':=λb u q=>by
 have nown:∀c y,H c=some (.own y)->c≠x:=λc y r z=>by subst z;rw[r] at d;exact d
 have ntup:∀c f,H c=some (.q f)->c≠x:=λc f r z=>by subst z;rw[r] at d;exact d
 by_cases g:b=x
 .subst g;rw[qb7] at q;cases q;exact l
 rw[qc0 g] at q;by_cases a:b=e
 .have n:H b=some (.own x):=by
   rcases m with z|z
   .exact absurd (a.trans z) g
   rw[a];exact z
  rw[q] at n;cases n;obtain⟨v,p⟩:=j;exact⟨v,by rw[a];exact p⟩
 refine(o b u q).stay (λc v i r=>k c v ?_ r) (λc r=>by rw[qc0 (nown c b r)];exact r) λc f r=>by rw[qc0 (ntup c f r)];exact r
 rcases i with rfl|i
 .exact a
 rintro rfl;rcases m with z|z
 .exact nown c b i z
 rw[i] at z;cases z;exact g rfl
end
structure Un(fs ex:List γ)(H H':Hp)(h h':Heap):Prop where
 keep:∀b o,h.get? b=some o->H b=none->b∉fs->b∉ex->h'.get? b=some o
 slot:∀b o,h.get? b=some o->H b=none->b∈fs->b∉ex->∃sl,h'.get? b=some {o with slots:=sl}
 free:∀b o,h.get? b=some o->H b=none->b∉ex->H' b=none
 there:∀b o,h.get? b=some o->b∉ex->∃o',h'.get? b=some o'
 tups:∀b xs,H b=some (.q xs)->H' b=some (.q xs)
 frzs:∀b o u,H b=some (.frz o u)->H' b=some (.frz o u)
 tbls:∀b ps,H b=some (.tbl ps)->∃more,H' b=some (.tbl (ps++more))
section
variable{fs s:List γ}{H v y:Hp}{h t w h':Heap}{a x e:γ}{o:HO}
theorem Un.any(u:Un fs s H v h t)(q:h.get? b=some ob)(n:H b=none)(a:b∉s):∃d,t.get? b=some {ob with slots:=d}:=by by_cases c:b∈fs;{exact u.slot b ob q n c a};exact⟨ob.slots,u.keep b ob q n c a⟩
theorem Un.trans(a:Un fs s H v h t)(b:Un fs s v y t w):Un fs s H y h w where
 keep:=λc d q n g e=>b.keep c d (a.keep c d q n g e) (a.free c d q n e) g e
 slot:=λc d q n g e=>by
  obtain⟨p,f⟩:=a.slot c d q n g e;obtain⟨j,e2⟩:=b.slot c _ f (a.free c d q n e) g e;exact⟨j,e2⟩
 free:=λc d q n e=>by
  obtain⟨k,f⟩:=a.there c d q e;exact b.free c k f (a.free c d q n e) e
 there:=λc d q e=>by
  obtain⟨k,f⟩:=a.there c d q e;exact b.there c k f e
 tups:=λc i q=>b.tups c i (a.tups c i q)
 frzs:=λc d i q=>b.frzs c d i (a.frzs c d i q)
 tbls:=λc l q=>by
  obtain⟨m,f⟩:=a.tbls c l q;obtain⟨o,e2⟩:=b.tbls c _ f;exact⟨m++o,by rw[e2,Array.append_assoc]⟩
theorem Un.kept(k:∀b u,h.get? b=some u->h'.get? b=some u):Un fs s H H h h':=⟨λb a q _ _ _=>k b a q,λb a q _ _ _=>⟨a.slots,k b a q⟩,λ_ _ _ n _=>n,λb a q _=>⟨a,k b a q⟩,λ_ _ q=>q,λ_ _ _ q=>q,λ_ c q=>⟨#[],by rw[q];simp⟩⟩
theorem Un.refl:Un fs s H H h h:=Un.kept λ_ _ q=>q
theorem Un.laid(k:∀b u,h.get? b=some u->h'.get? b=some u)(d:h.objs.size<=a)(c:H a=none):Un fs s H (upd H a o) h h' where
 keep:=λb u q _ _ _=>k b u q
 slot:=λb u q _ _ _=>⟨u.slots,k b u q⟩
 free:=λb u q n _=>by rw[qc0 (zAk (zAc (zA9 q) d))];exact n
 there:=λb u q _=>⟨u,k b u q⟩
 tups:=λb e q=>by rw[qc0 (qc9 q c)];exact q
 frzs:=λb u e q=>by rw[qc0 (qc9 q c)];exact q
 tbls:=λb f q=>⟨#[],by rw[qc0 (qc9 q c),q];simp⟩
theorem Un.write(c:Mut (H x))(j:e=x∨H e=some (.own x))(k:∀b u,b≠e->h.get? b=some u->h'.get? b=some u)(d:∃u,h'.get? e=some u):Un fs s H (upd H x o) h h':=by
 have g:∀b,H b=none->b≠x:=λb n z=>by subst z;rw[n] at c;exact c
 have i:∀b,H b=none->b≠e:=λb n z=>by subst z;rcases j with r|r;{exact g b n r};rw[n] at r;cases r
 have f:∀b u,H b=some u->¬Mut (some u)->b≠x:=λb u q l z=>by subst z;rw[q] at c;exact l c
 refine⟨λb u q n _ _=>k b u (i b n) q,λb u q n _ _=>⟨u.slots,k b u (i b n) q⟩,λb u q n _=>by rw[qc0 (g b n)];exact n,λb u q _=>?_,
  λb m q=>by rw[qc0 (f b _ q λz=>z)];exact q,λb u m q=>by rw[qc0 (f b _ q λz=>z)];exact q,λb p q=>⟨#[],by rw[qc0 (f b _ q λz=>z),q];simp⟩⟩
 by_cases a:b=e;{subst a;exact d};exact⟨u,k b u a q⟩
end
noncomputable def trk(h:Heap)(H:Hp):List γ:=(N7 h.objs.size).filter λa=>(H a).isSome
def Ir(h:Heap)(H:Hp):Heap:=W.hideAll h (trk h H)
theorem qau6(h:Heap)(H:Hp):(Ir h H).objs.size=h.objs.size:=W.hideAll_size _ _
theorem qaJ0(e:h.get? b=some o)(n:H b=none):(Ir h H).get? b=some o:=W.hideAll_get _ e λa=>by
 have q:=(zAt.mp a).2;rw[n] at q;simp at q
theorem qaR1(e:(Ir h H).get? b=some o):h.get? b=some o/\H b=none:=by have a:h.get? b=some o:=W.of_hideAll (trk h H) e;refine⟨a,?_⟩;cases q:H b with|none=>rfl|some x=>have c:b∈trk h H:=zAt.mpr ⟨zAo.mpr (zA9 a),by simp[q]⟩;have z:(Ir h H).get? b=none:=W.hideAll_none (trk h H) c;rw[z] at e;cases e
structure Mod(K:P')(mg:Str->Option V')(base:Heap):Prop where
 kin:K.In base
 glob:base.Ns Nf mg
 blt:∃mb,base.Ns builtinsNs mb/\∀x:Str,x ≠ "__name__" -> mb x=Na x
 nolimit:base.NoLimit
structure Cx where
 prog:Nq
 w:Nt
 K:P'
 mg:Str->Option V'
 base:Heap
 A:Nr
 N:List Str
 s₀:δ
 H₀:Hp
 env:Env
 outer:List Env
 stack:List Env
 ex:List γ
 fn:Str->Bool
 calm:Bool
 pn:List (γ×Obj)
 xe:V'->δ->Prop
noncomputable def frs(l:List Env):List γ:=l.filterMap (·.frame)
abbrev Cx.fs(X:Cx):List γ:=frs X.outer
def Vis(sc:Scope)(x:Str):Prop:=sc.names.lookup x=some .local∨sc.names.lookup x=some .cell∨sc.names.lookup x=some .free
def Loc(sc:Scope)(x:Str):Prop:=sc.names.lookup x=some .local∨sc.names.lookup x=some .cell
def Look(env:Env)(h:Heap)(m:Str->Option V')(x:Str)(u:V'):Prop:=(env.kindOf x=some .local/\m x=some u)∨((env.kindOf x=some .cell∨env.kindOf x=some .free)/\∃c,env.cells.lookup x=some c/\h.IsCell c (some u))
structure Cx.Ok(X:Cx):Prop where
 mod:Mod X.K X.mg X.base
 kind:X.env.scope.kind=.function
 glob:X.env.globals=Nf
 blt:X.env.builtins=builtinsNs
 above:X.s₀.heap.objs.size<=X.env.locals
 inj:∀x y c,X.env.cells.lookup x=some c->X.env.cells.lookup y=some c->x=y
 has:∀x,(X.env.kindOf x=some .cell∨X.env.kindOf x=some .free)->∃c,X.env.cells.lookup x=some c
 cab:∀x c,X.fn x=true->X.env.cells.lookup x=some c->X.s₀.heap.objs.size<=c
 hd:X.calm=true->X.A.handled=none
 frames:X.A.frames=some X.stack
 stk:X.stack=X.outer∨(X.stack=X.env::X.outer/\X.env.frame=some X.env.locals)
 exf:∀b∈X.ex,b≠X.env.locals/\∀x c,X.env.cells.lookup x=some c->c≠b
 bs:∀b o,X.base.get? b=some o->X.s₀.heap.get? b=some o/\X.H₀ b=none
 bsz:X.base.objs.size<=X.s₀.heap.objs.size
 noex:∀b o,X.base.get? b=some o->b∉X.ex
 exfs:∀b∈X.ex,b∉X.fs
 funs:X.s₀.heap.FunFrames X.base X.outer
 frf:∀b∈X.fs,X.H₀ b=none
structure Q9(X:Cx)(Fm:List (γ×Obj))(a:List (Option V))(H:Hp)(s:δ):Prop where
 ok:X.Ok
 os:s.os=X.s₀.os
 bare:AllBare s.gens
 base:Un X.fs X.ex X.H₀ H X.s₀.heap s.heap
 loc:∃m,s.heap.Ns X.env.locals m/\∀(i:Nat)(x:Str)(v:V),X.N[i]?=some x->a[i]?=some (some v)->Vis X.env.scope x->∃u,Q6 v u/\Look X.env s.heap m x u
 cell:∀x c,X.env.cells.lookup x=some c->∃v,s.heap.IsCell c v
 free:H X.env.locals=none
 freeC:∀x c,X.env.cells.lookup x=some c->H c=none
 pin:∀p∈X.pn++Fm,s.heap.get? p.1=some p.2/\H p.1=none/\p.1≠X.env.locals/\p.1∉X.fs/\∀v,p.2.data≠.cell v
 hok:HOk X.prog X.w H s.heap
 len:a.length=X.N.length
section
variable{X:Cx}{Fm:List (γ×Obj)}{σ:List (Option V)}{H H':Hp}{s:δ}{h':Heap}
theorem Cx.Ok.nofr(a:X.Ok)(e:X.base.get? b=some o):b∉X.fs:=λc=>by
 have:=(a.funs.mem c).1
 rw[e] at this;cases this
theorem Q9.bs(I:Q9 X Fm σ H s):∀b o,X.base.get? b=some o->s.heap.get? b=some o/\H b=none:=λb o e=>
 ⟨I.base.keep b o (I.ok.bs b o e).1 (I.ok.bs b o e).2 (I.ok.nofr e) (I.ok.noex b o e),I.base.free b o (I.ok.bs b o e).1 (I.ok.bs b o e).2 (I.ok.noex b o e)⟩
theorem Q9.bk(I:Q9 X Fm σ H s):∀b o,X.base.get? b=some o->s.heap.get? b=some o:=λb o e=>(I.bs b o e).1
theorem Q9.mod(I:Q9 X Fm σ H s):Mod X.K X.mg X.base:=I.ok.mod
theorem Q9.kIn(I:Q9 X Fm σ H s):X.K.In s.heap:=I.ok.mod.kin.keeps I.bk
theorem Q9.lt(I:Q9 X Fm σ H s):X.env.locals<s.heap.objs.size:=let ⟨_,hn,_⟩:=I.loc;hn.lt
theorem Q9.sz(I:Q9 X Fm σ H s):X.s₀.heap.objs.size<=s.heap.objs.size:=zAg I.ok.above (zBc I.lt)
theorem Q9.nofs(I:Q9 X Fm σ H s)(h:s.heap.objs.size<=a):a∉X.fs:=λb=>by
 obtain⟨_,o,c,_⟩:=I.ok.funs.mem b;exact absurd (zAc (zA9 c) (zAg I.sz h)) (zC5 _)
theorem Q9.cne(I:Q9 X Fm σ H s):∀x c,X.env.cells.lookup x=some c->c≠X.env.locals:=λx c e z=>by
 obtain⟨v,o,d,f⟩:=I.cell x c e;obtain⟨m,⟨g,h,i,a,b,_⟩,_⟩:=I.loc;rw[z,a] at d;cases d;rw[b] at f;cases f
theorem Q9.funs(I:Q9 X Fm σ H s):s.heap.FunFrames X.base X.outer:=by
 have all:∀(l:List Env),(∀b∈frs l,b∈X.fs)->X.s₀.heap.FunFrames X.base l->s.heap.FunFrames X.base l:=by intro l;induction l with|nil=>intro _ _;trivial|cons g r h=>intro f i;obtain⟨j,⟨L,o,a,k,m,n⟩,p⟩:=i;have c:=f L (by unfold frs;rw[zCe,a];exact zA7);obtain⟨q,e⟩:=I.base.slot L o m (I.ok.frf L c) c λz=>I.ok.exfs L z c;exact⟨j,⟨L,_,a,k,e,n⟩,h (λb d=>f b (by unfold frs;rw[zCe,a];exact zA6 _ d)) p⟩
 exact all X.outer (λ_ d=>d) I.ok.funs
theorem Q9.stack(I:Q9 X Fm σ H s):s.heap.FunFrames X.base X.stack:=by rcases I.ok.stk with e|⟨e,a⟩;{rw[e];exact I.funs};rw[e];obtain⟨m,b,_⟩:=I.loc;refine .cons (by rw[I.ok.kind];decide) a b ?_ I.funs;exact Heap.get?_none_of_le (zAg I.ok.bsz I.ok.above)
theorem Q9.stkSub(I:Q9 X Fm σ H s):∀b∈frs X.stack,b∈X.env.locals::X.fs:=λb a=>by
 rcases I.ok.stk with e|⟨e,c⟩
 .rw[e] at a;exact zA6 _ a
 rw[e] at a;unfold frs at a;rw[zCe,c] at a;exact a
theorem Q9.stkFree(I:Q9 X Fm σ H s):∀b∈frs X.stack,H b=none:=λb a=>by
 rcases zAj.mp (I.stkSub b a) with e|a
 .rw[e];exact I.free
 obtain⟨_,o,c,_⟩:=I.ok.funs.mem a;exact I.base.free b o c (I.ok.frf b a) λz=>I.ok.exfs b z a
theorem Q9.step(I:Q9 X Fm σ H s)(f:∀b∈ch,(b∈X.ex∨X.s₀.heap.objs.size<=b)/\b≠X.env.locals/\(∀x c,X.env.cells.lookup x=some c->c≠b)/\∀p∈X.pn++Fm,p.1≠b)(keep:∀b o,b≠X.env.locals->b∉X.fs->b∉ch->s.heap.get? b=some o->H b=none->h'.get? b=some o)(slot:∀b o,b≠X.env.locals->b∈X.fs->b∉ch->s.heap.get? b=some o->H b=none->∃B,h'.get? b=some {o with slots:=B})(free:∀b o,b∉ch->s.heap.get? b=some o->H b=none->H' b=none)(there:∀b o,b∉ch->s.heap.get? b=some o->∃o',h'.get? b=some o')(tups:∀b xs,H b=some (.q xs)->H' b=some (.q xs))(frzs:∀b o u,H b=some (.frz o u)->H' b=some (.frz o u))(tbls:∀b ps,H b=some (.tbl ps)->∃more,H' b=some (.tbl (ps++more)))(ns:∀m,s.heap.Ns X.env.locals m->h'.Ns X.env.locals m)(C:HOk X.prog X.w H' h')(K:AllBare g'):Q9 X Fm σ H' {s with heap:=h',gens:=g',drawn:=d',toks:=t'}:=by
 have A:∀b o,X.s₀.heap.get? b=some o->b≠X.env.locals:=λb o e=>zAk (zAc (zA9 e) I.ok.above);have h:∀b o,X.s₀.heap.get? b=some o->b∉X.ex->b∉ch:=λb o e a t=>by rcases (f b t).1 with z|z;{exact a z};exact absurd (zAc (zA9 e) z) (zC5 _)
 have cellK:∀x c,X.env.cells.lookup x=some c->∀v,s.heap.IsCell c v->h'.IsCell c v:=λx c e v ⟨o,y,D⟩=>by have g:=λz=>(f c z).2.2.1 x c e rfl;by_cases F:c∈X.fs;{obtain⟨B,q⟩:=slot c o (I.cne x c e) F g y (I.freeC x c e);exact⟨_,q,D⟩};exact⟨o,keep c o (I.cne x c e) F g y (I.freeC x c e),D⟩
 refine⟨I.ok,I.os,K,⟨λb o e n t a=>?_,λb o e n t a=>?_,λb o e n a=>?_,λb o e a=>?_,λb xs e=>tups b xs (I.base.tups b xs e),λb o xs e=>frzs b o xs (I.base.frzs b o xs e),λb ps e=>?_⟩,?_,λx c e=>?_,?_,λx c e=>?_,λp G=>?_,C,I.len⟩;{exact keep b o (A b o e) t (h b o e a) (I.base.keep b o e n t a) (I.base.free b o e n a)};{obtain⟨B,j⟩:=I.base.slot b o e n t a;obtain⟨E,e2⟩:=slot b _ (A b o e) t (h b o e a) j (I.base.free b o e n a);exact⟨E,e2⟩};{obtain⟨o',j⟩:=I.base.there b o e a;exact free b o' (h b o e a) j (I.base.free b o e n a)};{obtain⟨o',j⟩:=I.base.there b o e a;exact there b o' (h b o e a) j};{obtain⟨L,j⟩:=I.base.tbls b ps e;obtain⟨M,e2⟩:=tbls b _ j;exact⟨L++M,by rw[e2,Array.append_assoc]⟩};{obtain⟨m,N,O⟩:=I.loc;refine⟨m,ns m N,λi x v j e2 P=>?_⟩;obtain⟨u,r,l⟩:=O i x v j e2 P;refine⟨u,r,?_⟩;rcases l with l|⟨k,c,e,z⟩;{exact .inl l};exact .inr ⟨k,c,e,cellK x c e _ z⟩};{obtain⟨v,z⟩:=I.cell x c e;exact⟨v,cellK x c e v z⟩};{obtain⟨m,⟨o,_,_,y,_⟩,_⟩:=I.loc;exact free _ o (λz=>(f _ z).2.1 rfl) y I.free};{obtain⟨v,o,y,D⟩:=I.cell x c e;exact free c o (λz=>(f c z).2.2.1 x c e rfl) y (I.freeC x c e)};obtain⟨e,n,J,nf,d⟩:=I.pin p G;have g:=λz=>(f p.1 z).2.2.2 p G rfl;exact⟨keep p.1 p.2 J nf g e n,free p.1 p.2 g e n,J,nf,d⟩
theorem Q9.un(I:Q9 X Fm σ H s)(u:Un X.fs [] H H' s.heap h')(c:HOk X.prog X.w H' h'):Q9 X Fm σ H' {s with heap:=h',toks:=t'}:=by obtain⟨m,⟨o,l,p,h,r⟩,_⟩:=id I.loc;obtain⟨q,i⟩:=u.any h I.free (by simp);exact I.step (ch:=[]) (λ_ z=>nomatch z) (λb o _ d _ e n=>u.keep b o e n d (by simp)) (λb o _ d _ e n=>u.slot b o e n d (by simp)) (λb o _ e n=>u.free b o e n (by simp)) (λb o _ e=>u.there b o e (by simp)) u.tups u.frzs u.tbls (λt j=>by obtain⟨v,f,g,a,k⟩:=j;rw[h] at a;cases a;exact⟨_,f,g,i,k⟩) c I.bare
theorem Q9.call(I:Q9 X Fm σ H s)(u:Un (frs X.stack) ch H H' s.heap h')(g:HOk X.prog X.w H' h')(l:AllBare g')(d:∀b∈ch,(b∈X.ex∨X.s₀.heap.objs.size<=b)/\b≠X.env.locals/\(∀x c,X.env.cells.lookup x=some c->c≠b)/\∀p∈X.pn++Fm,p.1≠b):Q9 X Fm σ H' {s with heap:=h',gens:=g',drawn:=d',toks:=t'}:=by obtain⟨m,⟨o,y,A,k,r⟩,_⟩:=id I.loc;obtain⟨B,h⟩:=u.any k I.free λz=>(d _ z).2.1 rfl;exact I.step d (λb o h q a e n=>u.keep b o e n (λz=>(zAj.mp (I.stkSub b z)).elim h q) a) (λb o _ _ a e n=>u.any e n a) (λb o a e n=>u.free b o e n a) (λb o a e=>u.there b o e a) u.tups u.frzs u.tbls (λC t=>by obtain⟨D,i,j,f,v⟩:=t;rw[k] at f;cases f;exact⟨_,i,j,h,v⟩) g l
theorem Q9.turned(I:Q9 X Fm σ H s)(k:∀b o,b≠it->s.heap.get? b=some o->h'.get? b=some o)(g:H it=none)(f:it≠X.env.locals)(h1:it∈X.ex∨X.s₀.heap.objs.size<=it)(h2:∀x c,X.env.cells.lookup x=some c->c≠it)(h:∀p∈X.pn++Fm,p.1≠it):Q9 X Fm σ H {s with heap:=h',toks:=t'}:=by
 have d:∀b u,H b=some u->b≠it:=λb u e z=>by rw[z,g] at e;cases e
 refine I.step (ch:=[it]) (λb i=>?_) (λb o _ _ a e _=>k b o (λz=>a (by simp[z])) e) (λb o _ _ a e _=>⟨o.slots,k b o (λz=>a (by simp[z])) e⟩) (λ_ _ _ _ n=>n)
  (λb o a e=>⟨o,k b o (λz=>a (by simp[z])) e⟩) (λ_ _ e=>e) (λ_ _ _ e=>e) (λb y e=>⟨#[],by rw[e];simp⟩) (λm j=>?_) (λb u e=>?_) I.bare
 .have e:b=it:=by simpa using i
  subst e;exact⟨h1,f,h2,h⟩
 {obtain⟨o,l,t,w,r⟩:=j;exact⟨o,l,t,k _ o (Ne.symm f) w,r⟩};refine(I.hok b u e).stay (λc v a q=>k c v ?_ q) (λ_ q=>q) λ_ _ q=>q;rcases a with z|z;{rw[z];exact d b u e};exact d c _ z
theorem Q9.tok(I:Q9 X Fm σ H s)(t:Nat):Q9 X Fm σ H {s with toks:=t}:=I.un Un.refl I.hok
theorem Q9.kept(I:Q9 X Fm σ H s)(k:∀b u,s.heap.get? b=some u->h'.get? b=some u):Q9 X Fm σ H {s with heap:=h',toks:=t'}:=I.un (Un.kept k) (I.hok.kept k)
theorem Q9.laid(I:Q9 X Fm σ H s)(k:∀b u,s.heap.get? b=some u->h'.get? b=some u)(c:s.heap.objs.size<=a)(d:ObjOk X.prog X.w (upd H a o) h' a o):Q9 X Fm σ (upd H a o) {s with heap:=h',toks:=t'}:=I.un (Un.laid k c (I.hok.fresh c)) (I.hok.laid k c d)
theorem Q9.write(I:Q9 X Fm σ H s)(d:Mut (H x))(f:e=x∨H e=some (.own x))(k:∀b u,b≠e->s.heap.get? b=some u->h'.get? b=some u)(a:∃u,h'.get? e=some u)(c:ObjOk X.prog X.w (upd H x o) h' x o):Q9 X Fm σ (upd H x o) {s with heap:=h',toks:=t'}:=I.un (Un.write d f k a) (I.hok.write d f k a c)
theorem Q9.weak{σ':List (Option V)}(I:Q9 X Fm σ H s)(a:σ'.length=σ.length)(w:∀(i:Nat) v,σ'[i]?=some (some v)->σ[i]?=some (some v)):Q9 X Fm σ' H s:=⟨I.ok,I.os,I.bare,I.base,let ⟨m,hn,hl'⟩:=I.loc;⟨m,hn,λi x v b e2 c=>hl' i x v b (w i v e2) c⟩,I.cell,I.free,I.freeC,I.pin,I.hok,a.trans I.len⟩
theorem Q9.pins_of(I:Q9 X Fm σ H s)(h:∀p∈pins',s.heap.get? p.1=some p.2/\H p.1=none/\p.1≠X.env.locals/\p.1∉X.fs/\∀v,p.2.data≠.cell v):Q9 X pins' σ H s:=⟨I.ok,I.os,I.bare,I.base,I.loc,I.cell,I.free,I.freeC,λp a=>(zAf.mp a).elim (λz=>I.pin p (zC7 _ z)) (h p),I.hok,I.len⟩
theorem qU9(c:N.Nodup)(a:N[i]?=some x)(b:N[j]?=some x):i=j:=by obtain⟨e,d⟩:=zA4.mp a;obtain⟨f,e2⟩:=zA4.mp b;exact(Ov c).mp (d.trans e2.symm)
theorem qaq9(I:Q9 X Fm σ H s)(hN:X.N.Nodup)(hi:X.N[i]?=some x)(t:Loc X.env.scope x)(r:Q6 v u)(h:∀s',Q9 X Fm (σ.set i (some v)) H s'->(∃a,Heap.SameBut a s.heap s'.heap/\(a=X.env.locals∨X.env.cells.lookup x=some a))->Q () s')(hf:X.fn x=true∨X.env.scope.names.lookup x=some .local:=by first|exact .inl rfl|exact .inr rfl|assumption):No M A (storeName X.env x u) Q E s:=by
 obtain⟨m,W,hl⟩:=id I.loc;have K:(X.env.scope.kind==.class||(X.env.scope.kind==.module&&X.env.locals != X.env.globals))=false:=by rw[I.ok.kind];rfl
 have hiσ:i<σ.length:=by rw[I.len];exact(zA4.mp hi).1
 have C:=I.cne;have tracked:∀{a:γ}{J:Heap},(∃o,s.heap.get? a=some o/\H a=none)->Heap.SameBut a s.heap J->HOk X.prog X.w H J:=λ{a J} ha f b ob e=>by obtain⟨_,_,hfree⟩:=ha;refine(I.hok b ob e).stay (λc S l q=>(f.2 c ?_).trans q) (λ_ q=>q) λ_ _ q=>q;rintro rfl;rcases l with rfl|l;{rw[hfree] at e;cases e};rw[hfree] at l;cases l
 rcases t with B|B;{refine wpAny_storeName_local B W (λJ Y f=>?_) K;obtain⟨oL,_,_,Z,_⟩:=id W;refine h _ ⟨I.ok,I.os,I.bare,⟨λb o e n D t=>?_,λb o e n D t=>?_,I.base.free,λb o e t=>?_,I.base.tups,I.base.frzs,I.base.tbls⟩,⟨_,Y,λj y v' g e2 e3=>?_⟩,λy c e=>?_,I.free,I.freeC,λp hp=>?_,tracked ⟨oL,Z,I.free⟩ f,by simpa using I.len⟩ ⟨_,f,.inl rfl⟩;{exact(f.2 b (zAk (zAc (zA9 e) I.ok.above))).trans (I.base.keep b o e n D t)};{obtain⟨sl,g⟩:=I.base.slot b o e n D t;exact⟨sl,(f.2 b (zAk (zAc (zA9 e) I.ok.above))).trans g⟩};{obtain⟨o',g⟩:=I.base.there b o e t;exact⟨o',(f.2 b (zAk (zAc (zA9 e) I.ok.above))).trans g⟩};{by_cases F:j=i;{subst F;rw[hi] at g;cases g;rw[zC1 hiσ] at e2;cases e2;exact⟨u,r,.inl ⟨B,by simp⟩⟩};rw[zBf (Ne.symm F)] at e2;obtain⟨u',r',q⟩:=hl j y v' g e2 e3;refine⟨u',r',?_⟩;rcases q with⟨k,e⟩|⟨k,c,e,z⟩;{refine .inl ⟨k,?_⟩;have:y≠x:=λe=>F (qU9 hN g (e ▸ hi));simp[this,e]};exact .inr ⟨k,c,e,z.sameBut f (C y c e)⟩};{obtain⟨S,z⟩:=I.cell y c e;exact⟨S,z.sameBut f (C y c e)⟩};obtain⟨e,n,T,nf,d⟩:=I.pin p hp;exact⟨(f.2 p.1 T).trans e,n,T,nf,d⟩};have G:X.fn x=true:=by rcases hf with z|z;{exact z};rw[z] at B;cases B
 obtain⟨c,l⟩:=I.ok.has x (.inl B);obtain⟨S,z⟩:=I.cell x c l;refine wpAny_storeName_cell I.ok.kind B l z (λJ L f=>?_);obtain⟨oc,O,P⟩:=id z;refine h {s with heap:=J} ⟨I.ok,I.os,I.bare,⟨λb o e n D t=>?_,λb o e n D t=>?_,I.base.free,λb o e t=>?_,I.base.tups,I.base.frzs,I.base.tbls⟩,⟨m,W.sameBut f (Ne.symm (C x c l)),λj y v' g e2 e3=>?_⟩,λy U e=>?_,I.free,I.freeC,λp hp=>?_,tracked ⟨oc,O,I.freeC x c l⟩ f,by simpa using I.len⟩ ⟨c,f,.inr l⟩;{exact(f.2 b (zAk (zAc (zA9 e) (I.ok.cab x c G l)))).trans (I.base.keep b o e n D t)};{obtain⟨sl,g⟩:=I.base.slot b o e n D t;exact⟨sl,(f.2 b (zAk (zAc (zA9 e) (I.ok.cab x c G l)))).trans g⟩};{obtain⟨o',g⟩:=I.base.there b o e t;exact⟨o',(f.2 b (zAk (zAc (zA9 e) (I.ok.cab x c G l)))).trans g⟩};{by_cases F:j=i;{subst F;rw[hi] at g;cases g;rw[zC1 hiσ] at e2;cases e2;exact⟨u,r,.inr ⟨.inl B,c,l,L⟩⟩};rw[zBf (Ne.symm F)] at e2;obtain⟨u',r',q⟩:=hl j y v' g e2 e3;refine⟨u',r',?_⟩;rcases q with q|⟨k,U,e,z'⟩;{exact .inl q};refine .inr ⟨k,U,e,z'.sameBut f ?_⟩;rintro rfl;exact F (qU9 hN g (I.ok.inj _ _ _ e l ▸ hi))};{by_cases R:U=c;{subst R;exact⟨_,L⟩};obtain⟨w2,z2⟩:=I.cell y U e;exact⟨w2,z2.sameBut f R⟩};obtain⟨e,n,T,nf,d⟩:=I.pin p hp;refine⟨(f.2 p.1 ?_).trans e,n,T,nf,d⟩;intro q;rw[q,O] at e;have q':oc=p.2:=P8 e;exact d S (by rw[<-q'];exact P)
theorem qI1(I:Q9 X Fm σ H s)(a:X.N.Nodup)(hi:X.N[i]?=some x)(b:Loc X.env.scope x)(r:Q6 v u)(h:∀s',Q9 X Fm (σ.set i (some v)) H s'->Q () s')(c:X.fn x=true∨X.env.scope.names.lookup x=some .local:=by first|exact .inl rfl|exact .inr rfl|assumption):No M A (storeName X.env x u) Q E s:=qaq9 I a hi b r (λs' I' _=>h s' I') c
theorem Q9.call'(I:Q9 X Fm σ H s)(e:s'.os=s.os)(u:Un (frs X.stack) ch H H' s.heap s'.heap)(a:HOk X.prog X.w H' s'.heap)(f:AllBare s'.gens)(d:∀b∈ch,(b∈X.ex∨X.s₀.heap.objs.size<=b)/\b≠X.env.locals/\(∀x c,X.env.cells.lookup x=some c->c≠b)/\∀p∈X.pn++Fm,p.1≠b):Q9 X Fm σ H' s':=by obtain⟨g,h,i,j,k⟩:=s';subst (e);exact I.call u a f d
end
abbrev XK:=V'->Option γ->Hp->Prop
abbrev St:=List (Option V)
abbrev VK:=V->Hp->Prop
abbrev TE:=St->Hp->VK->Prop
abbrev TT:=St->Hp->(Bool->Hp->Prop)->Prop
abbrev TA:=St->Hp->(List V->Hp->Prop)->Prop
structure B7 where
 nx:St->Hp->Prop
 rt:VK
 bk:St->Hp->Prop:=λ_ _=>False
 ct:St->Hp->Prop:=λ_ _=>False
abbrev TS:=B7->St->Hp->Prop
def EP(X:Cx)(Fm:List (γ×Obj))(a:St)(Q:VK)(u:V')(s':δ):Prop:=∃v H',Q9 X Fm a H' s'/\Q6 v u/\Q v H'
def TP(X:Cx)(Fm:List (γ×Obj))(a:St)(Q:Bool->Hp->Prop)(b:Bool)(s':δ):Prop:=∃H',Q9 X Fm a H' s'/\Q b H'
def AP(X:Cx)(Fm:List (γ×Obj))(a:St)(Q:List V->Hp->Prop)(us:List V')(s':δ):Prop:=∃vs H',Q9 X Fm a H' s'/\Q7 vs us/\Q vs H'
def SP(X:Cx)(Fm:List (γ×Obj))(D:B7)(f:Flow)(s':δ):Prop:=match f with|.next=>∃a' H',Q9 X Fm a' H' s'/\D.nx a' H'|.brk=>∃a' H',Q9 X Fm a' H' s'/\D.bk a' H'|.cont=>∃a' H',Q9 X Fm a' H' s'/\D.ct a' H'|.ret u=>∃v a' H',Q9 X Fm a' H' s'/\Q6 v u/\D.rt v H'
def PE(X:Cx)(e:Nu)(t:TE):Prop:=∀(Fm:List (γ×Obj))(s:δ)(a:St)(H:Hp)(Q:VK),Q9 X Fm a H s->t a H Q->No (Np X.prog X.w) X.A (eval e X.env) (EP X Fm a Q) X.xe s
def PT(X:Cx)(e:Nu)(t:TT):Prop:=∀(Fm:List (γ×Obj))(s:δ)(a:St)(H:Hp)(Q:Bool->Hp->Prop),Q9 X Fm a H s->t a H Q->No (Np X.prog X.w) X.A (isTrue e X.env (eval e X.env)) (TP X Fm a Q) X.xe s
def PW(X:Cx)(e:Nu)(t:TT):Prop:=∀(whole:Sem V')(Fm:List (γ×Obj))(s:δ)(a:St)(H:Hp)(Q:Bool->Hp->Prop),Q9 X Fm a H s->t a H Q->No (Np X.prog X.w) X.A (isTrue e X.env whole) (TP X Fm a Q) X.xe s
theorem PW.pt(h:PW X e t):PT X e t:=h _
def PA(X:Cx)(es:List Nu)(t:TA):Prop:=∀(pos:Pos)(Fm:List (γ×Obj))(s:δ)(a:St)(H:Hp)(Q:List V->Hp->Prop),Q9 X Fm a H s->t a H Q->No (Np X.prog X.w) X.A (spliced (backTo pos (M6 es X.env))) (AP X Fm a Q) X.xe s
def PS(X:Cx)(st:Nv)(t:TS):Prop:=∀(Fm:List (γ×Obj))(s:δ)(a:St)(H:Hp)(D:B7),Q9 X Fm a H s->t D a H->No (Np X.prog X.w) X.A (exec st X.env) (SP X Fm D) X.xe s
def PSs(X:Cx)(st:List Nv)(t:TS):Prop:=∀(Fm:List (γ×Obj))(s:δ)(a:St)(H:Hp)(D:B7),Q9 X Fm a H s->t D a H->No (Np X.prog X.w) X.A (execs st X.env) (SP X Fm D) X.xe s
theorem thn{α:Type}{t:Sem α}{Q Q':α->δ->Prop}{A:Nr}{E:V'->δ->Prop}{s:δ}(h:No M A t Q E s)(b:∀a s,Q a s->Q' a s):No M A t Q' E s:=Nj h b λ_ _ x=>x
section
variable{X:Cx}
def Hs(i:Nat):TE:=λn H Q=>∃v,n[i]?=some (some v)/\Q v H
def tC(v:V):TE:=λ_ H Q=>Q v H
theorem qo9(f:X.N[i]?=some x)(g:Vis X.env.scope x)(b:N' x:=by decide)(d:(x==("__classdict__" : Str))=false:=by decide):PE X (.Name x pos) (Hs i):=by intro Fm s n H Q I h;obtain⟨v,e,h⟩:=h;obtain⟨m,j,k⟩:=I.loc;obtain⟨u,r,l⟩:=k i x v f e g;have fin:EP X Fm n Q u s:=⟨v,H,I,r,h⟩;rcases l with⟨a,hm⟩|⟨a,c,hc,hcell⟩;{exact wpAny_Name (wpAny_loadName_local I.ok.kind a j hm fin) b};rcases a with a|a;{exact wpAny_Name (wpAny_loadName_cell I.ok.kind a hc hcell fin) b};exact wpAny_Name (wpAny_loadName_free I.ok.kind a hc hcell fin d) b
theorem qN3{i j pos}:PE X (.Constant (.int i) j pos) (tC (.int i)):=λ_ _ _ H _ I h=>wpAny_Constant_int ⟨.int i,H,I.tok _,⟨_,rfl⟩,h⟩
theorem pe_bl{b j pos}:PE X (.Constant (.bool b) j pos) (tC (.bl b)):=λ_ _ _ H _ I h=>Constant_bool ⟨.bl b,H,I,rfl,h⟩
theorem qaP6{j pos}:PE X (.Constant .none j pos) (tC .non):=λ_ _ _ H _ I h=>Constant_none ⟨.non,H,I,rfl,h⟩
theorem qba2{x j pos}:PE X (.Constant (.str x) j pos) (tC (.str x)):=λ_ _ _ H _ I h=>Calls.Constant_str ⟨.str x,H,I.tok _,⟨_,rfl⟩,h⟩
def Gl(X:Cx)(x:Str):Prop:=X.env.kindOf x=some .globalImplicit
theorem qO3{n:St}(I:Q9 X Fm n H s)(a:Gl X x)(hm:X.mg x=some u)(h:Q u s)(b:N' x:=by decide):No (Np X.prog X.w) X.A (eval (.Name x pos) X.env) Q E s:=Calls.Name_function_global I.ok.kind a (Calls.loadGlobal_global (by rw[I.ok.glob];exact I.mod.glob.keeps I.bk) hm h) b
theorem qal9{n:St}(I:Q9 X Fm n H s)(a:Gl X x)(hm:X.mg x=none)(b:Na x=some u)(h:Q u s)(c:x ≠ "__name__" := by decide)(d:N' x:=by decide):No (Np X.prog X.w) X.A (eval (.Name x pos) X.env) Q E s:=by obtain⟨g,e,f⟩:=I.mod.blt;exact Calls.Name_function_global I.ok.kind a (Calls.loadGlobal_builtin (by rw[I.ok.glob];exact I.mod.glob.keeps I.bk) hm (by rw[I.ok.blt];exact e.keeps I.bk) ((f x c).trans b) h) d
theorem qaj4(a:Gl X x)(hm:X.mg x=some u)(r:Q6 v u)(b:N' x:=by decide):PE X (.Name x pos) (tC v):=λ_ _ _ H _ I h=>qO3 I a hm ⟨v,H,I,r,h⟩ b
theorem qaQ0(a:Gl X x)(hm:X.mg x=none)(b:Na x=some u)(r:Q6 v u)(c:x ≠ "__name__" := by decide)(d:N' x:=by decide):PE X (.Name x pos) (tC v):=λ_ _ _ H _ I h=>qal9 I a hm b ⟨v,H,I,r,h⟩ c d
variable{a b:Nu}{o y:TE}{pos:Pos}
def tB(t:TE):TT:=λn H Q=>t n H λx H1=>∃c,x=.bl c/\Q c H1
theorem qaE7(h:PE X e t)(b:∀whole,isTrue e X.env whole=(do let v<-whole;standAt e.pos;holding [v] (truthy v)):=by intro _;rfl):PT X e (tB t):=by intro Fm s n H Q I c;refine isTrue_plain (thn (h Fm s n H _ I c) λv i a=>?_) (b _);obtain⟨x,H1,I1,f,g⟩:=a;obtain⟨d,rfl,q⟩:=g;cases f;exact Nb ⟨H1,I1,q⟩
variable{p tB':TT}{rest:List Nu}
def tAnd(t u:TT):TT:=λn H Q=>t n H λc H1=>if c=true then u n H1 Q else Q false H1
def tOr(t u:TT):TT:=λn H Q=>t n H λc H1=>if c=true then Q true H1 else u n H1 Q
def tNot(t:TT):TT:=λn H Q=>t n H λc H1=>Q (!c) H1
theorem qaO1(b:PT X a p):PW X (.BoolOp .And [a] pos) p:=by intro d Fm s n H Q I h;refine isTrue_and (thn (b Fm s n H Q I h) λc f e=>?_);cases c with|true=>exact isTrue_and_nil e|false=>exact e
theorem qaZ2(b:PT X a p):PW X (.BoolOp .Or [a] pos) p:=by intro d Fm s n H Q I h;refine isTrue_or (thn (b Fm s n H Q I h) λc f e=>?_);cases c with|false=>exact isTrue_or_nil e|true=>exact e
theorem qaZ3(f:PT X a p)(g:PW X (.BoolOp .And (b::rest) pos) tB'):PW X (.BoolOp .And (a::b::rest) pos) (tAnd p tB'):=by intro i Fm s n H Q I h;refine isTrue_and (thn (f Fm s n H _ I h) λc j d=>?_);obtain⟨H1,I1,e⟩:=d;cases c with|true=>exact g i Fm j n H1 Q I1 e|false=>exact⟨H1,I1,e⟩
theorem pw_or(f:PT X a p)(g:PW X (.BoolOp .Or (b::rest) pos) tB'):PW X (.BoolOp .Or (a::b::rest) pos) (tOr p tB'):=by intro i Fm s n H Q I h;refine isTrue_or (thn (f Fm s n H _ I h) λc j d=>?_);obtain⟨H1,I1,e⟩:=d;cases c with|true=>exact⟨H1,I1,e⟩|false=>exact g i Fm j n H1 Q I1 e
theorem qaO2(b:PT X a p):PT X (.UnaryOp .Not a pos) (tNot p):=by intro Fm s n H Q I h;exact isTrue_not (b Fm s n H (λc H1=>Q (!c) H1) I h)
def tAndV(o y:TE):TE:=λn H Q=>o n H λx H1=>∃c,x=.bl c/\if c=true then y n H1 Q else Q (.bl false) H1
def tOrV(o y:TE):TE:=λn H Q=>o n H λx H1=>∃c,x=.bl c/\if c=true then Q (.bl true) H1 else y n H1 Q
def tNotV(o:TE):TE:=λn H Q=>o n H λx H1=>∃c,x=.bl c/\Q (.bl (!c)) H1
theorem qas4{op}(h:PE X a t):PE X (.BoolOp op [a] pos) t:=λFm s n H Q I b=>BoolOp_one (h Fm s n H Q I b)
theorem qas8(f:PE X a o)(g:PE X (.BoolOp .And (b::rest) pos) y):PE X (.BoolOp .And (a::b::rest) pos) (tAndV o y):=by intro Fm s n H Q I h;refine BoolOp_and (thn (f Fm s n H _ I h) λv i e=>?_);obtain⟨x,H1,I1,j,d⟩:=e;obtain⟨c,rfl,d⟩:=d;cases j;refine Nb ?_;cases c with|true=>exact g Fm i n H1 Q I1 d|false=>exact⟨.bl false,H1,I1,rfl,d⟩
theorem pe_or(f:PE X a o)(g:PE X (.BoolOp .Or (b::rest) pos) y):PE X (.BoolOp .Or (a::b::rest) pos) (tOrV o y):=by intro Fm s n H Q I h;refine BoolOp_or (thn (f Fm s n H _ I h) λv i e=>?_);obtain⟨x,H1,I1,j,d⟩:=e;obtain⟨c,rfl,d⟩:=d;cases j;refine Nb ?_;cases c with|false=>exact g Fm i n H1 Q I1 d|true=>exact⟨.bl true,H1,I1,rfl,d⟩
theorem qaP5(e:PE X a o):PE X (.UnaryOp .Not a pos) (tNotV o):=by intro Fm s n H Q I h;refine UnaryOp_ (thn (e Fm s n H _ I h) λv g b=>?_);obtain⟨x,H1,I1,f,d⟩:=b;obtain⟨c,rfl,d⟩:=d;cases f;exact not_of (Nb ⟨.bl (!c),H1,I1,rfl,d⟩)
def tIf(t:TT)(o y:TE):TE:=λn H Q=>t n H λc H1=>if c=true then o n H1 Q else y n H1 Q
theorem qaj3(i:PT X c p)(j:PE X a o)(k:PE X b y):PE X (.IfExp c a b pos) (tIf p o y):=by intro Fm s n H Q I h;refine wpAny_IfExp (thn (i Fm s n H _ I h) λd f e=>?_);obtain⟨H1,I1,g⟩:=e;cases d with|true=>exact j Fm f n H1 Q I1 g|false=>exact k Fm f n H1 Q I1 g
end
def SqL(K:P')(H:Hp)(a:γ)(xs:List V):Prop:=Rd H a (.l xs)∨∃(o:Obj)(its:Array V')(n:Nat),K.lookup a=some o/\o.cls=.type "list" /\ o.dict=none/\o.data=.seq its n/\its.size<=M7/\Q7 xs its.toList
def SqT(K:P')(H:Hp)(a:γ)(xs:List V):Prop:=Rd H a (.q xs)∨∃(o:Obj)(its:Array V')(n:Nat),K.lookup a=some o/\o.cls=.type "tuple" /\ o.data=.seq its n/\its.size<=M7/\Q7 xs its.toList
noncomputable def absV:V'->Option V|.none=>some .non|.bool b=>some (.bl b)|.int i _=>some (.int i)|.str x _=>some (.str x)|.bytes b _=>some (.byt b)|.float b _=>some (.flt b)|.ref a=>some (.ref a)|.type n=>some (.ty n)|_=>none
theorem Q6.abs(r:Q6 x u):absV u=some x:=by cases x with|non=>cases r;rfl|bl _=>cases r;rfl|int _=>obtain⟨t,rfl⟩:=r;rfl|str _=>obtain⟨t,rfl⟩:=r;rfl|byt _=>obtain⟨t,rfl⟩:=r;rfl|flt _=>obtain⟨t,rfl⟩:=r;rfl|ref _=>cases r;rfl|ty _=>cases r;rfl
theorem Q6.inj(r:Q6 x u)(q:Q6 y u):x=y:=P8 (r.abs.symm.trans q.abs)
theorem Q7.inj(h:Q7 xs us)(g:Q7 ys us):xs=ys:=by induction h generalizing ys with|nil=>cases g;rfl|cons r t i=>cases g with|cons q u=>rw[r.inj q,i u]
section
variable{X:Cx}{q:List (γ×Obj)}{m:St}{H:Hp}{s:δ}{a:γ}{xs ys:List V}
theorem SqL.of{K:P'}(h:H a=some (.l xs)):SqL K H a xs:=.inl (.inl h)
theorem Q9.list(I:Q9 X q m H s)(h:SqL X.K H a xs):∃its:List V',Q7 xs its/\PlainL s.heap a its.toArray/\xs.length<=M7:=by rcases h with h|⟨o,its,n,b,c,d,f,g,r⟩;{obtain⟨z,its,n,r,e⟩:=h.ok I.hok;exact⟨its,r,⟨_,n,e,rfl,rfl,rfl⟩,z⟩};refine⟨its.toList,r,⟨o,n,I.kIn a o b,c,d,by simpa using f⟩,?_⟩;have e:=r.length;simp only[zB6] at e;lia
theorem Q9.tuple(I:Q9 X q m H s)(h:SqT X.K H a xs):∃its:List V',Q7 xs its/\IsTup s.heap a its.toArray/\xs.length<=M7:=by rcases h with h|⟨o,its,n,b,c,d,f,r⟩;{obtain⟨z,its,r,p⟩:=h.ok I.hok;exact⟨its,r,p,z⟩};refine⟨its.toList,r,⟨o,I.kIn a o b,c,n,by simpa using d⟩,?_⟩;have e:=r.length;simp only[zB6] at e;lia
theorem Q9.list_inj(I:Q9 X q m H s)(h:SqL X.K H a xs)(h':SqL X.K H a ys):xs=ys:=by
 obtain⟨b,r,⟨o,n,e,_,_,d⟩,_⟩:=I.list h;obtain⟨its',g,⟨j,k,c,_,_,f⟩,_⟩:=I.list h';rw[e] at c;cases c;rw[d] at f;injection f with i _;have:b=its':=by simpa using congrArg Array.toList i
 subst this;exact r.inj g
end
noncomputable abbrev Cx.wish(X:Cx)(E:V'->δ->Prop):Cx:={X with xe:=E}
abbrev Cx.nox(X:Cx):Cx:=X.wish λ_ _=>False
theorem Cx.Ok.wish{X:Cx}(a:X.Ok)(E:V'->δ->Prop):(X.wish E).Ok:=⟨a.mod,a.kind,a.glob,a.blt,a.above,a.inj,a.has,a.cab,a.hd,a.frames,a.stk,a.exf,a.bs,a.bsz,a.noex,a.exfs,a.funs,a.frf⟩
theorem Cx.Ok.unwish{X:Cx}(a:(X.wish E).Ok):X.Ok:=⟨a.mod,a.kind,a.glob,a.blt,a.above,a.inj,a.has,a.cab,a.hd,a.frames,a.stk,a.exf,a.bs,a.bsz,a.noex,a.exfs,a.funs,a.frf⟩
section
variable{X:Cx}{c:List (γ×Obj)}{b:St}{H:Hp}{s:δ}{E:V'->δ->Prop}
theorem Q9.wish(I:Q9 X c b H s)(E:V'->δ->Prop):Q9 (X.wish E) c b H s:=⟨I.ok.wish E,I.os,I.bare,I.base,I.loc,I.cell,I.free,I.freeC,I.pin,I.hok,I.len⟩
theorem Q9.unwish(I:Q9 (X.wish E) c b H s):Q9 X c b H s:=⟨I.ok.unwish,I.os,I.bare,I.base,I.loc,I.cell,I.free,I.freeC,I.pin,I.hok,I.len⟩
theorem SP.unwish(h:SP (X.wish E) c D f s'):SP X c D f s':=by cases f with|next=>obtain⟨b',H',I,q⟩:=h;exact⟨b',H',I.unwish,q⟩|brk=>obtain⟨b',H',I,q⟩:=h;exact⟨b',H',I.unwish,q⟩|cont=>obtain⟨b',H',I,q⟩:=h;exact⟨b',H',I.unwish,q⟩|ret u=>obtain⟨v,b',H',I,r,q⟩:=h;exact⟨v,b',H',I.unwish,r,q⟩
theorem PSs.nox{st:List Nv}(h:PSs X.nox st t):PSs X st t:=λc s b H D I a=>
 Nj (h c s b H D (I.wish _) a) (λ_ _ q=>q.unwish) λ_ _ z=>Qv z
end
section
variable{X:Cx}{n:Nv}{rest:List Nv}{t u:TS}{e:Nu}{te:TE}{m:Pos}
def tNext:TS:=λD l H=>D.nx l H
def tSeq(t u:TS):TS:=λD l H=>t {D with nx:=u D} l H
theorem qaz2:PSs X [] tNext:=λ_ _ l H _ I h=>wpAny_execs_nil ⟨l,H,I,h⟩
theorem qT9(h1:PS X n t)(h2:PSs X rest u):PSs X (n::rest) (tSeq t u):=by intro Fm s l H D I h;refine wpAny_execs_cons (thn (h1 Fm s l H {D with nx:=u D} I h) λf a q=>?_);cases f with|next=>obtain⟨l',H',I',q⟩:=q;exact h2 Fm a l' H' D I' q|ret v=>exact q|brk=>exact q|cont=>exact q
theorem qt0(h1:PS X n t):PSs X [n] t:=by intro Fm s l H D I h;refine wpAny_execs_cons (thn (h1 Fm s l H D I h) λf a q=>?_);cases f with|next=>exact wpAny_execs_nil q|ret v=>exact q|brk=>exact q|cont=>exact q
theorem Q9.quiet(I:Q9 X Fm l H s):interactive X.env=false:=by simp[interactive,I.ok.kind]
def tDrop(te:TE):TS:=λD l H=>te l H λ_ H1=>D.nx l H1
theorem qaO4(a:PE X e te)(b:swapsWith e none m.line X.env=pure false:=by rfl):PS X (.Expr e m) (tDrop te):=by intro Fm s l H D I h;exact wpAny_Expr_any (thn (a Fm s l H _ I h) λv d ⟨x,H1,I1,f,c⟩=>⟨l,H1,I1,c⟩) I.quiet b
def tRet(te:TE):TS:=λD l H=>te l H D.rt
theorem Kv(a:PE X e te):PS X (.Return (some e) m) (tRet te):=by intro Fm s l H D I h;exact wpAny_Return_some (thn (a Fm s l H _ I h) λv d ⟨x,H1,I1,b,c⟩=>⟨x,l,H1,I1,b,c⟩)
def tIfS(c:TT)(t u:TS):TS:=λD l H=>c l H λb H1=>if b=true then t D l H1 else u D l H1
theorem ps_if(i:PT X c tc)(j:PSs X a t)(k:PSs X b u):PS X (.If c a b m) (tIfS tc t u):=by intro Fm s l H D I h;refine wpAny_If (thn (i Fm s l H _ I h) λd f e=>?_);obtain⟨H1,I1,g⟩:=e;cases d with|true=>exact j Fm f l H1 D I1 g|false=>exact k Fm f l H1 D I1 g
def qaY3:TS:=λ_ _ _=>False
theorem qaF1:PS X n qaY3:=λ_ _ _ _ _ _ h=>h.elim
end
abbrev TG:=V->St->Hp->(St->Hp->Prop)->Prop
abbrev TGs:=List V->St->Hp->(St->Hp->Prop)->Prop
def PG(X:Cx)(target:Nu)(t:TG):Prop:=∀(Fm:List (γ×Obj))(s:δ)(a:St)(H:Hp)(v:V)(u:V')(Q:St->Hp->Prop),Q9 X Fm a H s->Q6 v u->t v a H Q->No (Np X.prog X.w) X.A (assign target X.env u) (λ_ s'=>∃a' H',Q9 X Fm a' H' s'/\Q a' H') X.xe s
def PGs(X:Cx)(ts:List Nu)(t:TGs):Prop:=∀(Fm:List (γ×Obj))(s:δ)(a:St)(H:Hp)(vs:List V)(us:List V')(Q:St->Hp->Prop),Q9 X Fm a H s->Q7 vs us->t vs a H Q->No (Np X.prog X.w) X.A (assignInOrder ((Nm ts X.env).map (·.2)) us) (λ_ s'=>∃a' H',Q9 X Fm a' H' s'/\Q a' H') X.xe s
abbrev Lp:=V->V->V->Hp->(Hp->Prop)->Prop
def PSet(X:Cx)(t:Lp):Prop:=∀(Fm:List (γ×Obj))(s:δ)(a:St)(H:Hp)(o i v:V)(ov iv u:V')(Q:Hp->Prop),Q9 X Fm a H s->Q6 o ov->Q6 i iv->Q6 v u->t o i v H Q->No (Np X.prog X.w) X.A (setItem ov iv u) (λ_ s'=>∃H',Q9 X Fm a H' s'/\Q H') X.xe s
abbrev TIp:=V->V->Hp->VK->Prop
def PIp(X:Cx)(op:Operator)(t:TIp):Prop:=∀(Fm:List (γ×Obj))(s:δ)(a:St)(H:Hp)(x y:V)(v u:V')(Q:VK),Q9 X Fm a H s->Q6 x v->Q6 y u->t x y H Q->No (Np X.prog X.w) X.A (inplaceOp op v u) (EP X Fm a Q) X.xe s
section
variable{X:Cx}{pos:Pos}
def Ia(i:Nat):TG:=λv R H Q=>Q (R.set i (some v)) H
theorem qaz5(a:X.N.Nodup)(hi:X.N[i]?=some x)(b:Loc X.env.scope x)(c:X.fn x=true∨X.env.scope.names.lookup x=some .local:=by first|exact .inl rfl|exact .inr rfl|assumption):PG X (.Name x pos) (Ia i):=by intro Fm s R H v u Q I r h;exact wpAny_assign_Name (qI1 I a hi b r (λd I'=>⟨_,H,I',h⟩) c)
def gNil:TGs:=λvs R H Q=>vs=[]/\Q R H
def gCons(t:TG)(u:TGs):TGs:=λvs R H Q=>∃v r,vs=v::r/\t v R H λR' H'=>u r R' H' Q
theorem qaP1:PGs X [] gNil:=by intro Fm s R H a b Q I r h;obtain⟨e,h⟩:=h;subst e;cases r;exact assignInOrder_nil ⟨R,H,I,h⟩
theorem qaF6(h1:PG X e t)(h2:PGs X es u)(a:(Nm (e::es) X.env).map (·.2)=assign e X.env::(Nm es X.env).map (·.2):=by rfl):PGs X (e::es) (gCons t u):=by intro Fm s R H g i Q I r h;obtain⟨v,j,b,h⟩:=h;subst b;cases r with|cons r c=>rw[a];exact assignInOrder_cons (thn (h1 Fm s R H _ _ _ I r h) λ_ d ⟨σ1,H1,I1,f⟩=>(h2 Fm d σ1 H1 _ _ Q I1 c f))
def gTup(K:P')(n:Nat)(t:TGs):TG:=λv R H Q=>∃a xs,v=.ref a/\SqT K H a xs/\xs.length=n/\t xs R H Q
theorem qaZ9(g:X.calm=true)(h:PGs X es t)(i:(Nm es X.env).length=n:=by rfl)(c:(Nm es X.env).findIdx? (·.1)=none:=by rfl):PG X (.Tuple es k pos) (gTup X.K n t):=by intro Fm s R H v u Q I r d;obtain⟨a,j,l,m,p,d⟩:=d;subst l;cases r;obtain⟨q,f,w,y⟩:=I.tuple m;exact assign_Tuple_tuple (I.ok.hd g) w (by simp[i,<-p,f.length]) c λz x=>(h Fm _ R H j _ Q (I.kept λb o e=>x b o (zAk (zA9 e)) e) (by simpa using f) d)
def gSub(to a:TE)(t:Lp):TG:=λv R H Q=>to R H λo H1=>a R H1 λi H2=>t o i v H2 λH3=>Q R H3
theorem qba0{o i:Nu}{to a:TE}{t:Lp}(b:PE X o to)(hi:PE X i a)(c:PSet X t)(d:∀v,assign (.Subscript o i pos) X.env v=(do
 let ov<-holding [v] (eval o X.env)
 let iv<-holding [v,ov] (eval i X.env)
 standAt pos
 holding [v,ov,iv] (setItem ov iv v)
 release [v,ov,iv] []):=by intro _;rfl):PG X (.Subscript o i pos) (gSub to a t):=by intro Fm s R H v u Q I r h;rw[d];exact G' (M' (thn (b Fm s R H _ I h) λov e ⟨x,H1,I1,f,g⟩=>(G' (M' (thn (hi Fm e R H1 _ I1 g) λiv j ⟨y,H2,I2,k,q2⟩=>(G' (wpAny_standAt (G' (M' (thn (c Fm j R H2 x y v ov iv u _ I2 f k r q2) λ_ m ⟨H3,I3,l⟩=>(wpAny_release ⟨R,H3,I3,l⟩)))))))))))
def Kw(te:TE)(g:TG):TS:=λD R H=>te R H λx H1=>g x R H1 D.nx
theorem qaZ6(b:PE X e te)(c:PG X tg g)(d:swapsWithSole [tg] e pos.line X.env=pure false:=by rfl)(f:swappedStores [tg] e X.env=pure none:=by rfl)(h1:(Nm [tg] X.env).map (·.2)=[assign tg X.env]:=by rfl):PS X (.Assign [tg] e pos) (Kw te g):=by intro Fm s R H D I h;refine wpAny_Assign_stores (thn (b Fm s R H _ I h) λv i a=>?_) d f;obtain⟨x,H1,I1,j,k⟩:=a;rw[h1];exact thn (c Fm i R H1 x v _ I1 j k) λ_ l q=>q
theorem qaO3(a:X.N.Nodup)(hi:X.N[i]?=some x)(b:Loc X.env.scope x)(c:PE X e te)(d:swapsWith e (some (.Name x pos')) pos.line X.env=pure false:=by rfl)(f:X.fn x=true∨X.env.scope.names.lookup x=some .local:=by first|exact .inl rfl|exact .inr rfl|assumption):PS X (.Assign [.Name x pos'] e pos) (Kw te (Ia i)):=by intro Fm s R H D I h;exact wpAny_Assign_Name (thn (c Fm s R H _ I h) λv k ⟨y,H1,I1,g,j⟩=>(qI1 I1 a hi b g (λl I2=>⟨_,H1,I2,j⟩) f)) d
def tAugS(to b te:TE)(tget:V->V->Hp->VK->Prop)(a:TIp)(tset:Lp):TS:=λD R H=>to R H λo H1=>b R H1 λi H2=>tget o i H2 λx H3=>te R H3 λy H4=>a x y H4 λz H5=>tset o i z H5 λH6=>D.nx R H6
def PGet(X:Cx)(t:V->V->Hp->VK->Prop):Prop:=∀(Fm:List (γ×Obj))(s:δ)(R:St)(H:Hp)(o i:V)(ov iv:V')(Q:VK),Q9 X Fm R H s->Q6 o ov->Q6 i iv->t o i H Q->No (Np X.prog X.w) X.A (getItem ov iv) (EP X Fm R Q) X.xe s
theorem qaO6{i:Nu}{op:Operator}(n:PE X o to)(hi:PE X i g)(p:PGet X tget)(q:PE X e te)(r:PIp X op d)(t:PSet X tset)(u:∀b c a,augStore i b c a=(do holding [a,b,c] (setItem b c a);release [a,b,c] [];pure .next):=by intros;rfl):PS X (.AugAssign (.Subscript o i tpos) op e pos) (tAugS to g te tget d tset):=by intro Fm s R H D I h;exact wpAny_AugAssign_SubscriptAny (thn (n Fm s R H _ I h) λb w ⟨j,H1,I1,k,x⟩=>(thn (hi Fm w R H1 _ I1 x) λc y ⟨l,H2,I2,m,q2⟩=>(thn (p Fm y R H2 j l b c _ I2 k m q2) λf z ⟨A,H3,I3,B,C⟩=>(thn (q Fm z R H3 _ I3 C) λv E ⟨F,H4,I4,G,J⟩=>(thn (r Fm E R H4 A F f v _ I4 B G J) λa K ⟨L,H5,I5,M,N⟩=>(thn (t Fm K R H5 j l L b c a _ I5 k m M N) λ_ P ⟨H6,I6,O⟩=>⟨R,H6,I6,O⟩)))))) u
def ipI(f:Int->Int->Int):TIp:=λx y H Q=>∃i j,x=.int i/\y=.int j/\Q (.int (f i j)) H
theorem qbd7:PIp X .Add (ipI λi j=>i+j):=by intro Fm s R H x y v u Q I a b h;obtain⟨i,j,c,e2,q⟩:=h;subst c;subst e2;obtain⟨t,rfl⟩:=a;obtain⟨d,rfl⟩:=b;exact iadd_int ⟨.int _,H,I.tok _,⟨_,rfl⟩,q⟩
end
section
variable{X:Cx}{B:Pos}
def qaY2(c:TT)(tb:TS):TS:=λD z H=>∃W:Nat->St->Hp->Prop,(∃m,W m z H)/\∀m z H,W m z H->c z H λb H1=>if b=true then ∃N:St->Hp->Prop,(∀z' H',N z' H'->∃a,a<m/\W a z' H')/\tb {D with nx:=N,ct:=N,bk:=D.nx} z H1 else D.nx z H1
theorem qaE9(k:PassesOwn (Np X.prog X.w) X.A X.env X.xe)(m:PT X c tc)(o:PSs X body tb):PS X (.While c body [] B) (qaY2 tc tb):=by intro Fm s z H D I h;obtain⟨W,⟨p,q⟩,turn⟩:=h;refine wpAny_While (codeAny_whileLoop (λn r=>∃z' H',Q9 X Fm z' H' r/\W n z' H') ?_ p ⟨z,H,I,q⟩);rintro n t ⟨σ1,H1,I1,u⟩;refine Nk k (thn (m Fm t σ1 H1 _ I1 (turn n σ1 H1 u)) λb x d=>?_);obtain⟨H2,I2,q2⟩:=d;cases b with|true=>(obtain⟨N,l,q2⟩:=q2;rw[if_pos rfl];refine Nk k (thn (o Fm x σ1 H2 _ I2 q2) λf y a=>?_);cases f with|next=>obtain⟨σ3,H3,I3,e⟩:=a;obtain⟨g,i,j⟩:=l σ3 H3 e;exact⟨g,i,σ3,H3,I3,j⟩|cont=>obtain⟨σ3,H3,I3,e⟩:=a;obtain⟨g,i,j⟩:=l σ3 H3 e;exact⟨g,i,σ3,H3,I3,j⟩|brk=>exact a|ret v=>exact a)|false=>rw[if_neg zAn];exact wpAny_execs_nil ⟨σ1,H2,I2,q2⟩
end
structure It where
 go:Nat->Hp->Prop
 yld:Nat->Hp->V->Hp->Prop
 stop:Nat->Hp->Prop
def Iu(X:Cx)(Fm:List (γ×Obj))(H:Hp)(b:γ):Prop:=H b=none/\b≠X.env.locals/\b∉X.fs/\(b∈X.ex∨X.s₀.heap.objs.size<=b)/\(∀x c,X.env.cells.lookup x=some c->c≠b)/\∀p∈X.pn++Fm,p.1≠b
theorem Q9.fpOk(I:Q9 X Fm g H s)(a:s.heap.objs.size<=b)(d:H' b=none):Iu X Fm H' b:=by refine⟨d,Nat.ne_of_gt (zAc I.lt a),I.nofs a,.inr (zAg I.sz a),λx c e z=>?_,λp f z=>?_⟩;{obtain⟨v,q⟩:=I.cell x c e;exact absurd (zAc q.lt (by rw[z];exact a)) (zC5 _)};exact absurd (zAc (zA9 (I.pin p f).1) (by rw[z];exact a)) (zC5 _)
structure Lq(P:Nq)(w:Nt)(K:P')(tg:Nu)(J:It)(fp:List γ)(it:γ)(tn:Nat->Heap->Prop):Prop where
 mem:it∈fp
 obj:∀i h,tn i h->∀b∈fp,∃o,h.get? b=some o/\∀v,o.data≠.cell v
 keep:∀i h h',tn i h->(∀b∈fp,∀o,h.get? b=some o->h'.get? b=some o)->tn i h'
 item:∀(X:Cx),X.prog=P->X.w=w->X.K=K->X.calm=true->∀(i:Nat)(Fm:List (γ×Obj))(s:δ)(a:St)(H:Hp)(E:V'->δ->Prop),Q9 X Fm a H s->(∀b∈fp,Iu X Fm H b)->tn i s.heap->J.go i H->No (Np P w) X.A (pyNext (.ref it)) (λr s1=>∃u,r=some u/\No (Np P w) X.A (letOwnedTupleGo tg (.ref it) u) (λ_ s2=>∃x H',Q9 X Fm a H' s2/\Q6 x u/\J.yld i H x H'/\tn (i+1) s2.heap/\∀b∈fp,H' b=none) E s1) E s
 done:∀(X:Cx),X.prog=P->X.w=w->X.K=K->X.calm=true->∀(i:Nat)(Fm:List (γ×Obj))(s:δ)(a:St)(H:Hp)(E:V'->δ->Prop),Q9 X Fm a H s->(∀b∈fp,Iu X Fm H b)->tn i s.heap->J.stop i H->No (Np P w) X.A (pyNext (.ref it)) (λr s1=>r=none/\Q9 X Fm a H s1) E s
 self:∀(A:Nr)(i:Nat)(s:δ)(Q:V'->δ->Prop)(E:V'->δ->Prop),tn i s.heap->Q (.ref it) s->No (Np P w) A (pyIter (.ref it)) Q E s
abbrev TI:=St->Hp->(It->Hp->Prop)->Prop
def PIE(X:Cx)(Fm:List (γ×Obj))(c:St)(tg:Nu)(R:It->Hp->Prop)(a:V')(s2:δ):Prop:=∃(it:γ)(fp:List γ)(tn:Nat->Heap->Prop)(J:It)(H':Hp),a=.ref it/\Q9 X Fm c H' s2/\Lq X.prog X.w X.K tg J fp it tn/\tn 0 s2.heap/\(∀b∈fp,Iu X Fm H' b)/\R J H'
def PI(X:Cx)(tg iter:Nu)(wi:TI):Prop:=∀(Fm:List (γ×Obj))(s:δ)(b:St)(H:Hp)(R:It->Hp->Prop),Q9 X Fm b H s->wi b H R->No (Np X.prog X.w) X.A (eval iter X.env) (λv a=>No (Np X.prog X.w) X.A (pyIter v) (PIE X Fm b tg R) X.xe a) X.xe s
theorem go_of{n:String}(b:s.heap.get? it=some o)(c:o.cls=.type n)(d:o.data=.fields vs)(e:["enumerate", "zip", "dict_itemiterator", "dict_reverseitemiterator", "odict_iterator", "itertools.zip_longest", "itertools.pairwise"].contains n=false)(a:Q () s):No M A (letOwnedTupleGo tg (.ref it) u) Q E s:=by
 unfold letOwnedTupleGo;cases tg<;>first
  |exact J' a
  |(cases u<;>first
   |exact J' a
   |(refine G' (wpAny_load b ?_);rw[c,d];show No M A (if (["enumerate", "zip", "dict_itemiterator", "dict_reverseitemiterator", "odict_iterator", "itertools.zip_longest", "itertools.pairwise"].contains n&&vs[0]?==some (rawInt _))=true then _ else _) Q E s;rw[if_neg (by intro h;rw[e,Bool.false_and] at h;cases h)];exact J' a))
noncomputable def Itl(K:P')(a:γ):It:=⟨λi H=>∃xs x,SqL K H a xs/\xs[i]?=some x,λi H x H'=>H'=H/\∀xs,SqL K H a xs->xs[i]?=some x,λi H=>∃xs,SqL K H a xs/\xs.length<=i⟩
noncomputable def Itr(lo:Int)(n:Nat):It:=⟨λi _=>i<n,λi H x H'=>H'=H/\x=.int (lo+i),λi _=>n<=i⟩
theorem qaq3{P:Nq}{w:Nt}{K:P'}{tg:Nu}(a it:γ):Lq P w K tg (Itl K a) [it] it (λi h=>h.IsListIter it a i) where
 mem:=by simp
 obj:=λi h f b g=>by
  have e:b=it:=by simpa using g
  subst e;obtain⟨o,e,c,d⟩:=f;exact⟨o,e,λv z=>by rw[d] at z;cases z⟩
 keep:=λi h l f k=>f.at λo e=>k it (by simp) o e
 item:=by
  intro X q r t J i Fm s R H E I m f y;subst q r t;obtain⟨L,x,n,A⟩:=y;obtain⟨B,C,p,M⟩:=I.list n;obtain⟨u,N,O⟩:=C.get A;obtain⟨D,f1,f2,f3,F,G⟩:=m it (by simp);refine wpAny_pyNext_list_item f p.isList (x:=u) (by simpa using N) λl j Q=>?_
  have I1:Q9 X Fm R H {s with heap:=l}:=I.turned (t':=s.toks) (λb o g e=>(Q.2 b g).trans e) D f1 f3 F G;obtain⟨o,e,c,d⟩:=id j;exact⟨u,rfl,go_of (s:={s with heap:=l}) e c d ∅ ⟨x,H,I1,O,⟨rfl,λU S=>by rw[I.list_inj S n];exact A⟩,j,λb g=>(m b g).1⟩⟩
 done:=by
  intro X q r t J i Fm s R H E I m f y;subst q r t;obtain⟨L,n,A⟩:=y;obtain⟨B,C,p,M⟩:=I.list n;obtain⟨D,f1,f2,f3,F,G⟩:=m it (by simp);have V:=C.length;exact wpAny_pyNext_list_end (I.ok.hd J) f p.isList (by simp;lia) λl T=>⟨rfl,I.turned (t':=s.toks) (λb o g e=>T b o g e) D f1 f3 F G⟩
 self:=λ_ _ _ _ _ f h=>wpAny_pyIter_listiter f h
theorem qaf7{P:Nq}{w:Nt}{K:P'}{tg:Nu}(it:γ)(lo:Int)(n:Nat):Lq P w K tg (Itr lo n) [it] it (λi h=>IsRangeIter h it (lo+(i:Nat)*1) ((n:Int)-(i:Nat)) 1) where
 mem:=by simp
 obj:=λi h a b c=>by
   have e:b=it:=by simpa using c
   subst e;exact⟨_,a,λv z=>by
     cases (z)⟩
 keep:=λi h g a k=>k it (by simp) _ a
 item:=by
   intro X r u x j i Fm s D H E I f a l;subst r u x;obtain⟨m,f1,f2,f3,p,q⟩:=f it (by simp);have W:=Walks.range (prog:=X.prog) (w:=X.w) (I.ok.hd j) it lo 1 n;refine W.item i s _ _ l a λv g y A d B=>?_
   obtain⟨t,rfl⟩:=A;have I1:Q9 X Fm D H {s with heap:=g,toks:=y}:=I.turned (λb o c e=>B b o (by simpa using c) e) m f1 f3 p q;refine⟨_,rfl,go_of d rfl rfl ∅ ⟨.int (lo+i),H,I1,⟨t,?_⟩,⟨rfl,rfl⟩,d,λb c=>(f b c).1⟩⟩;rw[Int.mul_one]
 done:=by
   intro X r u x j i Fm s D H E I f a l;obtain⟨m,f1,f2,f3,p,q⟩:=f it (by simp);exact wpAny_pyNext_range_end (I.ok.hd j) a (by have:n<=i:=l;lia) λg C=>⟨rfl,I.turned (λb o c e=>C b o c e) m f1 f3 p q⟩
 self:=λ_ _ _ _ _ a h=>wpAny_pyIter_rangeiter a h
section
variable{X:Cx}{tg:Nu}
def Jx(K:P')(tl:TE):TI:=λσ H R=>tl σ H λx H1=>∃a,x=.ref a/\(∃xs,SqL K H1 a xs)/\R (Itl K a) H1
theorem qC0(f:PE X l tl):PI X tg l (Jx X.K tl):=by
 intro Fm s σ H R I h;refine thn (f Fm s σ H _ I h) λv c d=>?_;obtain⟨x,H1,I1,g,i⟩:=d;obtain⟨a,e,⟨n,j⟩,q⟩:=i;subst e;cases g;obtain⟨k,r,p,t⟩:=I1.list j;refine wpAny_pyIter_list p.isList ?_;refine⟨c.heap.objs.size,[c.heap.objs.size],_,_,H1,rfl,I1.kept λb o e=>zA2 _ e,qaq3 a _,⟨_,zAx _ rfl,rfl,rfl⟩,λb m=>?_,q⟩;have e:b=c.heap.objs.size:=by simpa using m
 subst e;exact I1.fpOk (zA3 _) (I1.hok.fresh (zA3 _))
theorem qaE6{lo:Int}(I:Q9 X Fm σ H s)(h1:-(2 ^ 62)<=lo)(h2:lo<2 ^ 62)(c:-(2 ^ 62)<=hi)(d:hi<2 ^ 62)(q:R (Itr lo (hi-lo).toNat) H):No (Np X.prog X.w) X.A (pyIter (.ref s.heap.objs.size)) (PIE X Fm σ tg R) E {s with heap:=s.heap.push {cls:=.type "range",data:=.fields #[.int lo t,.int hi u,.int 1 v]},toks:=a}:=by
 refine wpAny_pyIter_range (IsRange.new ..) (small_one h1 h2 c d) ?_;have I1:Q9 X Fm σ H {s with heap:=s.heap.push {cls:=.type "range",data:=.fields #[.int lo t,.int hi u,.int 1 v]},toks:=a}:=I.kept λb o e=>zA2 _ e;refine⟨(s.heap.push {cls:=.type "range",data:=.fields #[.int lo t,.int hi u,.int 1 v]}).objs.size,[(s.heap.push {cls:=.type "range",data:=.fields #[.int lo t,.int hi u,.int 1 v]}).objs.size],_,_,H,rfl,
  I1.kept λb o e=>zA2 _ e,qaf7 _ lo (hi-lo).toNat,?_,λb f=>?_,q⟩
 .have g:lo+((0:Nat):Int)*1=lo:=by simp
  have e2:(((hi-lo).toNat:Nat):Int)-((0:Nat):Int)=Builtin.Range.rangeSize lo hi 1:=by rw[rangeSize_one];split<;>lia
  rw[g,e2];exact zAx _ rfl
 have e:b=(s.heap.push {cls:=.type "range",data:=.fields #[.int lo t,.int hi u,.int 1 v]}).objs.size:=by simpa using f
 subst e;exact I1.fpOk (zA3 _) (I1.hok.fresh (zA3 _))
def iRng1(ta:TA):TI:=λσ H R=>ta σ H λvs H1=>∃j:Int,vs=[.int j]/\-(2 ^ 62)<=j/\j<2 ^ 62/\R (Itr 0 j.toNat) H1
theorem qX7(d:Gl X "range")(hm:X.mg "range"=none)(f:PA X [a] ta)(g:M6 [a] X.env=[(false,eval a X.env)]:=by rfl):PI X tg (.Call (.Name "range" p) [a] [] pos) (iRng1 ta):=by intro Fm s σ H R I h;refine Call_ (qal9 I d hm boot_range (PyProof.Rows.callWith_type1 (thn (f pos Fm s σ H _ I h) λl m b=>?_) g rfl));obtain⟨n,H1,I1,i,c⟩:=b;obtain⟨j,e,c,q2,q⟩:=c;subst e;cases i with|cons r k=>cases k;obtain⟨t,rfl⟩:=r;exact call_range_1 (qaE6 I1 ⋯ ⋯ c q2 (by simpa using q))
def tFor(wi:TI)(g:TG)(tb:TS):TS:=λD σ H=>wi σ H λJ H1=>∃W:Nat->Nat->St->Hp->Prop,(∃m,W 0 m σ H1)/\∀i m σ H,W i m σ H->(J.stop i H/\D.nx σ H)∨(J.go i H/\∃N:St->Hp->Prop,(∀σ' H',N σ' H'->∃a,a<m/\W (i+1) a σ' H')/\∀x H',J.yld i H x H'->g x σ H' λσ2 H2=>tb {D with nx:=N,ct:=N,bk:=D.nx} σ2 H2)
noncomputable def Lr(fp:List γ)(h:Heap):List (γ×Obj):=fp.filterMap λb=>(h.get? b).map λo=>(b,o)
theorem qt4(a:b∈fp)(e:h.get? b=some o):(b,o)∈Lr fp h:=List.mem_filterMap.mpr ⟨b,a,by rw[e];rfl⟩
theorem qat4(a:p∈Lr fp h):p.1∈fp/\h.get? p.1=some p.2:=by obtain⟨b,c,e⟩:=List.mem_filterMap.mp a;cases q:h.get? b with|none=>rw[q] at e;cases e|some o=>rw[q] at e;have d:=P8 e;subst d;exact⟨c,q⟩
theorem Q9.pinned(I:Q9 X Fm σ H s)(f:∀b∈fp,Iu X Fm H b)(g:∀b∈fp,∃o,s.heap.get? b=some o/\∀v,o.data≠.cell v):Q9 X (Fm++Lr fp s.heap) σ H s:=I.pins_of λp h=>(zAf.mp h).elim (λz=>I.pin p (zAw _ z)) λz=>by
 obtain⟨a,e⟩:=qat4 z;obtain⟨i,f1,f2,_⟩:=f p.1 a;obtain⟨o,c,d⟩:=g p.1 a;rw[e] at c;cases c;exact⟨e,i,f1,f2,d⟩
theorem Q9.unpinned{pl:List (γ×Obj)}(I:Q9 X (Fm++pl) σ H s):Q9 X Fm σ H s:=I.pins_of λp a=>I.pin p (zAw _ (zC7 _ a))
theorem qaF2(l:PassesOwn (Np X.prog X.w) X.A X.env X.xe)(F:X.calm=true)(hi:PI X tg iter wi)(O:PG X tg g)(c:PSs X body tb)(P:∀x,M9 iter X.env x=pure x:=by intro _;rfl):PS X (.For tg iter body [] pos) (tFor wi g tb):=by
 intro Fm s σ H D I h;refine wpAny_For (thn (hi Fm s σ H _ I h) λv s1 Q=>thn Q λR s2 S=>?_) P;obtain⟨it,p,G,J,H2,e,I2,T,z,f2,W,⟨U,V⟩,turn⟩:=S;subst e;have stat:∀{H':Hp},(∀b∈p,H' b=none)->∀b∈p,Iu X Fm H' b:=λY b c=>⟨Y b c,(f2 b c).2⟩;refine codeAny_forLoop_any (λn K=>∃i σ' H',Q9 X Fm σ' H' K/\G i K.heap/\(∀b∈p,H' b=none)/\W i n σ' H') ?_ U ⟨0,σ,H2,I2,z,λb c=>(f2 b c).1,V⟩;rintro n L ⟨i,σ3,H3,I3,q,t,Z⟩;rcases turn i n σ3 H3 Z with⟨stop,qn⟩|⟨go,N,hN,step⟩;{refine Nk l (thn (T.done X rfl rfl rfl F i Fm L σ3 H3 X.xe I3 (stat t) q stop) λr s4 a=>?_);obtain⟨B,I4⟩:=a;subst B;exact wpAny_execs_nil ⟨σ3,H3,I4,qn⟩};refine Nk l (thn (T.item X rfl rfl rfl F i Fm L σ3 H3 X.xe I3 (stat t) q go) λr s4 a=>?_);obtain⟨u,B,h4⟩:=a;subst B;refine Nk l (thn h4 λ_ M a=>?_);obtain⟨x,H5,I5,r5,y5,k,C⟩:=a;refine Nk l (thn (O _ M σ3 H5 x u _ (I5.pinned (stat C) (T.obj _ _ k)) r5 (step x H5 y5)) λ_ s6 a=>?_);obtain⟨σ6,H6,I6,q6⟩:=a;refine Nk l (thn (c _ s6 σ6 H6 _ I6 q6) λf E j=>?_);have again:∀{σ7:St}{H7:Hp},Q9 X (Fm++Lr p M.heap) σ7 H7 E->N σ7 H7->∃m,m<n/\∃i σ' H',Q9 X Fm σ' H' E/\G i E.heap/\(∀b∈p,H' b=none)/\W i m σ' H':=λ{σ7 H7} I7 y=>by obtain⟨m',hm,w7⟩:=hN σ7 H7 y;refine⟨m',hm,i+1,σ7,H7,I7.unpinned,T.keep _ _ _ k λb c o e=>(I7.pin (b,o) (zAw _ (zAw _ (qt4 c e)))).1,λb c=>?_,w7⟩;obtain⟨o,e,d⟩:=T.obj _ _ k b c;exact(I7.pin (b,o) (zAw _ (zAw _ (qt4 c e)))).2.1
 cases f with|next=>obtain⟨σ7,H7,I7,y⟩:=j;exact again I7 y|cont=>obtain⟨σ7,H7,I7,y⟩:=j;exact again I7 y|brk=>obtain⟨σ7,H7,I7,j⟩:=j;exact⟨σ7,H7,I7.unpinned,j⟩|ret v=>obtain⟨x7,σ7,H7,I7,r7,j⟩:=j;exact⟨x7,σ7,H7,I7.unpinned,r7,j⟩
end
theorem qan7{K:P'}{g:TG}{tb:TS}{D:B7}{n:St}(Pv:Nat->St->Hp->Prop)(d:Pv 0 n H)(f:∀i n H,i<=xs.length->Pv i n H->SqL K H a xs)(h:∀i x n H,xs[i]?=some x->Pv i n H->g x n H λσ2 H2=>tb {D with nx:=Pv (i+1),ct:=Pv (i+1),bk:=D.nx} σ2 H2)(j:∀n H,Pv xs.length n H->D.nx n H):∃W:Nat->Nat->St->Hp->Prop,(∃m,W 0 m n H)/\∀i m n H,W i m n H->((Itl K a).stop i H/\D.nx n H)∨((Itl K a).go i H/\∃N:St->Hp->Prop,(∀n' H',N n' H'->∃c,c<m/\W (i+1) c n' H')/\∀x H',(Itl K a).yld i H x H'->g x n H' λσ2 H2=>tb {D with nx:=N,ct:=N,bk:=D.nx} σ2 H2):=by refine⟨λi m n H=>m=xs.length-i/\i<=xs.length/\Pv i n H,⟨xs.length,by simp,zBi _,d⟩,?_⟩;rintro i m n H ⟨rfl,k,p⟩;have q:=f i n H k p;by_cases b:i<xs.length;{refine .inr ⟨⟨xs,xs[i],q,by simp[b]⟩,Pv (i+1),λn' H' l=>⟨xs.length-(i+1),⋯,rfl,b,l⟩,λx H' y=>?_⟩;obtain⟨e,y⟩:=y;subst e;exact h i x n _ (y xs q) p};have e:i=xs.length:=⋯;subst e;exact .inl ⟨⟨xs,q,zA3 _⟩,j n H p⟩
theorem qau8{lo:Int}{g:TG}{tb:TS}{D:B7}(Pv:Nat->St->Hp->Prop)(c:Pv 0 k H)(d:∀i k H,i<n->Pv i k H->g (.int (lo+i)) k H λσ2 H2=>tb {D with nx:=Pv (i+1),ct:=Pv (i+1),bk:=D.nx} σ2 H2)(f:∀k H,Pv n k H->D.nx k H):∃W:Nat->Nat->St->Hp->Prop,(∃m,W 0 m k H)/\∀i m k H,W i m k H->((Itr lo n).stop i H/\D.nx k H)∨((Itr lo n).go i H/\∃N:St->Hp->Prop,(∀k' H',N k' H'->∃b,b<m/\W (i+1) b k' H')/\∀x H',(Itr lo n).yld i H x H'->g x k H' λσ2 H2=>tb {D with nx:=N,ct:=N,bk:=D.nx} σ2 H2):=by refine⟨λi m k H=>m=n-i/\i<=n/\Pv i k H,⟨n,by simp,zBi _,c⟩,?_⟩;rintro i m k H ⟨rfl,j,p⟩;by_cases a:i<n;{refine .inr ⟨a,Pv (i+1),λk' H' h=>⟨n-(i+1),⋯,rfl,a,h⟩,λx H' y=>?_⟩;obtain⟨e,y⟩:=y;subst e y;exact d i k _ a p};have e:i=n:=⋯;subst e;exact .inl ⟨zA3 _,f k H p⟩
abbrev R2:=V->V->Hp->VK->Prop
def OpR(X:Cx)(f:V'->V'->Sem V')(r:R2):Prop:=∀(Fm:List (γ×Obj))(s:δ)(a:St)(H:Hp)(x y:V)(v u:V')(Q:VK),Q9 X Fm a H s->Q6 x v->Q6 y u->r x y H Q->No (Np X.prog X.w) X.A (f v u) (EP X Fm a Q) X.xe s
def UnR(X:Cx)(f:V'->Sem V')(r:V->Hp->VK->Prop):Prop:=∀(Fm:List (γ×Obj))(s:δ)(a:St)(H:Hp)(x:V)(v:V')(Q:VK),Q9 X Fm a H s->Q6 x v->r x H Q->No (Np X.prog X.w) X.A (f v) (EP X Fm a Q) X.xe s
def CallR(X:Cx)(f:V')(r:List V->Hp->VK->Prop):Prop:=∀(Fm:List (γ×Obj))(s:δ)(a:St)(H:Hp)(xs:List V)(us:List V')(Q:VK),Q9 X Fm a H s->Q7 xs us->r xs H Q->No (Np X.prog X.w) X.A (call f us) (EP X Fm a Q) X.xe s
def tOp(r:R2)(ta tb:TE):TE:=λa H Q=>ta a H λx H1=>tb a H1 λy H2=>r x y H2 Q
def tUn(r:V->Hp->VK->Prop)(ta:TE):TE:=λa H Q=>ta a H λx H1=>r x H1 Q
def rI(C:Int->Int->Prop)(g:Int->Int->V):R2:=λx y H Q=>∃i j,x=.int i/\y=.int j/\C i j/\Q (g i j) H
def rI0(g:Int->Int->V):R2:=λx y H Q=>∃i j,x=.int i/\y=.int j/\Q (g i j) H
def rU(g:Int->V):V->Hp->VK->Prop:=λx H Q=>∃i,x=.int i/\Q (g i) H
section
variable{X:Cx}{a b:Nu}{m o:TE}{n:Pos}
theorem binT(c:PE X a m)(d:PE X b o){R:V->V->Hp->Prop}(I:Q9 X Fm l H s)(h:m l H λx H1=>o l H1 λy H2=>R x y H2){f:V'->V'->Sem V'}(e:∀v u s2 x y H2,Q9 X Fm l H2 s2->Q6 x v->Q6 y u->R x y H2->No (Np X.prog X.w) X.A (f v u) Q X.xe s2):No (Np X.prog X.w) X.A (eval a X.env) (λv s₁=>No (Np X.prog X.w) X.A (eval b X.env) (λu s₂=>No (Np X.prog X.w) X.A (f v u) Q X.xe s₂) X.xe s₁) X.xe s:=by exact thn (c Fm s l H _ I h) λv g ⟨x,H1,I1,i,j⟩=>(thn (d Fm g l H1 _ I1 j) λu s2 ⟨y,H2,I2,k,q2⟩=>(e v u s2 x y H2 I2 i k q2))
theorem pe_op{op:Operator}(c:OpR X (Nn op) r)(d:PE X a m)(e:PE X b o):PE X (.BinOp a op b n) (tOp r m o):=by intro Fm s l H Q I h;exact wpAny_BinOp (binT d e I h λv u f x y H2 I2 g i q=>c Fm f l H2 x y v u Q I2 g i q)
theorem pe_un{op:UnaryOp}(b:UnR X (unaryOp op) r)(c:PE X a m):PE X (.UnaryOp op a n) (tUn r m):=by intro Fm s l H Q I h;exact UnaryOp_ (thn (c Fm s l H _ I h) λv d ⟨x,H1,I1,e,f⟩=>b Fm d l H1 x v Q I1 e f)
theorem opI{g:Int->Int->Int}(rule:∀(i j:Int)(t u:Tok)(s:δ)(Q:V'->δ->Prop)(E:V'->δ->Prop),C i j->Q (.int (g i j) s.toks) {s with toks:=s.toks+1}->No (Np X.prog X.w) X.A (f (.int i t) (.int j u)) Q E s):OpR X f (rI C λi j=>.int (g i j)):=by intro Fm s l H x y v u Q I a b h;obtain⟨i,j,rfl,rfl,c,q⟩:=h;obtain⟨t,rfl⟩:=a;obtain⟨d,rfl⟩:=b;exact rule i j t d s _ _ c ⟨.int (g i j),H,I.tok _,⟨_,rfl⟩,q⟩
theorem opI0{g:Int->Int->Int}(rule:∀(i j:Int)(t u:Tok)(s:δ)(Q:V'->δ->Prop)(E:V'->δ->Prop),Q (.int (g i j) s.toks) {s with toks:=s.toks+1}->No (Np X.prog X.w) X.A (f (.int i t) (.int j u)) Q E s):OpR X f (rI0 λi j=>.int (g i j)):=by intro Fm s l H x y v u Q I a b h;obtain⟨i,j,rfl,rfl,q⟩:=h;obtain⟨t,rfl⟩:=a;obtain⟨c,rfl⟩:=b;exact rule i j t c s _ _ ⟨.int (g i j),H,I.tok _,⟨_,rfl⟩,q⟩
theorem opB0{g:Int->Int->Bool}(rule:∀(i j:Int)(t u:Tok)(s:δ)(Q:V'->δ->Prop)(E:V'->δ->Prop),Q (.bool (g i j)) s->No (Np X.prog X.w) X.A (f (.int i t) (.int j u)) Q E s):OpR X f (rI0 λi j=>.bl (g i j)):=by intro Fm s l H x y v u Q I a b h;obtain⟨i,j,rfl,rfl,q⟩:=h;obtain⟨t,rfl⟩:=a;obtain⟨c,rfl⟩:=b;exact rule i j t c s _ _ ⟨.bl (g i j),H,I,rfl,q⟩
def CPow(i j:Int):Prop:=0<=j/\j<=1000000/\i.natAbs<2 ^ 64
def CMul(i j:Int):Prop:=(-(2 ^ 64)<i/\i<2 ^ 64)∨(-(2 ^ 64)<j/\j<2 ^ 64)
theorem CMul.ok{i j:Int}(h:CMul i j):IntMulOk i j:=by rcases h with⟨h1,h2⟩|⟨h1,h2⟩;{exact .of_left (intBits_le_64 h1 h2)};exact .of_right (intBits_le_64 h1 h2)
theorem qbb6:OpR X (Nn .Add) (rI0 λi j=>.int (i+j)):=opI0 λ_ _ _ _ _ _ _ q=>add_int q
theorem qr1:OpR X (Nn .Sub) (rI0 λi j=>.int (i-j)):=opI0 λ_ _ _ _ _ _ _ q=>sub_int q
theorem qbb0:OpR X (Nn .Mult) (rI CMul λi j=>.int (i*j)):=opI λ_ _ _ _ _ _ _ a q=>mul_int q a.ok
theorem qr2:OpR X (Nn .Mod) (rI (λ_ j=>0<j) λi j=>.int (i%j)):=opI λi j _ _ _ _ _ a q=>by
 have b:=a;exact mod_int' ⋯ (by rw[Int.fmod_eq_emod_of_nonneg i ⋯];exact q)
theorem qba8:OpR X (Nn .Pow) (rI CPow λi j=>.int (i ^ j.toNat)):=opI λ_ _ _ _ _ _ _ a q=>pow_int_small a.1 a.2.1 a.2.2 q
theorem unI{g:Int->Int}(rule:∀(i:Int)(t:Tok)(s:δ)(Q:V'->δ->Prop)(E:V'->δ->Prop),Q (.int (g i) s.toks) {s with toks:=s.toks+1}->No (Np X.prog X.w) X.A (f (.int i t)) Q E s):UnR X f (rU λi=>.int (g i)):=by intro Fm s l H x v Q I a h;obtain⟨i,rfl,q⟩:=h;obtain⟨t,rfl⟩:=a;exact rule i t s _ _ ⟨.int (g i),H,I.tok _,⟨_,rfl⟩,q⟩
theorem qaX8:UnR X (unaryOp .USub) (rU λi=>.int (-i)):=unI λ_ _ _ _ _ q=>neg_int q
end
section
variable{X:Cx}{a b c:Nu}{Y Z tc:TE}{pos:Pos}
theorem qaV5{W:St}{a:Bool}(I:Q9 X Fm W H s)(q:Q (.bl k) H)(e:k=a):EP X Fm W Q (.bool a) s:=by subst e;exact⟨.bl k,H,I,rfl,q⟩
theorem Jy:OpR X (M8 .Lt) (rI0 λi j=>.bl (decide (i<j))):=opB0 λ_ _ _ _ _ _ _ q=>lt_int q
theorem I9:OpR X (M8 .LtE) (rI0 λi j=>.bl (decide (i<=j))):=opB0 λ_ _ _ _ _ _ _ q=>le_int q
theorem B8:OpR X (M8 .Gt) (rI0 λi j=>.bl (decide (j<i))):=opB0 λ_ _ _ _ _ _ _ q=>gt_int q
theorem Ib:OpR X (M8 .GtE) (rI0 λi j=>.bl (decide (j<=i))):=opB0 λ_ _ _ _ _ _ _ q=>ge_int q
theorem qbb1:OpR X (M8 .Is) (λx y H Q=>y=.non/\Q (.bl (decide (x=.non))) H):=by
 intro Fm s W H x y v u Q I a b h;obtain⟨rfl,q⟩:=h;cases b;refine is_none_gen (qaV5 I q ?_);cases x<;>first
  |(cases a;rfl)
  |(obtain⟨t,rfl⟩:=a;rfl)
theorem qaQ8:OpR X (M8 .IsNot) (λx y H Q=>y=.non/\Q (.bl (!decide (x=.non))) H):=by
 intro Fm s W H x y v u Q I a b h;obtain⟨rfl,q⟩:=h;cases b;refine isnot_none_gen (qaV5 I q ?_);cases x<;>first
  |(cases a;rfl)
  |(obtain⟨t,rfl⟩:=a;rfl)
theorem OpR.or{a:R2}(h:OpR X f r)(h':OpR X f a):OpR X f (λx y H Q=>r x y H Q∨a x y H Q):=by intro Fm s W H x y v u Q I b c q;rcases q with q|q;{exact h Fm s W H x y v u Q I b c q};exact h' Fm s W H x y v u Q I b c q
theorem qa8(b:Nu)(h:op≠.In:=by decide)(h2:op≠.NotIn:=by decide):behindInMarks op b=false:=by
 have a:(op==CmpOp.In)=false:=by cases op<;>first|rfl|exact absurd rfl h
 have e2:(op==CmpOp.NotIn)=false:=by cases op<;>first|rfl|exact absurd rfl h2
 cases b<;>simp[behindInMarks,a,e2]
theorem qaP9(c:OpR X (M8 op) r)(d:PE X a Y)(e:PE X b Z)(hm:behindInMarks op b=false):PE X (.Compare a [op] [b] pos) (tOp r Y Z):=by intro Fm s W H Q I h;exact wpAny_Compare1 (binT d e I h λv u f x y H2 I2 g i q=>c Fm f W H2 x y v u Q I2 g i q) hm
def Ls(t:TE):TT:=λW H Q=>t W H λx H'=>∃k,x=.bl k/\Q k H'
theorem qaz1(d:OpR X (M8 op) r)(f:PE X a Y)(g:PE X b Z)(hm:behindInMarks op b=false):PT X (.Compare a [op] [b] pos) (Ls (tOp r Y Z)):=by
 intro Fm s W H Q I h;refine wpAny_isTrue_Compare1 (thn (f Fm s W H _ I h) λv i ⟨x,H1,I1,j,l⟩=>thn (g Fm i W H1 _ I1 l) λu m ⟨y,H2,I2,n,q2⟩=>
  thn (d Fm m W H2 x y v u _ I2 j n q2) λc q ⟨z,H3,I3,o,k,e,p⟩=>?_) hm
 subst e;cases o;exact Nb ⟨H3,I3,p⟩
def qaD1(r a:R2)(Y Z tc:TE):TE:=λW H Q=>Y W H λx H1=>Z W H1 λy H2=>r x y H2 λz H3=>∃k,z=.bl k/\(if k=true then tc W H3 λb H4=>a y b H4 Q else Q (.bl false) H3)
theorem qaj5{i:R2}(m:OpR X (M8 op) r)(g:OpR X (M8 f) i)(n:PE X a Y)(o:PE X b Z)(p:PE X c tc)(hm:lastMarks [op,f] [b,c]=false:=by with_unfolding_all rfl):PE X (.Compare a [op,f] [b,c] pos) (qaD1 r i Y Z tc):=by
 intro Fm s W H Q I h;refine Compare_chain (thn (n Fm s W H _ I h) λv q ⟨x,H1,I1,t,w⟩=>chain_link (thn (o Fm q W H1 _ I1 w) λu A ⟨y,H2,I2,j,q2⟩=>
  thn (m Fm A W H2 x y v u _ I2 t j q2) λd B ⟨z,H3,I3,C,k,e,l⟩=>?_)) hm
 subst e;cases C;refine Nb ?_;cases k with|false=>exact ite_ff ⟨.bl false,H3,I3,rfl,l⟩|true=>exact ite_tt (chain_last (thn (p Fm B W H3 _ I3 l) λD E ⟨F,H4,I4,G,J⟩=>g Fm E W H4 y F u D Q I4 j G J))
theorem qaE8{f:CmpOp}{r j:R2}(n:OpR X (M8 op) r)(i:OpR X (M8 f) j)(o:PE X a Y)(p:PE X b Z)(q:PE X c tc)(hm:lastMarks [op,f] [b,c]=false:=by with_unfolding_all rfl):PT X (.Compare a [op,f] [b,c] pos) (Ls (qaD1 r j Y Z tc)):=by
 intro Fm s W H Q I h;refine isTrue_chain (thn (o Fm s W H _ I h) λv t ⟨x,H1,I1,w,A⟩=>test_link (thn (p Fm t W H1 _ I1 A) λu B ⟨y,H2,I2,l,q2⟩=>
  thn (n Fm B W H2 x y v u _ I2 w l q2) λd C ⟨z,H3,I3,D,k,e,m⟩=>?_)) hm
 subst e;cases D;refine Nb ?_;cases k with|false=>obtain⟨P,E,F⟩:=m;cases E;exact ite_ff ⟨H3,I3,F⟩|true=>refine ite_tt (test_last (thn (q Fm C W H3 _ I3 m) λG J g=>?_));obtain⟨K,H4,I4,L,M⟩:=g;refine thn (i Fm J W H4 y K u G _ I4 l L M) λR S g=>?_;obtain⟨T,H5,I5,N,U,e2,O⟩:=g;subst e2;cases N;exact Nb ⟨H5,I5,O⟩
theorem qV2:(M7:Nat)<2 ^ 63:=by rw[Nd];decide
theorem qak2:OpR X (Nn .Add) (λx y H Q=>∃i j,x=.str i/\y=.str j/\i.length+j.length<=M7/\Q (.str (i++j)) H):=by intro Fm s W H x y v u Q I a b h;obtain⟨i,j,rfl,rfl,c,q⟩:=h;obtain⟨t,rfl⟩:=a;obtain⟨d,rfl⟩:=b;exact add_str (λd e=>⟨.str (i++j),H,I.tok _,⟨_,rfl⟩,q⟩) c
theorem B9(r:Q7 [x] us):∃u,us=[u]/\Q6 x u:=by cases r with|cons a b=>cases b;exact⟨_,rfl,a⟩
theorem Ic(r:Q7 [x,y] us):∃u a,us=[u,a]/\Q6 x u/\Q6 y a:=by cases r with|cons b c=>cases c with|cons d e=>cases e;exact⟨_,_,rfl,b,d⟩
theorem qaL6:CallR X (.builtin "abs") (λxs H Q=>∃i,xs=[.int i]/\Q (.int (if i<0 then -i else i)) H):=by intro Fm s W H xs a Q I r h;obtain⟨i,rfl,q⟩:=h;obtain⟨u,rfl,t,rfl⟩:=B9 r;exact call_abs_int λu b=>⟨.int (if i<0 then -i else i),H,I.tok _,⟨_,rfl⟩,q⟩
theorem qL9(b:X.calm=true):CallR X (.builtin "max") (λxs H Q=>∃i j,xs=[.int i,.int j]/\Q (.int (if j>i then j else i)) H):=by intro Fm s W H xs c Q I r h;obtain⟨i,j,rfl,q⟩:=h;obtain⟨u,d,rfl,⟨t,rfl⟩,⟨e,rfl⟩⟩:=Ic r;refine max_two_ints (I.ok.hd b) λf g k=>⟨_,H,I.kept k,?_,q⟩;by_cases a:j>i;{rw[if_pos a,if_pos a];exact⟨_,rfl⟩};rw[if_neg a,if_neg a];exact⟨_,rfl⟩
theorem qz3(b:X.calm=true):CallR X (.builtin "min") (λxs H Q=>∃i j,xs=[.int i,.int j]/\Q (.int (if j<i then j else i)) H):=by intro Fm s W H xs c Q I r h;obtain⟨i,j,rfl,q⟩:=h;obtain⟨u,d,rfl,⟨t,rfl⟩,⟨e,rfl⟩⟩:=Ic r;refine min_two_ints (I.ok.hd b) λf g k=>⟨_,H,I.kept k,?_,q⟩;by_cases a:j<i;{rw[if_pos a,if_pos a];exact⟨_,rfl⟩};rw[if_neg a,if_neg a];exact⟨_,rfl⟩
theorem qax2:CallR X (.type "int") (λxs H Q=>(∃i,xs=[.int i]/\Q (.int i) H)∨∃k,xs=[.bl k]/\Q (.int (if k then 1 else 0)) H):=by intro Fm s W H xs b Q I r h;rcases h with⟨i,rfl,q⟩|⟨k,rfl,q⟩;{obtain⟨u,rfl,t,rfl⟩:=B9 r;exact call_int_int ⟨.int i,H,I,⟨_,rfl⟩,q⟩};obtain⟨u,rfl,a⟩:=B9 r;cases a;exact call_int_bool ⟨.int (if k then 1 else 0),H,I.tok _,⟨_,rfl⟩,q⟩
end
structure ObjM(h:Heap)(x dx C:γ)(mA:Str->Option V'):Prop where
 obj:h.get? x=some (W.instObj C dx)
 ns:h.Ns1 dx mA
 ne:dx≠x
theorem qz1{h:Heap}(n:h.Ns1 dx mA):∃od,h.get? dx=some od/\∀name,W.lookIn name od=some (mA name):=by
 obtain⟨o,c,l,d,f,g,_,i⟩:=n;refine⟨o,d,λname=>?_⟩;have e:=i name;unfold nsFind findBy at e;rw[<-Array.find?_toList] at e;unfold W.lookIn;rw[f];dsimp only;split;{rename_i y q;rw[q] at e;exact congrArg some e};rename_i q;rw[q] at e;have a:c.toList.any (·.refKey)=false:=by rw[List.any_eq_false];intro y j;obtain⟨z,t,b⟩:=g y (Array.mem_toList_iff.mp j);simp[DictEntry.refKey,b]
 have k:¬c.toList.any (·.refKey)=true:=by rw[a];exact zAn
 rw[if_neg k];exact congrArg some e
theorem ObjM.look(I:ObjM h x dx C mA):∃od,W.InstAt h x (W.instObj C dx) C (some od)/\∀name,W.lookIn name od=some (mA name):=let ⟨od,ho,hl⟩:=qz1 I.ns
 ⟨od,⟨I.obj,rfl,rfl,ho⟩,hl⟩
section
variable{prog:Nq}{w:Nt}{A:Nr}{E:V'->δ->Prop}{s:δ}{K:P'}{x H C f:γ}{F:Str->Option V'}{name:Str}{v:V'}
theorem qaU4(X:K.In s.heap)(I:ObjM s.heap x H C F)(b:W.plainGet K C name=true)(c:W.hasDictIn K C=true)(d:W.findIn K (.ref C) name=some none)(e:F name=some v)(a:W.handedIn v=true)(h:Q v {s with toks:=s.toks+1}):No (Np prog w) A (getAttr (.ref x) name expr) Q E s:=by obtain⟨g,J,f⟩:=I.look;exact W.get_value X J (W.plainGet_of b).1 (W.findObj_own c d rfl (by rw[f,e])) a h
theorem qaJ1(X:K.In s.heap)(I:ObjM s.heap x H C F)(a:W.plainGet K C name=true)(b:W.findIn K (.ref C) name=some (some (.ref f)))(c:W.isFn K (.ref f)=true)(d:F name=none)(h:Q (.ref f,[.ref x]) s):No (Np prog w) A (getMethod (.ref x) name pl) Q E s:=by obtain⟨e,J,g⟩:=I.look;exact W.method_fn X J (W.plainGet_of a).1 (W.plainGet_of a).2 b (zBm.mp c) (by show (W.lookIn name e).map (·.isSome)=some false;rw[g,d];rfl) h
theorem qaN1(X:K.In s.heap)(I:ObjM s.heap x H C F)(j:W.findIn K (.ref C) "__setattr__"=some (some (.builtin "object.__setattr__")))(k:W.plainOver K C=true)(l:W.takerIn K C name=some none)(m:W.hasDictIn K C=true)(n:PySem.Within F ns)(hsz:ns.length<=M7)(h:∀h',ObjM h' x H C (λy=>if y=name then some v else F y)->Heap.SameBut H s.heap h'->Q () {s with heap:=h',toks:=s.toks+2}):No (Np prog w) A (setAttr (.ref x) name v) Q E s:=by obtain⟨u,J,z⟩:=I.look;refine W.set_plain X J j (W.osa_open (s:={s with toks:=s.toks+1}) (r:=none) X J k l λb=>?_);obtain⟨B,o,e⟩:=W.any_some m;have p:s.heap.get? x=some ⟨.ref C,some H,.plain,#[]⟩:=I.obj;refine G' (J' (G' (G' (wpAny_loadPart p (G' (W.Looks.here (s:={s with toks:=s.toks+1}) (W.looks_clsIn X o) ?_))))));rw[e];refine J' (a:=some H) (G' (J' (G' ?_)));refine wpAny_nsSet1 (s:={s with toks:=s.toks+1}) I.ns λh' c d=>?_;obtain⟨D,q,t,f,g,i⟩:=c.count (PySem.Within.cons name v n);refine G' (wpAny_lookBehind f (by rw[g];exact pastItsLine_dict (zAg i (by rw[zAm];lia))) ?_);exact J' (h _ ⟨(d.2 _ (Ne.symm I.ne)).trans I.obj,c,I.ne⟩ d)
theorem qaH7(X:K.In s.heap)(hm:W.makesIn K C=true)(hi:W.findIn K (.ref C) "__init__"=some (some (.ref f)))(a:W.typeIn K (.ref f)=some (.type "function"))(h:codeAny (Np prog w) (A.under (.builtin "type.__call__" ⟨.ref C::vs,kw⟩)) (.call (.ref f) ⟨.ref (s.heap.objs.size+1)::vs,kw⟩) (W.InitBack (s.heap.objs.size+1) R)
 {s with heap:=(s.heap.push W.emptyDict).push (W.instObj C s.heap.objs.size)}):codeAny (Np prog w) A (.call (.ref C) ⟨vs,kw⟩) R s:=by obtain⟨b,g,d,t,c⟩:=s;exact W.make_core (W.makes_of X hm) (W.looks_findIn X hi) (λself=>W.bind_fn X self a) (.inl rfl) h
end
noncomputable def Bp(f:Str)(v:V):List (Str×V)->List (Str×V)|[]=>[(f,v)]|(g,x)::r=>if g=f then (g,v)::r else (g,x)::Bp f v r
theorem qw9(f g:Str)(v:V):∀fs:List (Str×V),(Bp f v fs).lookup g=if g=f then some v else fs.lookup g|[]=>by show Oa g [(f,v)]=_;by_cases h:g=f;{have b:=zBm.mpr h;simp only[Oa,b,if_pos h]};simp only[Oa,(zBl.mpr h),if_neg h]|(k,x)::r=>by rw[show Bp f v ((k,x)::r)=(if k=f then (k,v)::r else (k,x)::Bp f v r) from rfl];by_cases a:k=f;{rw[if_pos a];by_cases h:g=k;{simp only[Oa,(zBm.mpr h),if_pos (h.trans a)]};simp only[Oa,(zBl.mpr h),if_neg (λe:g=f=>h (e.trans a.symm))]};rw[if_neg a];by_cases h:g=k;{simp only[Oa,(zBm.mpr h),if_neg (λe:g=f=>a (h.symm.trans e))]};simp only[Oa,(zBl.mpr h)];exact(qw9 f g v r)
theorem qt7(f:Str)(v:V):∀fs:List (Str×V),f∈(Bp f v fs).map (·.1)/\∀g,g∈fs.map (·.1)->g∈(Bp f v fs).map (·.1)|[]=>⟨by simp[Bp],λg h=>by simp at h⟩|(k,x)::r=>by obtain⟨b,c⟩:=qt7 f v r;rw[show Bp f v ((k,x)::r)=(if k=f then (k,v)::r else (k,x)::Bp f v r) from rfl];by_cases a:k=f;{rw[if_pos a];subst a;exact⟨by simp,λg h=>by simpa using h⟩};rw[if_neg a];refine⟨?_,λg h=>?_⟩;{rw[zAy];exact zA6 _ b};rw[zAy] at h ⊢;rcases zAj.mp h with e|e;{exact zAj.mpr (.inl e)};exact zA6 _ (c g e)
theorem qx0(f:Str)(v:V):∀fs:List (Str×V),(Bp f v fs).length<=fs.length+1|[]=>by simp[Bp]|(k,x)::r=>by have b:=qx0 f v r;rw[show Bp f v ((k,x)::r)=(if k=f then (k,v)::r else (k,x)::Bp f v r) from rfl];by_cases a:k=f;{rw[if_pos a,zAm,zAm];lia};rw[if_neg a,zAm,zAm];lia
theorem RelO.some_of(r:RelO (some v) o):∃u,o=some u/\Q6 v u:=by cases o with|none=>exact(show False from r).elim|some u=>exact⟨u,rfl,r⟩
theorem RelO.none_of(r:RelO none o):o=none:=by cases o with|none=>rfl|some u=>exact(show False from r).elim
theorem qY9(r:Q6 v u):W.handedIn u=true:=by cases v with|non=>cases (show u=Pw from r);rfl|bl b=>cases (show u=P0 b from r);rfl|int i=>obtain⟨t,e⟩:=(show ∃t,u=Px i t from r);cases e;rfl|str x=>obtain⟨t,e⟩:=(show ∃t,u=Pz x t from r);cases e;rfl|byt b=>obtain⟨t,e⟩:=(show ∃t,u=P6 b t from r);cases e;rfl|flt b=>obtain⟨t,e⟩:=(show ∃t,u=P3 b t from r);cases e;rfl|ref a=>cases (show u=Pu a from r);rfl|ty n=>cases (show u=P1 n from r);rfl
section
variable{P:Nq}{w:Nt}{H:Hp}{h:Heap}{a C i:γ}{fs:List (Str×V)}
theorem qY6(b:HOk P w H h)(e:H a=some (.ins C i fs)):∃mA,ObjM h a i C mA/\(∀f,RelO (fs.lookup f) (mA f))/\PySem.Within mA (fs.map (·.1))/\fs.length<=1000/\H i=some (.own a):=by obtain⟨d,z,c,g,mA,n,r,q⟩:=(show ObjOk P w H h a (.ins C i fs) from b a _ e);exact⟨mA,⟨g,n,c⟩,r,q,z,d⟩
end
structure Cls(K:P')(C:γ):Prop where
 pg:W.plainGet K C Str.empty=true
 hd:W.hasDictIn K C=true
 po:W.plainOver K C=true
 sa:W.findIn K (.ref C) "__setattr__"=some (some (.builtin "object.__setattr__"))
theorem Cls.get{K:P'}(c:Cls K C)(f:Str):W.plainGet K C f=true:=c.pg
def qd1(K:P')(C:γ)(f:Str):Prop:=W.findIn K (.ref C) f=some none
theorem qd1.taker{K:P'}(n:qd1 K C f):W.takerIn K C f=some none:=by unfold W.takerIn;rw[show W.findIn K (.ref C) f=some none from n];rfl
structure Lu(K:P')(C:γ)(m:Str)(f:γ):Prop where
 at_:W.findIn K (.ref C) m=some (some (.ref f))
 fn:W.isFn K (.ref f)=true
 kp:W.keepIn K (.ref f)=true
section
variable{X:Cx}{F:List (γ×Obj)}{D:St}{H:Hp}{s:δ}{a C G:γ}{fs:List (Str×V)}{f:Str}{v:V}{A:Nr}{E:V'->δ->Prop}
theorem qan2(I:Q9 X F D H s)(e:H a=some (.ins C G fs))(c:Cls X.K C)(n:qd1 X.K C f)(l:fs.lookup f=some v)(h:∀u s',Q9 X F D H s'->Q6 v u->Q u s'):No (Np X.prog X.w) A (getAttr (.ref a) f b) Q E s:=by obtain⟨i,O,r,_,_,_⟩:=qY6 I.hok e;obtain⟨u,g,d⟩:=RelO.some_of (by rw[<-l];exact r f);exact qaU4 I.kIn O (c.get f) c.hd n g (qY9 d) (h u _ (I.tok _) d)
theorem qP0(I:Q9 X F D H s)(e:H a=some (.ins C G fs))(c:Cls X.K C)(k:Lu X.K C m g)(l:fs.lookup m=none)(h:Q (.ref g,[.ref a]) s):No (Np X.prog X.w) A (getMethod (.ref a) m pl) Q E s:=by obtain⟨d,O,r,_,_,_⟩:=qY6 I.hok e;have b:=RelO.none_of (by rw[<-l];exact r m);exact qaJ1 I.kIn O (c.get m) k.at_ k.fn b h
theorem qah4(I:Q9 X F D H s)(e:H a=some (.ins C G fs))(c:Cls X.K C)(n:qd1 X.K C f)(B:fs.length<1000)(k:Q6 y u)(h:∀s',Q9 X F D (upd H a (.ins C G (Bp f y fs))) s'->Q () s'):No (Np X.prog X.w) A (setAttr (.ref a) f u) Q E s:=by
 obtain⟨d,O,r,i,_,j⟩:=qY6 I.hok e;have l:(fs.map (·.1)).length<=M7:=by rw[zAe,Nd];lia
 refine qaN1 I.kIn O c.sa c.po n.taker c.hd i l λm O' p=>h _ ?_;have t:∃o,m.get? G=some o:=let ⟨o,_,_,e',_⟩:=O'.ns;⟨o,e'⟩
 refine I.write (by rw[e];exact True.intro) (.inr j) (λb q v z=>(p.2 b v).trans z) t ?_;refine⟨by rw[qc0 O.ne];exact j,?_,O.ne,O'.obj,_,O'.ns,λg=>?_,λg x=>?_⟩;{have:=qx0 f y fs;lia};{show RelO ((Bp f y fs).lookup g) (if g=f then some u else d g);rw[qw9];by_cases q:g=f;{rw[if_pos q,if_pos q];exact k};rw[if_neg q,if_neg q];exact r g};by_cases q:g=f;{rw[q];exact(qt7 f y fs).1};refine(qt7 f y fs).2 g (i g λz=>x ?_);show (if g=f then some u else d g)=none;rw[if_neg q];exact z
theorem Q9.made(I:Q9 X F D H s):Q9 X F D (upd (upd H s.heap.objs.size (.own (s.heap.objs.size+1))) (s.heap.objs.size+1) (.ins C s.heap.objs.size []))
 {s with heap:=(s.heap.push W.emptyDict).push (W.instObj C s.heap.objs.size)}:=by
 have a:(s.heap.push W.emptyDict).get? s.heap.objs.size=some W.emptyDict:=zAx s.heap rfl;have e2:((s.heap.push W.emptyDict).push (W.instObj C s.heap.objs.size)).get? (s.heap.objs.size+1)=some (W.instObj C s.heap.objs.size):=by have:=zAx (s.heap.push W.emptyDict) (o:=W.instObj C s.heap.objs.size) rfl;rwa[Heap.size_push] at this
 refine(I.laid (o:=.own (s.heap.objs.size+1)) (t':=s.toks) (λb u q=>zA2 _ q) (zA3 _) ⟨_,a⟩).laid (λb u q=>zA2 _ q) (zCd (Heap.size_push _ _)) ?_;have c:s.heap.objs.size≠s.heap.objs.size+1:=zAk (Nat.lt_succ_self _);refine⟨by rw[qc0 c,qb7],zBi _,c,e2,λ_=>none,(Heap.Ns1.of_empty (⟨W.emptyDict,#[],_,a,rfl,(λe d=>absurd d (by simp)),λ_=>rfl⟩)).at λo q=>zA2 _ q,λ_=>True.intro,λy f=>absurd rfl f⟩
theorem qaC0{prog:Nq}{w:Nt}{env:Env}{e:Nu}{f:Str}{pos:Pos}{s:δ}{Q:V'->δ->Prop}(a:Nc e f env (eval e env)=eval e env)(h:No (Np prog w) A (eval e env) (λo s₁=>No (Np prog w) A (getAttr o f true) Q E s₁) E s):No (Np prog w) A (eval (.Attribute e f pos) env) Q E s:=Attribute_any_ h (by rw[arm_eval_Attribute,a])
end
def tFld(K:P')(ta:TE)(f:Str):TE:=λb H Q=>ta b H λx H1=>∃a C dx fs v,x=.ref a/\H1 a=some (.ins C dx fs)/\Cls K C/\qd1 K C f/\fs.lookup f=some v/\Q v H1
def sFld(K:P')(ta tv:TE)(f:Str):TS:=λD b H=>tv b H λy H1=>ta b H1 λx H2=>∃a C dx fs,x=.ref a/\H2 a=some (.ins C dx fs)/\Cls K C/\qd1 K C f/\fs.length<1000/\D.nx b (upd H2 a (.ins C dx (Bp f y fs)))
section
variable{X:Cx}{o e B:Nu}{f:Str}{pos pos':Pos}{E tv:TE}
theorem qas5(d:PE X e E)(g:Nc e f X.env (eval e X.env)=eval e X.env):PE X (.Attribute e f pos) (tFld X.K E f):=by intro Fm s A H Q I h;refine qaC0 g (thn (d Fm s A H _ I h) λu o b=>?_);obtain⟨x,H1,I1,i,a,C,p,r,v,j,k,c,n,l,q⟩:=b;subst j;obtain rfl:u=Pu a:=i;exact qan2 I1 k c n l λt w I2 m=>⟨v,H1,I2,m,q⟩
theorem qaZ5(d:PE X o E)(e:PE X B tv)(g:swapsWith B (some (.Attribute o f pos')) pos.line X.env=pure false):PS X (.Assign [.Attribute o f pos'] B pos) (sFld X.K E tv f):=by intro Fm s A H D I h;refine plainObj_wpAny_Assign_Attribute (thn (e Fm s A H _ I h) λu i b=>?_) g;obtain⟨y,H1,I1,j,q⟩:=b;refine thn (d Fm i A H1 _ I1 q) λk t b=>?_;obtain⟨x,H2,I2,m,a,C,v,w,p,r,c,n,l,q2⟩:=b;subst p;obtain rfl:k=Pu a:=m;exact qah4 I2 r c n l j λz I3=>⟨A,_,I3,q2⟩
end
section
variable{X:Cx}{F:List (γ×Obj)}{D:St}{H:Hp}{s:δ}{A:Nr}{E Q:V'->δ->Prop}{c:V'}{b:Bool}
inductive Gy(K:P')(H:Hp):V->V'->Prop where
 |non:Gy K H .non (.type "NoneType")
 |bl (x:Bool):Gy K H (.bl x) (.type "bool")
 |int (i:Int):Gy K H (.int i) (.type "int")
 |str (x:Str):Gy K H (.str x) (.type "str")
 |flt (x:UInt64):Gy K H (.flt x) (.type "float")
 |l {a:γ} {xs:List V} (e:H a=some (.l xs)):Gy K H (.ref a) (.type "list")
 |frz {a:γ} {o:Obj} {xs:List V} (e:H a=some (.frz o (.l xs))):Gy K H (.ref a) (.type "list")
 |q {a:γ} {xs:List V} (e:H a=some (.q xs)):Gy K H (.ref a) (.type "tuple")
 |dK {a:γ} {kvs:List (Key×V)} (e:H a=some (.dK kvs)):Gy K H (.ref a) (.type "dict")
 |dT {a:γ} {kvs:List (List Key×V)} (e:H a=some (.dT kvs)):Gy K H (.ref a) (.type "dict")
 |ins {a C dx:γ} {fs:List (Str×V)} (e:H a=some (.ins C dx fs)) (cl:Cls K C) (ha:W.findIn K (.ref C) "__class__"=some (some (.builtin "object.__class__")))
  (hn:W.specialIn K (.builtin "object.__class__") "__get__"=some (some (.builtin "getset_descriptor.__get__"))) (htk:W.takesIn K (.builtin "object.__class__")=some true)
  (hm:W.mroIn K C (.type "object")=some true):Gy K H (.ref a) (.ref C)
theorem qz2(I:Q9 X F D H s)(d:Q6 x u)(ty:Gy X.K H x t)(e:Qa X.K t c=some b)(h:∀k,Q (.bool b) {s with toks:=k}):No (Np X.prog X.w) A (call (.builtin "isinstance") [u,c]) Q E s:=by cases ty with|non=>cases (show u=Pw from d);exact W.kia_one W.kitx_none I.kIn True.intro e (λz=>nomatch z) h|bl y=>cases (show u=P0 y from d);exact W.kia_one W.kitx_bool I.kIn True.intro e (λz=>nomatch z) h|int i=>obtain⟨t,q⟩:=(show ∃t,u=Px i t from d);cases q;exact W.kia_one W.kitx_int I.kIn True.intro e (λz=>nomatch z) h|str y=>obtain⟨t,q⟩:=(show ∃t,u=Pz y t from d);cases q;exact W.kia_one W.kitx_str I.kIn True.intro e (λz=>nomatch z) h|flt y=>obtain⟨t,q⟩:=(show ∃t,u=P3 y t from d);cases q;exact W.kia_one W.kitx_float I.kIn True.intro e (λz=>nomatch z) h|@l a g ea=>cases (show u=Pu a from d);obtain⟨_,_,n,_,f⟩:=(show ObjOk X.prog X.w H s.heap a (.l g) from I.hok a _ ea);exact W.kia_one W.kitx_list I.kIn ⟨_,f,rfl⟩ e (λz=>nomatch z) h|@frz a ob g ea=>cases (show u=Pu a from d);obtain⟨_,_,_,n,_,f⟩:=(show ObjOk X.prog X.w H s.heap a (.frz ob (.l g)) from I.hok a _ ea);exact W.kia_one W.kitx_list I.kIn ⟨_,f,rfl⟩ e (λz=>nomatch z) h|@q a g ea=>cases (show u=Pu a from d);obtain⟨_,_,_,p⟩:=(show ObjOk X.prog X.w H s.heap a (.q g) from I.hok a _ ea);obtain⟨o,f,j,_⟩:=p;exact W.kia_one W.kitx_tuple I.kIn ⟨o,f,j⟩ e (λz=>nomatch z) h|@dK a kvs ea=>cases (show u=Pu a from d);obtain⟨_,_,r,_,p⟩:=(show ObjOk X.prog X.w H s.heap a (.dK kvs) from I.hok a _ ea);obtain⟨o,l,m,f,j,_⟩:=p;exact W.kia_one W.kitx_dict I.kIn ⟨o,f,j.1⟩ e (λz=>nomatch z) h|@dT a kvs ea=>cases (show u=Pu a from d);obtain⟨_,_,g,_,o,l,m,f,j,_⟩:=(show ObjOk X.prog X.w H s.heap a (.dT kvs) from I.hok a _ ea);exact W.kia_one W.kitx_dict I.kIn ⟨o,f,j.1⟩ e (λz=>nomatch z) h|@ins a C dx fs ea cl ha hn htk hm=>cases (show u=Pu a from d);obtain⟨v,O,_⟩:=qY6 I.hok ea;obtain⟨B,J,_⟩:=O.look;exact W.kia_one (W.kitx_own (cl.get _) cl.hd ha hn htk hm) I.kIn J e (λz=>nomatch z) h
end
structure Rc(cm:Bool)(k:Nat)(A:Nr):Prop where
 hd:cm=true->A.handled=none
 dp:A.depth+3*k+5<recursionLimit
 un:A.units+16*k+200<cLine
abbrev Room:=Rc true
theorem Rc.mono(r:Rc cm k A)(h:j<=k):Rc cm j A:=⟨r.hd,by have:=r.dp;lia,by have:=r.un;lia⟩
theorem Rc.deeper(r:Rc cm (k+1) A)(env:Env):Rc cm k (A.deeper env):=⟨r.hd,by have:=r.dp;show A.depth+1+3*k+5<_;lia,by have:=r.un;show A.units+3+16*k+200<_;lia⟩
theorem qal6{A:Nr}:(A.under (.builtin "type.__call__" ⟨.ref C::us,kw⟩)).depth=A.depth+1:=by first|rfl|simp[Around.under,Code.weight,Code.isCreation,Code.isGuard,Code.isCaller,Code.frames,Code.isFrame,guardIds]
theorem qal4{A:Nr}:(A.under (.builtin "type.__call__" ⟨.ref C::us,kw⟩)).units=A.units+1:=by first|rfl|simp[Around.under,Code.cUnits,Code.frames,Code.isFrame]
theorem Rc.make(r:Rc cm (k+1) A)(C:γ)(us:List V')(kw:List (Str×V')):Rc cm k (A.under (.builtin "type.__call__" ⟨.ref C::us,kw⟩)):=⟨r.hd,by have:=r.dp;rw[qal6];lia,by have:=r.un;rw[qal4];lia⟩
theorem Rc.depth(r:Rc cm k A):A.depth<recursionLimit:=by have:=r.dp;lia
theorem Rc.units(r:Rc cm k A):A.units+64<cLine:=by have:=r.un;lia
def tNil:TA:=λ_ H Q=>Q [] H
def tCons(ta:TE)(tr:TA):TA:=λa H Q=>ta a H λx H1=>tr a H1 λxs H2=>Q (x::xs) H2
section
variable{X:Cx}{e:Nu}{o:List Nu}{te:TE}{t:TA}{n:Pos}
theorem qk1:PA X [] tNil:=λ_ _ _ _ H Q I h=>Calls.spliced_nil ⟨[],H,I,.nil,h⟩
theorem qc6(a:PE X e te)(b:PA X o t)(c:M6 (e::o) X.env=(false,eval e X.env)::M6 o X.env:=by rfl):PA X (e::o) (tCons te t):=by intro n Fm s m H Q I h;rw[c];exact Calls.spliced_cons (thn (a Fm s m H _ I h) λu d ⟨x,H1,I1,f,g⟩=>(thn (b n Fm d m H1 _ I1 g) λk l ⟨i,H2,I2,j,q2⟩=>⟨x::i,H2,I2,.cons f j,q2⟩))
def tTup(t:TA):TE:=λm H Q=>t m H λxs H1=>xs.length<=M7/\∀p,H1 p=none->Q (.ref p) (upd H1 p (.q xs))
def tLst(t:TA):TE:=λm H Q=>t m H λxs H1=>xs.length<=M7/\∀p,H1 p=none->Q (.ref p) (upd H1 p (.l xs))
theorem qaP3{x1}(h:PA X o t):PE X (.Tuple o x1 n) (tTup t):=by intro Fm s m H Q I d;refine wpAny_Tuple_spliced (thn (h n Fm s m H _ I d) λf c a=>?_);obtain⟨g,H1,I1,r,z,q⟩:=a;refine⟨by rw[<-r.length];exact z,?_⟩;refine⟨.ref c.heap.objs.size,upd H1 c.heap.objs.size (.q g),I1.laid (λb u e=>zA2 _ e) (zA3 _) ?_,rfl,q _ (I1.hok.fresh (zA3 _))⟩;exact⟨z,f,r,⟨_,zAx _ rfl,rfl,_,rfl⟩⟩
theorem qaF7(h:PA X o t):PE X (.List o n) (tLst t):=by intro Fm s m H Q I d;refine wpAny_List_spliced (thn (h n Fm s m H _ I d) λf c a=>?_);obtain⟨g,H1,I1,r,z,q⟩:=a;refine⟨by rw[<-r.length];exact z,?_⟩;refine⟨.ref c.heap.objs.size,upd H1 c.heap.objs.size (.l g),I1.laid (λb u e=>zA2 _ e) (zA3 _) ?_,rfl,q _ (I1.hok.fresh (zA3 _))⟩;exact⟨z,f,0,r,zAx _ rfl⟩
end
abbrev Sp:=List V->Hp->VK->XK->Prop
abbrev CXT:=List Env->Hp->δ->XK->V'->δ->Prop
structure Env0(P:Nq)(w:Nt)(K:P')(mg:Str->Option V')(base:Heap)(A:Nr)(outer:List Env)(s:δ)(H:Hp):Prop where
 frames:A.frames=some outer
 mod:Mod K mg base
 bs:∀b o,base.get? b=some o->s.heap.get? b=some o/\H b=none
 bsz:base.objs.size<=s.heap.objs.size
 funs:s.heap.FunFrames base outer
 frf:∀b∈frs outer,H b=none
 hok:HOk P w H s.heap
 bare:AllBare s.gens
def CE(outer:List Env)(P:Nq)(w:Nt)(H:Hp)(s:δ)(Q:VK)(u:V')(s':δ):Prop:=∃v H',s'.os=s.os/\AllBare s'.gens/\Un (frs outer) [] H H' s.heap s'.heap/\HOk P w H' s'.heap/\Q6 v u/\Q v H'
def CR(CX:CXT)(outer:List Env)(P:Nq)(w:Nt)(H:Hp)(s:δ)(Q:VK)(E:XK)(r:Result)(s':δ):Prop:=match r with|.ok (.ret u)=>CE outer P w H s Q u s'|.ok _=>False|.error e=>CX outer H s E e s'
structure Gg(cm:Bool)(P:Nq)(w:Nt)(K:P')(mg:Str->Option V')(base:Heap)(CX:CXT)(k:Nat)(f:γ)(fd:ε)(ps:List Str)(sp:Sp):Prop where
 len:∀vs H Q E,sp vs H Q E->vs.length=ps.length
 run:∀(A:Nr)(outer:List Env)(s:δ)(H:Hp)(args:Args)(us:List V')(vs:List V)(Q:VK)(E:XK),Rc cm k A->Env0 P w K mg base A outer s H->BindsTo s fd args (ps.zip us)->Q7 vs us->sp vs H Q E->codeAny (Np P w) A (.call (.ref f) args) (CR CX outer P w H s Q E) s
abbrev Fx:=Gg true
theorem Env0.make{K:P'}(e:Env0 P w K mg base A outer s H)(C:γ)(us:List V')(kw:List (Str×V')):Env0 P w K mg base (A.under (.builtin "type.__call__" ⟨.ref C::us,kw⟩)) outer s H:=⟨by first|exact e.frames|(simpa[Around.under,Code.envs,Code.isFrame,pushEnvs] using e.frames),e.mod,e.bs,e.bsz,e.funs,e.frf,e.hok,e.bare⟩
section
variable{X:Cx}{k:List (γ×Obj)}{j:St}{H:Hp}{s s':δ}
theorem Q9.env0(I:Q9 X k j H s):Env0 X.prog X.w X.K X.mg X.base X.A X.stack s H:=⟨I.ok.frames,I.ok.mod,I.bs,zAg I.ok.bsz I.sz,I.stack,I.stkFree,I.hok,I.bare⟩
theorem Q9.after(I:Q9 X k j H s)(h:CE X.stack X.prog X.w H s Q u s'):EP X k j Q u s':=by obtain⟨v,H',e,bare,f,a,r,q⟩:=h;obtain⟨i,g,d,t,c⟩:=s';obtain rfl:c=s.os:=e;exact⟨v,H',I.call f a bare (λb z=>absurd z (by simp)),r,q⟩
end
def Lv(sp:Sp)(dvs:List V)(E:St->XK)(t:TA):TE:=λa H Q=>t a H λvs H1=>sp (vs++dvs) H1 Q (E a)
def Lw(C:γ)(m:Str)(sp:Sp)(dvs:List V)(E:St->XK)(ta:TE)(t:TA):TE:=λb H Q=>ta b H λx H1=>∃a dx fs,x=.ref a/\H1 a=some (.ins C dx fs)/\fs.lookup m=none/\t b H1 λvs H2=>sp (x::(vs++dvs)) H2 Q (E b)
def tMake(C:γ)(sp:Sp)(dvs:List V)(E:St->XK)(t:TA):TE:=λa H Q=>t a H λvs H1=>∀x dx,H1 x=none->H1 dx=none->dx≠x->sp (.ref x::(vs++dvs)) (upd (upd H1 dx (.own x)) x (.ins C dx [])) (λv H2=>v=.non/\Q (.ref x) H2) (E a)
def Binds(K:P')(fd:ε)(ps:List Str)(ds:List V'):Prop:=∀(s:δ)(us:List V'),K.In s.heap->(us++ds).length=ps.length->BindsTo s fd ⟨us,[]⟩ (ps.zip (us++ds))
theorem Binds.all{K:P'}(h:∀us:List V',us.length=ps.length->bindArgs fd ⟨us,[]⟩=pure (ps.zip us)):Binds K fd ps []:=λs us _ a=>by
 rw[zAa] at a ⊢;exact .of_eq (h us a)
def qQ4(CX:CXT)(X:Cx)(E:St->XK):Prop:=∀(Fm:List (γ×Obj))(a:St)(H:Hp)(s:δ)(e:V')(s':δ),Q9 X Fm a H s->CX X.stack H s (E a) e s'->X.xe e s'
section
variable{X:Cx}{Z:Bool}{CX:CXT}{k:Nat}{f C:γ}{Y:ε}{ps:List Str}{sp:Sp}{dvs:List V}{ds:List V'}{E:St->XK}{x m:Str}{p S T:Pos}{e o:Nu}{U:List Nu}{ta:TE}{t:TA}
theorem qaE4(F:Gg Z X.prog X.w X.K X.mg X.base CX k f Y ps sp)(c:Rc Z k X.A)(d:Binds X.K Y ps ds)(g:Q7 dvs ds)(i:qQ4 CX X E)(I:Q9 X Fm R H s)(r:Q7 vs us)(h:sp (vs++dvs) H Q (E R)):No (Np X.prog X.w) X.A (call (.ref f) us) (EP X Fm R Q) X.xe s:=by
 have b:=r.append g;have j:(us++ds).length=ps.length:=by rw[<-b.length];exact F.len _ _ _ _ h
 refine wpAny_call (codeAny_mono (F.run X.A X.stack s H ⟨us,[]⟩ (us++ds) (vs++dvs) Q (E R) c I.env0 (d s us I.kIn j) b h) λr l a=>?_);cases r with|error e=>exact i Fm R H s e l I a|ok m=>cases m with|ret u=>exact I.after a|next=>exact Qv a|brk=>exact Qv a|cont=>exact Qv a
theorem qaz8(F:Gg Z X.prog X.w X.K X.mg X.base CX k f Y ps sp)(c:Rc Z k X.A)(d:Gl X x)(hm:X.mg x=some (.ref f))(g:W.keepIn X.K (.ref f)=true)(i:Binds X.K Y ps ds)(j:Q7 dvs ds)(l:qQ4 CX X E)(m:PA X (e::U) t)(a:N' x:=by decide)(n:M6 (e::U) X.env=(false,eval e X.env)::M6 U X.env:=by rfl)(b:(backTo S (M6 U X.env)).any (·.1)=false:=by rfl):PE X (.Call (.Name x p) (e::U) [] S) (Lv sp dvs E t):=by intro Fm s R H Q I h;exact wpAny_Call_Name_kw (qO3 I d hm (W.callWith_K (h₀:=X.base) I.ok.mod.kin g (thn (m S Fm s R H _ I h) λo u ⟨v,H1,I1,r,q⟩=>⟨I1.kIn,(qaE4 F c i j l I1 r q)⟩) n b) a)
theorem qaz6(j:PE X o ta)(c:Cls X.K C)(hm:Lu X.K C m f)(F:Gg Z X.prog X.w X.K X.mg X.base CX k f Y ps sp)(n:Rc Z k X.A)(p:Binds X.K Y ps ds)(v:Q7 dvs ds)(y:qQ4 CX X E)(z:PA X (e::U) t)(b:M6 (e::U) X.env=(false,eval e X.env)::M6 U X.env:=by rfl)(d:(backTo S (M6 U X.env)).any (·.1)=false:=by rfl)(B:eval (.Call (.Attribute o m T) (e::U) [] S) X.env=(do
 let ov<-eval o X.env
 standAt T.atName
 let (f,first)<-holding [ov] (getMethod ov m pl)
 callWith S f first (backTo S (M6 (e::U) X.env)) (backToKw S (Ni [] X.env))):=by rfl):PE X (.Call (.Attribute o m T) (e::U) [] S) (Lw C m sp dvs E ta t):=by intro Fm s R H Q I h;refine W.methodCall_KW (thn (j Fm s R H _ I h) λu D g=>?_) B;obtain⟨x,H1,I1,G,a,M,N,J,L,l,q⟩:=g;subst J;obtain rfl:u=Pu a:=G;exact qP0 I1 L c hm l (W.callWith_K (h₀:=X.base) I.ok.mod.kin hm.kp (thn (z S Fm D R H1 _ I1 q) λO P ⟨i,H2,I2,r,q2⟩=>⟨I2.kIn,(qaE4 (vs:=.ref a::i) F n p v y I2 (.cons rfl r) q2)⟩) b d)
theorem qaj1(d:PE X o ta)(c:Cls X.K C)(hm:Lu X.K C m f)(F:Gg Z X.prog X.w X.K X.mg X.base CX k f Y ps sp)(e:Rc Z k X.A)(g:Binds X.K Y ps ds)(i:Q7 dvs ds)(j:qQ4 CX X E)(n:eval (.Call (.Attribute o m T) [] [] S) X.env=(do
 let ov<-eval o X.env
 standAt T.atName
 let (f,first)<-holding [ov] (getMethod ov m pl)
 callWith S f first (backTo S (M6 [] X.env)) (backToKw S (Ni [] X.env))):=by rfl):PE X (.Call (.Attribute o m T) [] [] S) (Lw C m sp dvs E ta tNil):=by intro Fm s R H Q I h;refine W.methodCall_KW (thn (d Fm s R H _ I h) λu v b=>?_) n;obtain⟨x,H1,I1,p,a,y,z,r,t,l,q⟩:=b;subst r;obtain rfl:u=Pu a:=p;exact qP0 I1 t c hm l (W.callWith_K0 I1.kIn hm.kp (qaE4 (vs:=[.ref a]) F e g i j I1 (.cons rfl .nil) q))
structure Mk(K:P')(C f:γ):Prop where
 makes:W.makesIn K C=true
 init:W.findIn K (.ref C) "__init__"=some (some (.ref f))
 fn:W.isFn K (.ref f)=true
 kp:W.keepIn K (.ref C)=true
theorem qaE3(M:Mk X.K C f)(F:Gg Z X.prog X.w X.K X.mg X.base CX k f Y ps sp)(d:Rc Z (k+1) X.A)(g:Binds X.K Y ps ds)(i:Q7 dvs ds)(j:qQ4 CX X E)(I:Q9 X Fm R H s)(r:Q7 vs us)(h:∀x dx,H x=none->H dx=none->dx≠x->sp (.ref x::(vs++dvs)) (upd (upd H dx (.own x)) x (.ins C dx [])) (λv H2=>v=.non/\Q (.ref x) H2) (E R)):No (Np X.prog X.w) X.A (call (.ref C) us) (EP X Fm R Q) X.xe s:=by
 have b:=h (s.heap.objs.size+1) s.heap.objs.size (I.hok.fresh (Nat.le_succ _)) (I.hok.fresh (zA3 _)) (zAk (Nat.lt_succ_self _));have I2:=Q9.made (C:=C) I;have c:Q7 (V.ref (s.heap.objs.size+1)::(vs++dvs)) (Pu (s.heap.objs.size+1)::(us++ds)):=.cons rfl (r.append i);have l:(Pu (s.heap.objs.size+1)::us++ds).length=ps.length:=by have e:=c.length;rw[F.len _ _ _ _ b] at e;exact e.symm
 refine wpAny_call (qaH7 I.kIn M.makes M.init (zBm.mp M.fn) (codeAny_mono (F.run _ X.stack _ _ ⟨Pu (s.heap.objs.size+1)::us,[]⟩ (Pu (s.heap.objs.size+1)::(us++ds)) _ _ (E R) (d.make C us [])
  (I2.env0.make C us []) (g _ (Pu (s.heap.objs.size+1)::us) I2.kIn l) c b) λr m a=>?_))
 cases r with|error e=>exact j Fm R _ _ e m I2 a|ok n=>cases n with|ret u=>obtain⟨v,H',I3,o,p,q⟩:=I2.after a;subst p;exact⟨o,⟨V.ref (s.heap.objs.size+1),H',I3,rfl,q⟩⟩|next=>exact Qv a|brk=>exact Qv a|cont=>exact Qv a
theorem qaj2(M:Mk X.K C f)(F:Gg Z X.prog X.w X.K X.mg X.base CX k f Y ps sp)(c:Rc Z (k+1) X.A)(d:Gl X x)(hm:X.mg x=some (.ref C))(g:Binds X.K Y ps ds)(i:Q7 dvs ds)(j:qQ4 CX X E)(l:PA X (e::U) t)(a:N' x:=by decide)(m:M6 (e::U) X.env=(false,eval e X.env)::M6 U X.env:=by rfl)(b:(backTo S (M6 U X.env)).any (·.1)=false:=by rfl):PE X (.Call (.Name x p) (e::U) [] S) (tMake C sp dvs E t):=by intro Fm s R H Q I h;exact wpAny_Call_Name_kw (qO3 I d hm (W.callWith_K (h₀:=X.base) I.ok.mod.kin M.kp (thn (l S Fm s R H _ I h) λn o ⟨u,H1,I1,r,q⟩=>⟨I1.kIn,(qaE3 M F c g i j I1 r q)⟩) m b) a)
end
structure qa9(N P:List Str)(sc:Scope):Prop where
 kind:sc.kind=.function
 co:sc.isCoroutine=false
 gen:sc.isGenerator=false
 nd:N.Nodup
 pre:N.take P.length=P
 par:∀x∈P,sc.names.lookup x=some .local∨sc.names.lookup x=some .cell
 nofree:∀y∈sc.names,y.2≠.free
theorem qaa9{N4:Str->Option NameKind}{x:Str}:∀{binds:List (Str×V')}{m:Str->Option V'},(∀v,(x,v)∉binds)->bindL N4 binds m x=m x
 |[],_,_=>rfl|(n,v)::r,m,h=>by
  unfold bindL;rw[qaa9 λw a=>h w (zA6 _ a)];split
  .have:x≠n:=by rintro rfl;exact h v zA7
   simp[this]
  rfl
theorem qab1{N4:Str->Option NameKind}{x:Str}:∀{binds:List (Str×V')}{m:Str->Option V'},(∀v,(x,v)∉binds)->bindC N4 binds m x=m x
 |[],_,_=>rfl|(n,v)::r,m,h=>by
  unfold bindC;rw[qab1 λw a=>h w (zA6 _ a)];split;{rfl};have:x≠n:=by rintro rfl;exact h v zA7
  simp[this]
theorem qab0{N4:Str->Option NameKind}{x:Str}{v:V'}:∀{P:List Str}{vs:List V'}{i:Nat}{m:Str->Option V'},P.Nodup->P[i]?=some x->vs[i]?=some v->N4 x=some .local->bindL N4 (P.zip vs) m x=some v|[],_,_,_,_,h,_,_=>by simp at h|_::_,[],_,_,_,_,h,_=>by simp at h|p::P,w::vs,0,m,nd,h1,h2,hk=>by simp at h1 h2;subst h1;subst h2;show bindL N4 ((p,w)::P.zip vs) m p=_;unfold bindL;rw[qaa9 λv a=>(zC0.mp nd).1 (Oy a).1,if_pos hk];simp|p::P,w::vs,i+1,m,nd,h1,h2,hk=>by show bindL N4 ((p,w)::P.zip vs) m x=_;unfold bindL;exact qab0 (i:=i) (zC0.mp nd).2 (by simpa using h1) (by simpa using h2) hk
theorem qab2{N4:Str->Option NameKind}{x:Str}{v:V'}:∀{P:List Str}{vs:List V'}{i:Nat}{m:Str->Option V'},P.Nodup->P[i]?=some x->vs[i]?=some v->N4 x≠some .local->bindC N4 (P.zip vs) m x=some v|[],_,_,_,_,h,_,_=>by simp at h|_::_,[],_,_,_,_,h,_=>by simp at h|p::P,w::vs,0,m,nd,h1,h2,hk=>by simp at h1 h2;subst h1;subst h2;show bindC N4 ((p,w)::P.zip vs) m p=_;unfold bindC;rw[qab1 λv a=>(zC0.mp nd).1 (Oy a).1,if_neg hk];simp|p::P,w::vs,i+1,m,nd,h1,h2,hk=>by show bindC N4 ((p,w)::P.zip vs) m x=_;unfold bindC;exact qab2 (i:=i) (zC0.mp nd).2 (by simpa using h1) (by simpa using h2) hk
noncomputable def start(N:List Str)(vs:List V):St:=vs.map some++N8 (N.length-vs.length) none
noncomputable def Gz(cm:Bool)(CX:CXT)(P:Nq)(w:Nt)(K:P')(mg:Str->Option V')(base:Heap)(N:List Str)(qual:Str)(scope:Scope)(f:γ)(cd:V')(A:Nr)(outer:List Env)(s:δ)(H:Hp)(E:XK):Cx where
 prog:=P
 w:=w
 K:=K
 mg:=mg
 base:=base
 A:=A.deeper (envOfC qual scope s.heap.objs.size f cd)
 N:=N
 s₀:=s
 H₀:=H
 env:=envOfC qual scope s.heap.objs.size f cd
 outer:=outer
 stack:=envOfC qual scope s.heap.objs.size f cd::outer
 ex:=[]
 calm:=cm
 fn:=λ_=>true
 pn:=[]
 xe:=λe s'=>No (Np P w) (A.deeper (envOfC qual scope s.heap.objs.size f cd)) (leaving (envOfC qual scope s.heap.objs.size f cd) e) (λ_ a=>CX outer H s E e a) (λb a=>CX outer H s E b a) s'
theorem qao8{sc:Scope}(h:sc.names.lookup x=some .cell):∃c,(cellsFrom n sc.names []).lookup x=some c:=by exact zB0.mp (W.cellsFrom_some sc.names n [] (.inl h))
theorem qau4{K:P'}(S:qa9 N ps scope)(G:cm=true->A.handled=none)(g:Env0 P w K mg base A outer s H)(M:vs.length=ps.length)(r:Q7 vs us)(x:InCallC s s.heap.objs.size (bindL (envOfC qual scope s.heap.objs.size f cd).kindOf (ps.zip us) λ_=>none) (cellsFrom (s.heap.objs.size+1) scope.names []) (bindC (envOfC qual scope s.heap.objs.size f cd).kindOf (ps.zip us) λ_=>none) C):Q9 (Gz cm CX P w K mg base N qual scope f cd A outer s H E) [] (start N vs) H C:=by
 have I:ps.length<=N.length:=by have:=congrArg Ob S.pre;rw[zBp] at this;lia
 obtain⟨t,O,rfl,D⟩:=x.done;have j:∀b:γ,b∉(Gz cm CX P w K mg base N qual scope f cd A outer s H E).ex:=λb z=>absurd (show b∈([]:List γ) from z) (by simp);refine⟨⟨g.mod,S.kind,rfl,rfl,zA3 _,λy z c t d=>?_,λy l=>?_,λy c _ h=>?_,G,Around.frames_deeper g.frames,.inr ⟨rfl,rfl⟩,λb z=>absurd z (j b),g.bs,g.bsz,λb _ _=>j b,λb z=>absurd z (j b),g.funs,g.frf⟩,
  rfl,g.bare,Un.kept D,⟨_,x.toInCall.ns,λi y v t d Q=>?_⟩,λy c h=>⟨_,x.cell y c h⟩,g.hok.fresh (zA3 _),λy c h=>?_,λp m=>absurd (show p∈([]:List (γ×Obj)) from m) (by simp),g.hok.kept D,?_⟩
 {exact name_of_addr x.apart (PySem.mem_of_lookup t) (PySem.mem_of_lookup d)};{have l:scope.names.lookup y=some .cell∨scope.names.lookup y=some .free:=l;rcases l with l|l;{exact qao8 l};exact absurd rfl (S.nofree _ (PySem.mem_of_lookup l))};{exact zBc (x.above y c (PySem.mem_of_lookup h))}
 .have B:i<vs.length:=by unfold start at d;by_cases B:i<vs.length;{exact B};rw[List.getElem?_append_right (by simpa using B)] at d;rw[List.getElem?_replicate] at d;split at d<;>cases d
  have J:vs[i]?=some v:=by unfold start at d;rw[zAu (by simpa using B),zB9] at d;cases e:vs[i]? with|none=>rw[e] at d;cases d|some a=>rw[e] at d;cases d;rfl
  obtain⟨u,F,L⟩:=r.get J;have m:ps[i]?=some y:=by rw[<-S.pre,List.getElem?_take_of_lt ⋯];exact t
  have o:ps.Nodup:=by rw[<-S.pre];exact S.nd.sublist (zBn _ _)
  refine⟨u,L,?_⟩;rcases S.par y (zB2 m) with k|k;{exact .inl ⟨k,qab0 o m F k⟩};obtain⟨c,e⟩:=qao8 (n:=s.heap.objs.size+1) k;refine .inr ⟨.inl k,c,e,?_⟩;have q:=x.cell y c e;rw[qab2 o m F (by show scope.names.lookup y≠_;rw[k];decide)] at q;exact q
 {exact g.hok.fresh (zBc (x.above y c (PySem.mem_of_lookup h)))};unfold start;show _=N.length;rw[zAb,zAe,List.length_replicate];lia
theorem Lx{K:P'}{kV:V'}{i:Array (Option V')}(F:K.lookup f=some ⟨oc,od,.func (W.fnOf name qual params body scope z kV d B D a C),i⟩)(j:W.codeIn K a qual=true)(S:qa9 N ps scope)(len:∀vs H Q E,sp vs H Q E->vs.length=ps.length)(hbody:∀(A:Nr)(outer:List Env)(s:δ)(H:Hp)(vs:List V)(Q:VK)(E:XK),Rc cm k (A.deeper (envOfC qual scope s.heap.objs.size f a))->sp vs H Q E->∃t,PSs (Gz cm CX P w K mg base N qual scope f a A outer s H E) body t/\t {nx:=λ_ H'=>Q .non H',rt:=Q} (start N vs) H):Gg cm P w K mg base CX (k+1) f (W.fnOf name qual params body scope z kV d B D a C) ps sp:=by
 refine⟨len,λA outer s H args G vs Q E l g I r h=>?_⟩;have KX:=g.mod.kin.keeps λb o e=>(g.bs b o e).1;have hkind:∀y∈ps.zip G,scope.names.lookup y.1=some .local∨(scope.names.lookup y.1=some .cell/\((cellsFrom (s.heap.objs.size+1) scope.names []).lookup y.1).isSome=true):=λ⟨n,v⟩ L=>by rcases S.par n (Oy L).1 with q|q;{exact .inl q};exact .inr ⟨q,W.cellsFrom_some _ _ _ (.inl q)⟩
 refine codeAny_call_function l.depth (KX _ _ F) rfl S.co S.gen rfl (W.codeRec_of KX j) (I _ _ _ _ ?_);refine wpAny_newFunctionEnv_cells S.kind hkind λM O R x=>?_;subst O;refine⟨(g.mod.nolimit.keeps λb o e=>(g.bs b o e).1).keeps x.toInCall.keep,codeAny_func ?_⟩;obtain⟨t,T,U⟩:=hbody A outer s H vs Q E (l.deeper _) h;refine Nj (T [] R (start N vs) H _ (qau4 S l.hd g (len _ _ _ _ h) r x) U) (λX m c=>?_) λe m c=>c;have fin:∀{Y':St}{H':Hp}{v:V}{u:V'},Q9 (Gz cm CX P w K mg base N qual scope f a A outer s H E) [] Y' H' m->Q6 v u->Q v H'->CE outer P w H s Q u m:=λ{Y' H' v u} J p q=>⟨v,H',J.os,J.bare,J.base,J.hok,p,q⟩;cases X with|ret u=>obtain⟨v,Y',H',J,p,q⟩:=c;exact fin J p q|next=>obtain⟨Y',H',J,q⟩:=c;exact fin (v:=V.non) J rfl q|brk=>obtain⟨_,_,_,q⟩:=c;exact Qv q|cont=>obtain⟨_,_,_,q⟩:=c;exact Qv q
section
variable{X:Cx}{x:Str}{p u:Pos}{e:Nu}{v:List Nu}{t:TA}{w T:String}{r:List V->Hp->VK->Prop}
def tCB(r:List V->Hp->VK->Prop)(t:TA):TE:=λq H Q=>t q H λvs H1=>r vs H1 Q
theorem qaG1(c:CallR X (.builtin w) r)(d:Gl X x)(hm:X.mg x=none)(f:Na x=some (.builtin w))(g:PA X (e::v) t)(i:x ≠ "__name__" := by decide)(a:N' x:=by decide)(j:M6 (e::v) X.env=(false,eval e X.env)::M6 v X.env:=by rfl)(b:(backTo u (M6 v X.env)).any (·.1)=false:=by rfl):PE X (.Call (.Name x p) (e::v) [] u) (tCB r t):=by intro Fm s q H Q I h;exact wpAny_Call_Name_kw (qal9 I d hm f (PyProof.Rows.callWith_builtin1 (thn (g u Fm s q H _ I h) λk l ⟨m,H1,I1,n,o⟩=>c Fm l q H1 m k Q I1 n o) j b) i a)
theorem qas7(c:CallR X (.type T) r)(d:Gl X x)(hm:X.mg x=none)(f:Na x=some (.type T))(g:PA X (e::v) t)(i:x ≠ "__name__" := by decide)(a:N' x:=by decide)(j:M6 (e::v) X.env=(false,eval e X.env)::M6 v X.env:=by rfl)(b:(backTo u (M6 v X.env)).any (·.1)=false:=by rfl):PE X (.Call (.Name x p) (e::v) [] u) (tCB r t):=by intro Fm s q H Q I h;exact wpAny_Call_Name_kw (qal9 I d hm f (PyProof.Rows.callWith_type1 (thn (g u Fm s q H _ I h) λk l ⟨m,H1,I1,n,o⟩=>c Fm l q H1 m k Q I1 n o) j b) i a)
end
end L2
namespace HT
open PySem PyProof.Rows
section
noncomputable def sIx(n d:Nat):Option Int->Nat|none=>d|some v=>if v<0 then (v+(n:Int)).toNat else min v.toNat n
theorem qT7(n d:Nat):sIx n d none=d:=rfl
theorem qai2(n d k:Nat):sIx n d (some (k:Int))=min k n:=by show (if (k:Int)<0 then ((k:Int)+(n:Int)).toNat else min (k:Int).toNat n)=min k n;rw[if_neg ⋯,Int.toNat_natCast]
end
end HT
namespace L2
open PySem PySem.Spec PyProof.Rows
variable{its us:List V'}{n:Nat}{x:V}{α:Type}
abbrev TO:=St->Hp->(Option Int->Hp->Prop)->Prop
def PO(X:Cx)(e:Option Nu)(t:TO):Prop:=∀(Fm:List (γ×Obj))(s:δ)(a:St)(H:Hp)(Q:Option Int->Hp->Prop),Q9 X Fm a H s->t a H Q->No (Np X.prog X.w) X.A (evalPart e X.env) (λu s'=>∃o H',Q9 X Fm a H' s'/\IsPart u o/\Q o H') X.xe s
def qaM8:TO:=λ_ H Q=>Q none H
def tPart(t:TE):TO:=λa H Q=>t a H λx H1=>∃i,x=.int i/\Q (some i) H1
theorem qam9:∀{us:List V'},Q7 (ns.map V.int) us->IntsAre us ns:=by induction ns with|nil=>intro us r;rw[O7] at r;cases r;exact .nil|cons n ns a=>intro us r;rw[zAy] at r;cases r with|cons b c=>obtain⟨t,e⟩:=b;subst e;exact .cons n t (a c)
section
variable{X:Cx}{e:Nu}{te:TE}{E F:Option Nu}{G K:TO}{L M:Pos}
theorem qai9:PO X none qaM8:=by intro Fm s D H Q I h;rw[evalPart_none];exact J' ⟨none,H,I,.none,h⟩
theorem qai8(h:PE X e te):PO X (some e) (tPart te):=by intro Fm s D H Q I b;rw[evalPart_some];refine thn (h Fm s D H _ I b) λu f a=>?_;obtain⟨x,H1,I1,c,d⟩:=a;obtain⟨i,rfl,q⟩:=d;obtain⟨t,rfl⟩:=c;exact⟨some i,H1,I1,.int i t,q⟩
def SlR(X:Cx)(r:V->Option Int->Option Int->Hp->VK->Prop):Prop:=∀(Fm:List (γ×Obj))(s:δ)(D:St)(H:Hp)(x:V)(v vl vu:V')(E F:Option Int)(sl:γ)(Q:VK),Q9 X Fm D H s->Q6 x v->s.heap.IsSliceOf sl vl vu .none->IsPart vl E->IsPart vu F->r x E F H Q->∃T id,typeLookup (.type T) "__getitem__"=pure (some (.builtin id))/\s.TypeIs v T/\No (Np X.prog X.w) X.A (getItem v (.ref sl)) (EP X Fm D Q) X.xe s
def tSl(r:V->Option Int->Option Int->Hp->VK->Prop)(te:TE)(G K:TO):TE:=λD H Q=>te D H λx H1=>G D H1 λl H2=>K D H2 λu H3=>r x l u H3 Q
theorem qU0(g:SlR X r)(i:PE X e te)(j:PO X E G)(k:PO X F K):PE X (.Subscript e (.Slice E F none M) L) (tSl r te G K):=by intro Fm s D H Q I h;refine Subscript_ (thn (i Fm s D H _ I h) λv m a=>?_);obtain⟨x,H1,I1,n,o⟩:=a;refine wpAny_Slice (thn (j Fm m D H1 _ I1 o) λd p a=>?_);obtain⟨l,H2,I2,t,q2⟩:=a;refine thn (k Fm p D H2 _ I2 q2) λf c a=>?_;obtain⟨u,H3,I3,w,y⟩:=a;rw[evalPart_none];refine J' ?_;have I4:Q9 X Fm D H3 {c with heap:=c.heap.push {cls:=.type "slice",data:=.fields #[d,f,.none]} }:=I3.kept λb C q=>zA2 _ q;obtain⟨T,id,z,A,B⟩:=g Fm {c with heap:=c.heap.push {cls:=.type "slice",data:=.fields #[d,f,.none]} } D H3 x v d f l u c.heap.objs.size Q I4 n (Heap.IsSliceOf.new ..) t w y;exact tail_any A z B (by with_unfolding_all rfl)
def Ja(xs:List V)(E F:Option Int):List V:=(xs.drop (HT.sIx xs.length 0 E)).take (HT.sIx xs.length xs.length F-HT.sIx xs.length 0 E)
theorem qae8(xs:List V)(E F:Option Int):(Ja xs E F).length<=xs.length:=by unfold Ja;rw[zBp,zCj];lia
end
noncomputable def ixN(n:Nat)(i:Int):Option Nat:=if 0<=i then (if i<n then some i.toNat else none) else if -(n:Int)<=i then some (i+n).toNat else none
def atI{α:Type}(xs:List α)(i:Int):Option α:=(ixN xs.length i).bind λj=>xs[j]?
theorem qam5(h:ixN n i=some j):seqIndex? i n=some j/\j<n/\-(n:Int)<=i/\i<n:=by unfold ixN at h;by_cases b:0<=i;{rw[if_pos b] at h;by_cases a:i<n;{rw[if_pos a] at h;have e:=P8 h;exact⟨by rw[seqIndex_of b a,e],⋯,⋯,a⟩};rw[if_neg a] at h;cases h};rw[if_neg b] at h;by_cases a:-(n:Int)<=i;{rw[if_pos a] at h;have e:=P8 h;exact⟨by rw[seqIndex_neg ⋯ a,e],⋯,a,⋯⟩};rw[if_neg a] at h;cases h
theorem qap4(h:atI xs i=some v):∃j,seqIndex? i xs.length=some j/\xs[j]?=some v/\j<xs.length/\-(xs.length:Int)<=i/\i<xs.length:=by unfold atI at h;cases e:ixN xs.length i with|none=>rw[e] at h;cases h|some j=>rw[e] at h;obtain⟨a,b,c,d⟩:=qam5 e;exact⟨j,a,h,b,c,d⟩
theorem qap3{j:Nat}(h:xs[j]?=some v):atI xs (j:Int)=some v:=by
 have a:=(zA4.mp h).1;have e:ixN xs.length (j:Int)=some j:=by unfold ixN;rw[if_pos ⋯,if_pos ⋯];simp
 unfold atI;rw[e];exact h
theorem qaL7(xs:List α)(v:α):atI (xs++[v]) (-1)=some v:=by
 have a:(xs++[v]).length=xs.length+1:=by simp
 have e:ixN (xs++[v]).length (-1)=some xs.length:=by unfold ixN;rw[a,if_neg ∅,if_pos ⋯];congr 1;lia
 unfold atI;rw[e];show (xs++[v])[xs.length]?=some v;simp
def qap9(b:Nu):Prop:=∀o i,subscripted b false o i=operate [o,i] (getItem o i)
def IxR(X:Cx)(r:R2):Prop:=∀(value slice:Nu)(Fm:List (γ×Obj))(s:δ)(a:St)(H:Hp)(x y:V)(v u:V')(Q:VK),Q9 X Fm a H s->Q6 x v->Q6 y u->r x y H Q->subscripted slice false v u=operate [v,u] (getItem v u)->No (Np X.prog X.w) X.A (subscriptTail value slice v u) (EP X Fm a Q) X.xe s
def MtR(X:Cx)(id:String)(r:V->List V->Hp->VK->Prop):Prop:=∀(Fm:List (γ×Obj))(s:δ)(a:St)(H:Hp)(x:V)(xs:List V)(v:V')(us:List V')(Q:VK),Q9 X Fm a H s->Q6 x v->Q7 xs us->r x xs H Q->No (Np X.prog X.w) X.A (call (.builtin id) (v::us)) (EP X Fm a Q) X.xe s
section
variable{X:Cx}{a b:Nu}{Z tb:TE}{Y:Pos}
theorem IxR.or{a:R2}(h:IxR X r)(h':IxR X a):IxR X (λx y H Q=>r x y H Q∨a x y H Q):=by intro value slice Fm s L H x y v u Q I b c q d;rcases q with q|q;{exact h value slice Fm s L H x y v u Q I b c q d};exact h' value slice Fm s L H x y v u Q I b c q d
theorem pe_ix(c:IxR X r)(d:PE X a Z)(e:PE X b tb)(f:qap9 b):PE X (.Subscript a b Y) (tOp r Z tb):=by intro Fm s L H Q I h;exact Subscript_ (binT d e I h λv u g x y H2 I2 i j q=>c a b Fm g L H2 x y v u Q I2 i j q (f _ _))
def rIxL(K:P'):R2:=λx y H Q=>∃p xs i v,x=.ref p/\y=.int i/\SqL K H p xs/\atI xs i=some v/\Q v H
def rIxT(K:P'):R2:=λx y H Q=>∃p xs i v,x=.ref p/\y=.int i/\SqT K H p xs/\atI xs i=some v/\Q v H
def rIxS:R2:=λx y H Q=>∃z i c,x=.str z/\y=.int i/\z.length<=M7/\atI z.cps.toList i=some c/\Q (.str ⟨#[c]⟩) H
theorem qaS9:IxR X (rIxL X.K):=by
 intro value slice Fm s L H x y v u Q I l m h f;obtain⟨p,E,i,z,rfl,rfl,n,o,q⟩:=h;cases l;obtain⟨t,rfl⟩:=m;obtain⟨b,r,c,F⟩:=I.list n;obtain⟨j,a,A,G,B,C⟩:=qap4 o;obtain⟨w,g,d⟩:=r.get A;have D:=r.length;have J:=qV2;have fin:EP X Fm L Q w s:=⟨z,H,I,d,q⟩;by_cases k:0<=i
 .have e:i.toNat=j:=by rw[seqIndex_of k C] at a;exact P8 a
  exact item_listR c.isList k ⋯ (by rw[e];simpa using g) fin f
 have e:(i+(b.toArray.size:Int)).toNat=j:=by rw[seqIndex_neg ⋯ B] at a;rw[zA5,<-D];exact P8 a
 exact subscriptTail_builtinR c.isList.typeIs slot_list_getitem.lookup
  (wpAny_getItem_list_neg c.isList ⋯ (by rw[zA5]<;>lia) ⋯ (by rw[e];simpa using g) ⟨rfl,fin⟩) f
theorem qbd5:IxR X (rIxT X.K):=by
 intro value slice Fm s L H x y v u Q I c d h e;obtain⟨p,o,i,z,rfl,rfl,f,g,q⟩:=h;cases c;obtain⟨t,rfl⟩:=d;obtain⟨k,r,b,A⟩:=I.tuple f;obtain⟨j,l,m,B,C,D⟩:=qap4 g;obtain⟨w,n,a⟩:=r.get m;have E:=qV2;exact subscriptTail_builtinR b.typeIs slot_tuple_getitem.lookup
  (getItem_tuple b ⋯ ⋯ (by rw[zA5,<-(r.length)];exact l) (by simpa using n) ⟨rfl,(⟨z,H,I,a,q⟩)⟩) e
theorem qbd6:IxR X rIxS:=by
 intro value slice Fm s L H x y v u Q I b d h e;obtain⟨z,i,c,rfl,rfl,n,f,q⟩:=h;obtain⟨t,rfl⟩:=b;obtain⟨o,rfl⟩:=d;obtain⟨j,a,g,p,k,l⟩:=qap4 f;have m:z.cps.toList.length=z.length:=by simp[Str.length]
 rw[m] at a k l;have r:=qV2;exact tail_any (typeIs_str s z t) slot_str_getitem.lookup (getItem_str (by rw[(zAz ⋯),(zAz ⋯),Bool.or_false]) (by rw[a];simpa using g) ⟨.str ⟨#[c]⟩,H,I.tok _,⟨_,rfl⟩,q⟩) e
def rIx(K:P'):R2:=λx y H Q=>rIxL K x y H Q∨rIxT K x y H Q∨rIxS x y H Q
theorem qb4:IxR X (rIx X.K):=qaS9.or (qbd5.or qbd6)
theorem qal3(its:List V')(n j:Nat)(u:V'):Obj.mapSeq (·.setIfInBounds j u) {cls:=.type "list",data:=.seq its.toArray n}={cls:=.type "list",data:=.seq (its.set j u).toArray n}:=by simp[Obj.mapSeq]
theorem Q9.l(I:Q9 X Fm L H s)(h:H p=some (.l xs)):∃(its:List V')(n:Nat),Q7 xs its/\s.heap.get? p=some {cls:=.type "list",data:=.seq its.toArray n}/\xs.length<=M7:=by obtain⟨z,its,n,r,e⟩:=I.hok p _ h;exact⟨its,n,r,e,z⟩
theorem Q9.lstUpd{a:Nat}(I:Q9 X Fm L H s)(h:H p=some (.l xs))(d:s.heap.get? p=some {cls:=.type "list",data:=.seq its.toArray n})(c:f {cls:=.type "list",data:=.seq its.toArray n}={cls:=.type "list",data:=.seq its'.toArray a})(r:Q7 ys its')(g:ys.length<=M7)(t:Nat):Q9 X Fm L (upd H p (.l ys)) {s with heap:=s.heap.update p f,toks:=t}:=by
 have e:(s.heap.update p f).get? p=some {cls:=.type "list",data:=.seq its'.toArray a}:=by rw[zBu f d (by rw[c]<;>rfl),c]
 refine I.write (by rw[h];trivial) (.inl rfl) (λb u i q=>(zBg _ _ (Ne.symm i)).trans q) ⟨_,e⟩ ?_;exact⟨g,its',a,r,e⟩
def rSetL:V->V->V->Hp->(Hp->Prop)->Prop:=λo i v H Q=>∃p xs k j,o=.ref p/\i=.int k/\H p=some (.l xs)/\ixN xs.length k=some j/\Q (upd H p (.l (xs.set j v)))
theorem qah6:PSet X rSetL:=by
 intro Fm s L H o i v B C u Q I w x y h;obtain⟨p,D,k,j,rfl,rfl,f,z,q⟩:=h;cases w;obtain⟨t,rfl⟩:=x;obtain⟨a,n,r,c,A⟩:=I.l f;obtain⟨b,E,g,l⟩:=qam5 z;have d:=r.length;have F:=qV2;have I':=I.lstUpd f c (qal3 a n j u) (r.set y j) (by rw[Om];exact A) s.toks;by_cases m:0<=k
 .have e:k.toNat=j:=by rw[seqIndex_of m l] at b;exact P8 b
  exact W.ki_setAt c m ⋯ (by rw[zA5,<-d];exact l) (by rw[e];exact⟨_,I',q⟩)
 have e:(k+(a.toArray.size:Int)).toNat=j:=by rw[seqIndex_neg ⋯ g] at b;rw[zA5,<-d];exact P8 b
 exact W.ki_setBack c ⋯ (by rw[zA5,<-d];exact g) ⋯ (by rw[e];exact⟨_,I',q⟩)
theorem qS5(lo hi:Option Int)(n:Nat):(sliceBounds lo hi none n).1=((HT.sIx n 0 lo:Nat):Int)/\(sliceBounds lo hi none n).2.1=((HT.sIx n n hi:Nat):Int)/\(sliceBounds lo hi none n).2.2=1:=by refine⟨?_,?_,rfl⟩;{cases lo with|none=>simp[sliceBounds,HT.sIx]|some i=>simp only[sliceBounds,HT.sIx,Option.getD_none,show (1:Int)>0 by decide,if_true];by_cases h:i<0;{simp only[h,if_true]<;>lia};simp only[h,if_false]<;>lia};cases hi with|none=>simp[sliceBounds,HT.sIx]|some i=>simp only[sliceBounds,HT.sIx,Option.getD_none,show (1:Int)>0 by decide,if_true];by_cases h:i<0;{simp only[h,if_true]<;>lia};simp only[h,if_false]<;>lia
theorem qM8(its:List V')(lo hi:Option Int):slicePick its.toArray lo hi none=((its.drop (HT.sIx its.length 0 lo)).take (HT.sIx its.length its.length hi-HT.sIx its.length 0 lo)).toArray:=by obtain⟨a,b,c⟩:=qS5 lo hi its.toArray.size;unfold slicePick;rw[a,b,c];simp only[sliceRange_one,pick_run,zA5]<;>rfl
def rSlL(K:P'):V->Option Int->Option Int->Hp->VK->Prop:=λx lo hi H Q=>∃a xs,x=.ref a/\SqL K H a xs/\∀p,H p=none->Q (.ref p) (upd H p (.l (Ja xs lo hi)))
theorem qah2:SlR X (rSlL X.K):=by intro Fm s L H x v t u e f w Q I i j k l h;obtain⟨a,c,rfl,m,q⟩:=h;cases i;obtain⟨n,r,g,p⟩:=I.list m;have d:=r.length;refine⟨"list",_,slot_list_getitem.lookup,g.isList.typeIs,?_⟩;refine wpAny_getItem_list_slice g.isList j k l .none (by simp) ?_ (by rw[zA5]<;>lia);rw[qM8,<-d];refine⟨.ref s.heap.objs.size,_,I.laid (t':=s.toks) (o:=.l (Ja c e f)) (λb y q=>zA2 _ q) (zA3 _) ?_,rfl,q _ (I.hok.fresh (zA3 _))⟩;exact⟨zAg (qae8 c e f) p,_,0,(r.drop (HT.sIx c.length 0 e)).take (HT.sIx c.length c.length f-HT.sIx c.length 0 e),zAx _ rfl⟩
noncomputable def flatV:V->Bool|.non=>true|.bl _=>true|.int _=>true|.str _=>true|_=>false
noncomputable def eqV:V->V->Bool|.non,.non=>true|.bl a,.bl b=>a==b|.bl a,.int b=>(if a then 1 else 0)==b|.int a,.bl b=>a==(if b then 1 else 0)|.int a,.int b=>a==b|.str a,.str b=>a==b|_,_=>false
theorem qaV7(e:Q6 y u)(c:Q6 x v)(g:flatV y=true)(f:flatV x=true):SeqAt.EqAt A s u v (eqV y x):=by cases y with|non=>(cases e;cases x with|non=>cases c;exact SeqAt.EqAt.same _|bl b=>cases c;exact SeqAt.EqAt.none_bool b|int b=>obtain⟨t,rfl⟩:=c;exact SeqAt.EqAt.none_int b t|str b=>obtain⟨t,rfl⟩:=c;exact SeqAt.EqAt.none_str b t|_=>exact absurd (show false=true from f) zAn)|bl a=>(cases e;cases x with|non=>cases c;exact SeqAt.EqAt.bool_none a|bl b=>cases c;exact SeqAt.EqAt.bool_bool a b|int b=>obtain⟨t,rfl⟩:=c;exact SeqAt.EqAt.bool_int a b t|str b=>obtain⟨t,rfl⟩:=c;exact SeqAt.EqAt.bool_str a b t|_=>exact absurd (show false=true from f) zAn)|int a=>(obtain⟨d,rfl⟩:=e;cases x with|non=>cases c;exact SeqAt.EqAt.int_none a d|bl b=>cases c;exact SeqAt.EqAt.int_bool a d b|int b=>obtain⟨t,rfl⟩:=c;exact SeqAt.EqAt.int_int a d b t|str b=>obtain⟨t,rfl⟩:=c;exact SeqAt.EqAt.int_str a d b t|_=>exact absurd (show false=true from f) zAn)|str a=>(obtain⟨d,rfl⟩:=e;cases x with|non=>cases c;exact SeqAt.EqAt.str_none a d|bl b=>cases c;exact SeqAt.EqAt.str_bool a d b|int b=>obtain⟨t,rfl⟩:=c;exact SeqAt.EqAt.str_int a d b t|str b=>obtain⟨t,rfl⟩:=c;exact SeqAt.EqAt.str_str a d b t|_=>exact absurd (show false=true from f) zAn)|_=>exact absurd (show false=true from g) zAn
def eqU(x:V)(u:V'):Bool:=match u with|.none=>eqV .non x|.bool b=>eqV (.bl b) x|.int i _=>eqV (.int i) x|.str z _=>eqV (.str z) x|_=>false
theorem qav9(r:Q6 y u)(f:flatV y=true):eqU x u=eqV y x:=by cases y with|non=>cases r;rfl|bl b=>cases r;rfl|int i=>obtain⟨t,rfl⟩:=r;rfl|str z=>obtain⟨t,rfl⟩:=r;rfl|_=>exact absurd (show false=true from f) zAn
theorem qQ2{x:V}:∀{xs:List V}{us:List V'},Q7 xs us->xs.all flatV=true->us.any (eqU x)=xs.any λy=>eqV y x|_,_,.nil,_=>rfl|y::xs,u::us,.cons r t,f=>by rw[Of,zBb] at f;rw[zCf,zCf,qav9 r f.1,qQ2 t f.2]
theorem qr6{A:Nr}{s:δ}{x:V}{v:V'}(b:Q6 x v)(c:flatV x=true):∀{xs:List V}{us:List V'},Q7 xs us->xs.all flatV=true->∀u∈us,SeqAt.EqAt A s u v (eqU x u)|_,_,.nil,_=>λu a=>by cases a|y::xs,u::us,.cons r t,f=>λd a=>by rw[Of,zBb] at f;rcases zAj.mp a with rfl|a;{rw[qav9 r f.1];exact qaV7 r b f.1 c};exact qr6 b c t f.2 d a
def inV(x:V)(xs:List V):Bool:=xs.any λy=>eqV y x
def rIn(K:P')(neg:Bool):R2:=λx y H Q=>∃p xs,y=.ref p/\(SqL K H p xs∨SqT K H p xs)/\flatV x=true/\xs.all flatV=true/\Q (.bl (if neg then !inV x xs else inV x xs)) H
theorem qJ5:OpR X (M8 .In) (rIn X.K false):=by intro Fm s L H x y v u Q I f i h;obtain⟨p,k,rfl,b,g,c,q⟩:=h;cases i;rcases b with b|b;{obtain⟨a,r,d,j⟩:=I.list b;refine SeqAt.in_listAt (eqU x) d.isList (λw e=>qr6 f g r c w (by simpa using e)) ⟨.bl _,H,I,rfl,?_⟩;rw[show a.toArray.any (eqU x)=a.any (eqU x) by simp,qQ2 r c];exact q};obtain⟨a,r,d,j⟩:=I.tuple b;refine SeqAt.in_tupleAt (eqU x) d (λw e=>qr6 f g r c w (by simpa using e)) ⟨.bl _,H,I,rfl,?_⟩;rw[show a.toArray.any (eqU x)=a.any (eqU x) by simp,qQ2 r c];exact q
theorem qC3:OpR X (M8 .NotIn) (rIn X.K true):=by intro Fm s L H x y v u Q I f i h;obtain⟨p,k,rfl,b,g,c,q⟩:=h;cases i;rcases b with b|b;{obtain⟨a,r,d,j⟩:=I.list b;refine SeqAt.notIn_listAt (eqU x) d.isList (λw e=>qr6 f g r c w (by simpa using e)) ⟨.bl _,H,I,rfl,?_⟩;rw[show a.toArray.any (eqU x)=a.any (eqU x) by simp,qQ2 r c];exact q};obtain⟨a,r,d,j⟩:=I.tuple b;refine SeqAt.notIn_tupleAt (eqU x) d (λw e=>qr6 f g r c w (by simpa using e)) ⟨.bl _,H,I,rfl,?_⟩;rw[show a.toArray.any (eqU x)=a.any (eqU x) by simp,qQ2 r c];exact q
theorem qW3:CallR X (.builtin "len") (λxs H Q=>∃p ys,xs=[.ref p]/\(SqL X.K H p ys∨SqT X.K H p ys)/\Q (.int ys.length) H):=by intro Fm s L H xs i Q I r h;obtain⟨p,ys,rfl,b,q⟩:=h;obtain⟨u,rfl,f⟩:=B9 r;cases f;have j:=qV2;rcases b with b|b;{obtain⟨c,d,e,g⟩:=I.list b;have a:=d.length;exact Calls.call_len_list e.isList (by simp only[zA5]<;>lia) ⟨.int ys.length,H,I.tok _,⟨s.toks+1,by rw[zA5,a]⟩,q⟩};obtain⟨c,d,e,g⟩:=I.tuple b;have a:=d.length;exact len_tuple e (by simp only[zA5]<;>lia) ⟨.int ys.length,H,I.tok _,⟨s.toks+1,by rw[zA5,a]⟩,q⟩
theorem qW2:CallR X (.builtin "len") (λxs H Q=>∃z,xs=[.str z]/\z.length<=M7/\Q (.int z.length) H):=by intro Fm s L H xs a Q I r h;obtain⟨z,rfl,b,q⟩:=h;obtain⟨u,rfl,t,rfl⟩:=B9 r;have c:=qV2;exact len_str ⋯ ⟨.int z.length,H,I.tok _,⟨_,rfl⟩,q⟩
theorem CallR.or{a:List V->Hp->VK->Prop}(h:CallR X f r)(h':CallR X f a):CallR X f (λxs H Q=>r xs H Q∨a xs H Q):=by intro Fm s L H xs b Q I c q;rcases q with q|q;{exact h Fm s L H xs b Q I c q};exact h' Fm s L H xs b Q I c q
theorem qg7:CallR X (.type "list") (λxs H Q=>∃p ys,xs=[.ref p]/\(SqL X.K H p ys∨SqT X.K H p ys)/\∀l,H l=none->Q (.ref l) (upd H l (.l ys))):=by
 intro Fm s L H xs A Q I r h;obtain⟨p,ys,rfl,g,q⟩:=h;obtain⟨u,rfl,z⟩:=B9 r;cases z;have fin:∀(a:List V'),Q7 ys a->ys.length<=M7->∀(c:Heap)(d:Nat),(∀b y,s.heap.get? b=some y->c.get? b=some y)->c.get? s.heap.objs.size=some {cls:=.type "list",dict:=none,data:=.seq a.toArray d,slots:=#[]}->EP X Fm L Q (.ref s.heap.objs.size) {s with heap:=c}:=λa f i c d j e=>
  ⟨.ref s.heap.objs.size,_,I.laid j (zA3 _) (show ObjOk X.prog X.w _ c _ (.l ys) from⟨i,a,d,f,e⟩),rfl,q _ (I.hok.fresh (zA3 _))⟩
 rcases g with g|g;{obtain⟨a,f,m,i⟩:=I.list g;have k:=f.length;obtain⟨o,t,v,n,x⟩:=m.isList;exact call_list_seq p (.inl rfl) t v x (λc d j e=>fin a f i c d j e) (by simp only[zA5]<;>lia)};obtain⟨a,f,m,i⟩:=I.tuple g;have k:=f.length;obtain⟨o,t,v,n,x⟩:=m;exact call_list_seq p (.inr rfl) t v x (λc d j e=>fin a f i c d j e) (by simp only[zA5]<;>lia)
def tyV(K:P')(T:String)(x:V)(H:Hp):Prop:=match x with|.str _=>T="str"|.int _=>T="int"|.ref p=>(T="list" /\ ∃xs,SqL K H p xs)∨(T="tuple" /\ ∃o,K.lookup p=some o/\o.cls=.type "tuple" /\ o.dict=none)∨(T="dict" /\ ((∃kvs,H p=some (.dK kvs))∨∃kvs,H p=some (.dT kvs)))∨(T="set" /\ ∃S n,H p=some (.set S n))|_=>False
theorem qaM4(I:Q9 X Fm L H s)(r:Q6 x v)(ty:tyV X.K T x H):s.TypeIs v T/\∀a,v=.ref a->∃ob,s.heap.get? a=some ob/\ob.dict=none:=by
 cases x with
 |str z=>obtain⟨t,rfl⟩:=r;cases (show T="str" from ty);exact⟨typeIs_str s z t,λ_ e=>nomatch e⟩|int i=>obtain⟨t,rfl⟩:=r;cases (show T="int" from ty);exact⟨typeIs_int s i t,λ_ e=>nomatch e⟩|ref p=>
  cases r;rcases ty with⟨rfl,xs,hq⟩|⟨rfl,o,hk,hc,d⟩|⟨rfl,hk⟩|⟨rfl,S,n,hk⟩;{obtain⟨g,_,f,_⟩:=I.list hq;refine⟨f.isList.typeIs,λa e=>?_⟩;cases e;obtain⟨o,n,e,c,d,_⟩:=f;exact⟨o,e,d⟩};{refine⟨⟨o,I.kIn p o hk,hc⟩,λa e=>?_⟩;cases e;exact⟨o,I.kIn _ o hk,d⟩}
  .have z:∃o,s.heap.get? p=some o/\o.ExactDict:=by rcases hk with⟨kvs,hk⟩|⟨kvs,hk⟩;{obtain⟨_,_,_,_,o,_,_,e,b,_⟩:=I.hok p _ hk;exact⟨o,e,b⟩};obtain⟨_,_,_,_,o,_,_,e,b,_⟩:=I.hok p _ hk;exact⟨o,e,b⟩
   obtain⟨o,e,b⟩:=z;refine⟨⟨o,e,b.1⟩,λa e2=>?_⟩;cases e2;exact⟨o,e,b.2.1⟩
  obtain⟨o,_,_,_,e,b,_⟩:=I.hok p _ hk;refine⟨⟨o,e,b.1⟩,λa e2=>?_⟩;cases e2;exact⟨o,e,b.2.1⟩
 |_=>exact Qv ty
def tBM0(K:P')(T:String)(r:V->List V->Hp->VK->Prop)(O:TE):TE:=λL H Q=>O L H λx H1=>tyV K T x H1/\r x [] H1 Q
def tBM(K:P')(T:String)(r:V->List V->Hp->VK->Prop)(O:TE)(t:TA):TE:=λL H Q=>O L H λx H1=>tyV K T x H1/\t L H1 λxs H2=>r x xs H2 Q
variable{o e:Nu}{U:List Nu}{O:TE}{t:TA}{name:Str}{N M:Pos}{T R:String}{r:V->List V->Hp->VK->Prop}
theorem qba4(d:PlainAttrs T)(slot:Slot T name R)(a:typeOf (.builtin R)=pure (.type "method_descriptor"))(hm:MtR X R r)(e:PE X o O)(hbase:Nc o name X.env (eval o X.env)=eval o X.env:=by rfl)(hline:(N.endLine==M.line)=true:=by rfl):PE X (.Call (.Attribute o name N) [] [] M) (tBM0 X.K T r O):=by intro Fm s L H Q I h;refine wpAny_Call_method0_late hbase hline (thn (e Fm s L H _ I h) λv f b=>?_);obtain⟨x,H1,I1,c,ty,g⟩:=b;obtain⟨i,j⟩:=qaM4 I1 c ty;exact⟨T,R,d,slot,a,i,j,Calls.callWith_builtin rfl (PySem.evalArgs_none (hm Fm f L H1 x [] v [] Q I1 c .nil g))⟩
theorem Jz(g:PlainAttrs T)(slot:Slot T name R)(b:typeOf (.builtin R)=pure (.type "method_descriptor"))(hm:MtR X R r)(i:PE X o O)(j:PA X (e::U) t)(hbase:Nc o name X.env (eval o X.env)=eval o X.env:=by rfl)(a:((backTo M (M6 (e::U) X.env)).all (λx=>!x.1)&&(backToKw M (Ni [] X.env)).all (λx=>x.1.isSome)
 && decide ((e::U).length+([]:List Keyword).length+(if ([]:List Keyword).isEmpty then 0 else 1)<30))=true:=by rfl)(hline:(N.endLine==M.line)=true:=by rfl)(k:M6 (e::U) X.env=(false,eval e X.env)::M6 U X.env:=by rfl)(hplain:(backTo M (M6 U X.env)).any (·.1)=false:=by rfl):PE X (.Call (.Attribute o name N) (e::U) [] M) (tBM X.K T r O t):=by intro Fm s L H Q I h;refine wpAny_Call_method_late hbase a hline rfl (thn (i Fm s L H _ I h) λv l c=>?_);obtain⟨x,H1,I1,d,ty,m⟩:=c;obtain⟨n,p⟩:=qaM4 I1 d ty;refine⟨T,R,g,slot,b,n,p,?_⟩;have f:=j M Fm l L H1 _ I1 m;rw[k] at f ⊢;refine Calls.callWith_builtin (by show (false||(backTo M (M6 U X.env)).any (·.1))=false;rw[hplain]<;>rfl) (Calls.evalArgs_plain ?_);exact thn f λq u ⟨w,H2,I2,y,q2⟩=>hm Fm u L H2 x w v q Q I2 d y q2
/- xs.append(e),list.index on a module's tuple .. are MtR facts of 06m -/
end
def MtM(X:Cx)(id:String)(r:V->List V->Hp->VK->Prop):Prop:=∀(Fm:List (γ×Obj))(s:δ)(a:St)(H:Hp)(x:V)(xs:List V)(v:V')(us:List V')(Q:VK),Q9 X Fm a H s->Q6 x v->Q7 xs us->r x xs H Q->No (Np X.prog X.w) X.A (call (.builtin id) (v::us)) (EP X Fm a Q) X.xe s
theorem Q7.one(h:Q7 [x] us):∃u,us=[u]/\Q6 x u:=by cases h with|cons r t=>cases t;exact⟨_,rfl,r⟩
theorem Q7.two(h:Q7 [x,y] us):∃u v,us=[u,v]/\Q6 x u/\Q6 y v:=by cases h with|cons r t=>cases t with|cons q t=>cases t;exact⟨_,_,rfl,r,q⟩
theorem Q7.zero:∀{us:List V'},Q7 [] us->us=[]|_,.nil=>rfl
theorem Q7.dropLast(h:Q7 xs us):Q7 xs.dropLast us.dropLast:=by induction h with|nil=>exact .nil|cons r t a=>cases t with|nil=>exact .nil|cons q b=>exact .cons r a
theorem Q7.eraseIdx:∀{xs:List V}{us:List V'}(i:Nat),Q7 xs us->Q7 (xs.eraseIdx i) (us.eraseIdx i)|_,_,_,.nil=>.nil|_,_,0,.cons _ t=>t|_,_,i+1,.cons r t=>.cons r (Q7.eraseIdx i t)
theorem Q7.rep{xs:List V}{us:List V'}(h:Q7 xs us):∀k:Nat,Q7 (N8 k xs).flatten (N8 k us).flatten|0=>.nil|k+1=>by rw[zBt,zBt,zCa,zCa];exact Q7.append h (Q7.rep h k)
theorem qao1(l:List α):l.eraseIdx (l.length-1)=l.dropLast:=by
 induction l with
 |nil=>rfl|cons a r c=>
  cases r with
  |nil=>rfl|cons b r=>
   have e:(a::b::r).length-1=((b::r).length-1)+1:=by have d:(a::b::r).length=r.length+2:=rfl;have f:(b::r).length=r.length+1:=rfl;lia
   rw[e,List.eraseIdx_cons_succ,c];all_goals rfl
theorem qZ3(its:List V'):∀(k:Nat)(acc:List V'),
 On (λa b=>a++b) acc.toArray (N8 k its.toArray)=(acc++(N8 k its).flatten).toArray
 |0,acc=>by simp
 |k+1,acc=>by
  have e:acc.toArray++its.toArray=(acc++its).toArray:=by simp
  have e2:(acc++its)++(N8 k its).flatten=acc++(N8 (k+1) its).flatten:=by
   rw[zBt,zCa,zAs]
  rw[<-e2,<-qZ3 its k (acc++its),<-e,zBt,Pg]
section
variable{X:Cx}{k:List (γ×Obj)}{j:St}{H:Hp}{s:δ}{l:γ}{xs ys:List V}
theorem Q9.lset(I:Q9 X k j H s)(a:H l=some (.l xs))(e:s.heap.get? l=some {cls:=.type "list",data:=.seq its.toArray n})(b:f its.toArray=its'.toArray)(c:Q7 ys its')(d:ys.length<=M7):Q9 X k j (upd H l (.l ys)) {s with heap:=s.heap.update l (Obj.mapSeq f),toks:=t'}:=by have q:=PySem.IsL.update e f;rw[b] at q;refine I.write (by rw[a];exact trivial) (.inl rfl) (λi u g h=>(zBg s.heap (Obj.mapSeq f) (Ne.symm g)).trans h) ⟨_,q⟩ ?_;exact⟨d,its',_,c,q⟩
theorem Q9.lnew(I:Q9 X k j H s)(a:Q7 ys its)(b:ys.length<=M7):Q9 X k j (upd H s.heap.objs.size (.l ys)) {s with heap:=s.heap.push {cls:=.type "list",data:=.seq its.toArray},toks:=t'}:=I.laid (λ_ _ q=>zA2 _ q) (zA3 _) ⟨b,its,0,a,zAx _ rfl⟩
theorem Q9.fresh(I:Q9 X k j H s):H s.heap.objs.size=none:=I.hok.fresh (zA3 _)
theorem Q9.lstM(I:Q9 X k j H s)(a:H l=some (.l xs)):xs.length<=M7/\∃(its:List V')(n:Nat),Q7 xs its/\xs.length=its.length/\s.heap.get? l=some {cls:=.type "list",data:=.seq its.toArray n}:=by obtain⟨z,its,n,r,e⟩:=I.hok l _ a;exact⟨z,its,n,r,r.length,e⟩
theorem qaH0(h:n<=M7):Builtin.List.listTooLong n=false:=by unfold Builtin.List.listTooLong;exact zAz ⋯
end
section
variable{X:Cx}
def qaz0:V->List V->Hp->VK->Prop:=λx vs H Q=>∃l xs y,x=.ref l/\vs=[y]/\H l=some (.l xs)/\xs.length<M7/\Q .non (upd H l (.l (xs++[y])))
theorem qf1:MtM X "list.append" qaz0:=by intro Fm s L H x g v i Q I c d h;obtain⟨l,j,y,rfl,rfl,b,k,q⟩:=h;cases c;obtain⟨u,rfl,f⟩:=d.one;obtain⟨z,a,n,r,m,e⟩:=I.lstM b;refine Nl Qc ⟨_,e,rfl⟩ F.entry_list_append (F.args_list_append_2 _ _) (PySem.list_append l a.toArray n u (by rw[zA5];lia)) ⟨e,?_⟩;refine⟨.non,_,I.lset (its':=a++[u]) b e (by simp) (r.append (.cons f .nil)) ?_,rfl,q⟩;rw[zAb,Oz];lia
def rPop:V->List V->Hp->VK->Prop:=λx vs H Q=>∃l xs y,x=.ref l/\vs=[]/\H l=some (.l xs)/\xs[xs.length-1]?=some y/\Q y (upd H l (.l xs.dropLast))
theorem qbc0:MtM X "list.pop" rPop:=by
 intro Fm s L H x o v p Q I f g h;obtain⟨l,t,y,rfl,rfl,d,i,q⟩:=h;cases f;have b:=g.zero;subst b;obtain⟨z,a,n,r,j,e⟩:=I.lstM d;obtain⟨u,k,m⟩:=r.get i;have c:a.toArray[a.toArray.size-1]?=some u:=by show a.toArray[a.length-1]?=some u;rw[<-Array.getElem?_toList,<-j];exact k
 refine Nl Qp ⟨_,e,rfl⟩ F.entry_list_pop (F.args_list_pop_1 _) (MeetsSeq.list_pop_last l a.toArray n u c (by rw[zA5];lia)) ⟨e,?_⟩;refine⟨y,_,I.lset d e ?_ r.dropLast ?_,m,q⟩;{show a.toArray.eraseIdxIfInBounds (a.toArray.size-1)=a.dropLast.toArray;rw[zA5,List.eraseIdxIfInBounds_toArray,qao1]};rw[List.length_dropLast];lia
def rCat:R2:=λx y H Q=>∃l b xs a,x=.ref l/\y=.ref b/\H l=some (.l xs)/\H b=some (.l a)/\xs.length+a.length<=M7/\∀p,H p=none->Q (.ref p) (upd H p (.l (xs++a)))
theorem qbb5:OpR X (Nn .Add) rCat:=by
 intro Fm s L H x y v u Q I c d h;obtain⟨l,b,m,o,rfl,rfl,f,g,p,q⟩:=h;cases c;cases d;obtain⟨z,a,n,r,t,e⟩:=I.lstM f;obtain⟨w,its2,A,i,j,e2⟩:=I.lstM g;refine PySem.P.add_list e e2 ?_ (by rw[zA5,zA5];lia);have k:a.toArray++its2.toArray=(a++its2).toArray:=by simp
 rw[k];exact⟨.ref _,_,I.lnew (r.append i) (by rw[zAb];lia),rfl,q _ I.fresh⟩
def rRep:R2:=λx y H Q=>∃l k xs,x=.ref l/\y=.int k/\H l=some (.l xs)/\-(2 ^ 63)<=k/\k<2 ^ 63/\xs.length*k.toNat<=M7/\∀p,H p=none->Q (.ref p) (upd H p (.l (N8 k.toNat xs).flatten))
theorem qaS1(xs:List α)(k:Nat):(N8 k xs).flatten.length=k*xs.length:=by induction k with|zero=>simp|succ k a=>rw[zBt,zCa,zAb,a,Nat.succ_mul,Nat.add_comm]
theorem qba7:OpR X (Nn .Mult) rRep:=by
 intro Fm s L H x y v u Q I p w h;obtain⟨l,k,J,rfl,rfl,A,B,C,o,q⟩:=h;cases p;obtain⟨t,rfl⟩:=w;obtain⟨z,b,n,r,D,e⟩:=I.lstM A;have c:b.toArray.size*k.toNat<=M7:=by rw[zA5,<-D];exact o
 have d:¬b.toArray.size*k.toNat>(2 ^ 63-1)/8:=by have:(M7:Nat)<=(2 ^ 63-1)/8:=∅;lia
 have f:¬(!Builtin.List.listFitsIndex k)=true:=by rw[fitsIndex_both B C];exact zAn
 have hlong:¬Builtin.List.listTooLong (b.toArray.size*k.toNat)=true:=by rw[qaH0 c];exact zAn
 have g:On (λi j=>i++j) #[] (N8 (if b.toArray.isEmpty=true then 0 else k.toNat) b.toArray)=(N8 k.toNat b).flatten.toArray:=by
  have E:∀m:Nat,On (λi j=>i++j) #[] (N8 m b.toArray)=(N8 m b).flatten.toArray:=λm=>by have:=qZ3 b m [];rw[zB4] at this;exact this
  rw[E];cases b with|nil=>simp|cons a K=>rw[if_neg (by simp)]
 refine wpAny_binaryOp_repeat_ref (T := "list") (U := "int") ∅ ⟨_,e,rfl⟩ (λG=>typeIs_int G k t) noFill_list_mul F.fills_int_mul Qq repeat_list F.slot_int_index.lookup
  (Nl Qq (typeIs_int s k t) F.entry_int_rmul (F.args_int_rmul_2 _ _) (int___rmul___int_list k t l b.toArray n)
   ⟨e,rfl,⟨_,e,rfl⟩,Nl F.slot_list_mul ⟨_,e,rfl⟩ F.entry_list_mul (F.args_list_mul_2 _ _) (AutoListH.list___mul___list_int_3 l b.toArray n k t f d hlong) ⟨e,?_⟩⟩)
 rw[g];exact⟨.ref _,_,I.lnew (t':=s.toks) (r.rep k.toNat) (by rw[qaS1,Nat.mul_comm];exact o),rfl,q _ I.fresh⟩
end
section
variable{f:Type}[DecidableEq f]
noncomputable def Hb(kvs:List (f×V))(k:f):Option V:=(kvs.find? λa=>decide (a.1=k)).map (·.2)
noncomputable def putK(kvs:List (f×V))(k:f)(v:V):List (f×V):=if (kvs.any λa=>decide (a.1=k))=true then kvs.map (λa=>if a.1=k then (a.1,v) else a) else kvs++[(k,v)]
theorem qQ8{k:f}(e:p.1=k):Hb (p::r) k=some p.2:=by simp[Hb,zBz,e]
theorem qQ9{k:f}(e:¬p.1=k):Hb (p::r) k=Hb r k:=by simp[Hb,zBz,e]
theorem qae5(kvs:List (f×V))(k:f)(v:V):(putK kvs k v).length<=kvs.length+1:=by unfold putK;split;{rw[zAe];lia};rw[zAb,zAm,zCo];lia
theorem RelO.getD(r:RelO o u)(a:Q6 d d'):Q6 (o.getD d) (u.getD d'):=by cases o with|none=>(cases u with|none=>exact a|some _=>exact(show False from r).elim)|some _=>cases u with|none=>exact(show False from r).elim|some _=>exact r
theorem KV.val(r:KV kvs vs)(k:f):RelO (Hb kvs k) (valueAt vs k):=by
 unfold KV at r;induction r with
 |nil=>exact True.intro|@cons p q ps qs h t ih=>
  obtain⟨c,d⟩:=h;by_cases e:p.1=k
  .have a:=c.symm.trans e;have b:valueAt (q::qs) k=some q.2:=by simp[valueAt,zBz,a]
   rw[qQ8 e,b];exact d
  have a:¬q.1=k:=λz=>e (c.trans z);have b:valueAt (q::qs) k=valueAt qs k:=by simp[valueAt,zBz,a]
  rw[qQ9 e,b];exact ih
theorem KV.any(r:KV kvs vs)(k:f):(kvs.any λa=>decide (a.1=k))=vs.any λa=>decide (a.1=k):=by unfold KV at r;induction r with|nil=>rfl|cons h t b=>rw[zCf,zCf,b,h.1]
theorem KV.repl(r:KV kvs vs)(k:f)(c:Q6 y u):KV (kvs.map λa=>if a.1=k then (a.1,y) else a) (vs.map λa=>if a.1=k then (a.1,u) else a):=by unfold KV at r ⊢;induction r with|nil=>exact .nil|@cons p q ps qs h t ih=>rw[zAy,zAy];refine .cons ?_ ih;obtain⟨b,d⟩:=h;by_cases e:p.1=k;{rw[if_pos e,if_pos (b.symm.trans e)];exact⟨b,c⟩};rw[if_neg e,if_neg (λz=>e (b.trans z))];exact⟨b,d⟩
theorem KV.put(r:KV kvs vs)(k:f)(a:Q6 y u):KV (putK kvs k y) (stored vs k u):=by unfold putK stored;rw[r.any k];by_cases e:(vs.any λb=>decide (b.1=k))=true;{rw[if_pos e,if_pos e];exact r.repl k a};rw[if_neg e,if_neg e];exact Paired.snoc r ⟨rfl,a⟩
theorem KV.length{vs:List (f×V')}(r:KV kvs vs):kvs.length=vs.length:=Paired.length r
end
theorem Ly(r:Q6 (kV k) u):(qg0 P w).is k u=true:=by cases k with|inl i=>obtain⟨t,e⟩:=(show ∃t,u=Px i t from r);subst e;exact qae3 P w i t|inr x=>obtain⟨t,e⟩:=(show ∃t,u=Pz x t from r);subst e;exact qae2 P w x t
theorem qY4{P:Nq}{w:Nt}:∀{ks:List Key}{us:List V'},Q7 (ks.map kV) us->ItemsAre (qg0 P w) ks us|[],_,r=>by rw[O7] at r;cases r;exact .nil|k::ks,_,r=>by rw[zAy] at r;cases r with|cons h t=>exact .cons (Ly h) (qY4 t)
abbrev KT(H:Hp):List (List Key×V)->List (List Key×γ×V')->Prop:=Paired λp q=>p.1=q.1/\H q.2.1=some (.q (p.1.map kV))/\Q6 p.2 q.2.2
theorem KT.val(r:KT H kvs xs)(k:List Key):RelO (Hb kvs k) ((atKey xs k).map (·.2)):=by
 induction r with
 |nil=>exact True.intro|@cons p q ps qs h t ih=>
  obtain⟨c,_,d⟩:=h;by_cases e:p.1=k
  .have a:=c.symm.trans e;have b:atKey (q::qs) k=some q.2:=by simp[atKey,zBz,a]
   rw[qQ8 e,b];exact d
  have a:¬q.1=k:=λz=>e (c.trans z);have b:atKey (q::qs) k=atKey qs k:=by simp[atKey,zBz,a]
  rw[qQ9 e,b];exact ih
section
variable{P:Nq}{w:Nt}{H:Hp}{h:Heap}{a:γ}
theorem rd_of(b:HOk P w H h)(e:Rd H a u):ObjOk P w H h a u:=e.ok b
theorem Jb(b:HOk P w H h)(e:Rd H a (.dK kvs)):kvs.length<=M7/\(a==Nh)=false/\∃vs,KV kvs vs/\h.DictOf (qg0 P w) a vs:=show ObjOk P w H h a (.dK kvs) from rd_of b e
theorem qaS8(c:HOk P w H h)(e:H a=some (.q (ks.map kV))):(tupleKind (qg0 P w)).is h ks a:=by obtain⟨_,b,r,o,d,f,n,g⟩:=(show ObjOk P w H h a (.q (ks.map kV)) from c a _ e);exact⟨o,b.toArray,n,d,f,g,by simpa using qY4 r⟩
theorem dt_rd(c:HOk P w H h)(e:Rd H a (.dT kvs)):kvs.length<=M7/\(a==Nh)=false/\∃xs,KT H kvs xs/\h.DictOfH (tupleKind (qg0 P w)) a xs:=by
 obtain⟨z,y,xs,r,o,d,f,g,i,j,k,n⟩:=(show ObjOk P w H h a (.dT kvs) from rd_of c e);refine⟨z,y,xs,r,o,d,f,g,i,j,k,λx b=>?_,n⟩;have all:∀{l:List (List Key×V)}{m:List (List Key×γ×V')},KT H l m->∀x∈m,(tupleKind (qg0 P w)).is h x.1 x.2.1:=by intro l m q;induction q with|nil=>intro x b;exact nomatch b|@cons p q ps qs hq t ih=>intro x b;rcases zAj.mp b with e|b;{subst e;exact qaS8 c (by rw[<-hq.1];exact hq.2.1)};exact ih x b
 exact all r x b
end
def DGet(H:Hp)(a:γ)(y:V)(r:Option V):Prop:=(∃kvs k,Rd H a (.dK kvs)/\y=kV k/\r=Hb kvs k)∨∃kvs k b,Rd H a (.dT kvs)/\y=.ref b/\H b=some (.q (k.map kV))/\r=Hb kvs k
section
variable{X:Cx}{b:List (γ×Obj)}{a:St}{H:Hp}{s:δ}
theorem Q9.big(I:Q9 X b a H s):Nh<s.heap.objs.size:=by exact Nat.lt_trans ∅ ((I.mod.glob.keeps I.bk).lt)
end
section
variable{X:Cx}{g:List (γ×Obj)}{f:St}{H:Hp}{s:δ}{a:γ}{kvs:List (Key×V)}{A:Nr}{E:V'->δ->Prop}
theorem d_len(I:Q9 X g f H s)(e:Rd H a (.dK kvs))(h:∀t s',Q9 X g f H s'->Q (.int kvs.length t) s'):No (Np X.prog X.w) A (call (.builtin "len") [.ref a]) Q E s:=by obtain⟨z,b,d,rel,c⟩:=Jb I.hok e;refine call_len_dict b c (by rw[<-rel.length];rw[Nd] at z;lia) ?_;rw[<-rel.length];exact h _ _ (I.tok _)
end
theorem qaK8{P:Nq}{w:Nt}{H:Hp}(h:Heap)(a:Nh<h.objs.size):ObjOk P w H (h.push {cls:=.type "dict",data:=.dict #[]}) h.objs.size (.dK []):=⟨zBi _,zBl.mpr (Ne.symm (zAk a)),[],.nil,Heap.DictOf.new h⟩
def qaY4:TE:=λ_ H Q=>∀p,H p=none->Q (.ref p) (upd H p (.dK []))
section
variable{X:Cx}{b:Pos}
theorem qaF9:PE X (.Dict [] [] b) qaY4:=λFm s a H Q I h=>
 wpAny_Dict_empty ⟨.ref s.heap.objs.size,_,I.laid (λ_ _ q=>zA2 _ q) (zA3 _) (qaK8 s.heap I.big),rfl,h _ (I.hok.fresh (zA3 _))⟩
end
def qF6(kvs more:List (Key×V)):List (Key×V):=more.foldl (λacc a=>putK acc a.1 a.2) kvs
theorem qx7:∀(more kvs:List (Key×V)),(qF6 kvs more).length<=kvs.length+more.length|[],kvs=>by show kvs.length<=kvs.length+0;lia|p::r,kvs=>by have a:=qx7 r (putK kvs p.1 p.2);have b:=qae5 kvs p.1 p.2;show (qF6 (putK kvs p.1 p.2) r).length<=_;rw[zAm];lia
structure M2(X:Cx)(o:Nu)(m:Str)(apos:Pos)(e f:Nu)(cpos:Pos):Prop where
 base:Nc o m X.env (eval o X.env)=eval o X.env
 few:((backTo cpos (M6 [e,f] X.env)).all (λx=>!x.1)&&(backToKw cpos (Ni [] X.env)).all (λx=>x.1.isSome)
   && decide (([e,f]:List Nu).length+([]:List Keyword).length+(if ([]:List Keyword).isEmpty then 0 else 1)<30))=true
 line:(apos.endLine==cpos.line)=true
 trees:backTo cpos (M6 [e,f] X.env)=[(false,eval e X.env),(false,eval f X.env)]
def IsD(H:Hp)(a:γ):Prop:=(∃kvs,Rd H a (.dK kvs))∨∃kvs,Rd H a (.dT kvs)
theorem qaT4(I:Q9 X Fm k H s)(d:IsD H a):s.TypeIs (.ref a) "dict" /\ (∀b,Pu a=.ref b->∃ob,s.heap.get? b=some ob/\ob.dict=none)/\(a==Nh)=false:=by rcases d with⟨kvs,e⟩|⟨kvs,e⟩;{obtain⟨_,f,i,_,c⟩:=Jb I.hok e;refine⟨c.typeIs,λb q=>?_,f⟩;cases q;obtain⟨ob,_,_,g,h,_⟩:=c;exact⟨ob,g,h.2.1⟩};obtain⟨_,f,j,_,c⟩:=dt_rd I.hok e;refine⟨c.typeIs,λb q=>?_,f⟩;cases q;obtain⟨ob,_,_,g,h,_⟩:=c;exact⟨ob,g,h.2.1⟩
section
variable{X:Cx}{v:List (γ×Obj)}{t:St}{H:Hp}{s:δ}{a:γ}{y d:V}{u r:V'}{o:Option V}{A:Nr}{E:V'->δ->Prop}
theorem qbf0(n:A.units+1<cLine)(I:Q9 X v t H s)(g:DGet H a y o)(i:Q6 y u)(j:Q6 d r)(h:∀m s',Q9 X v t H s'->Q6 (o.getD d) m->Q m s'):No (Np X.prog X.w) A (call (.builtin "dict.get") [.ref a,u,r]) Q E s:=by rcases g with⟨kvs,k,e,ey,l⟩|⟨kvs,k,b,e,ey,eb,l⟩;{subst ey;obtain⟨z,f,q,rel,c⟩:=Jb I.hok e;refine call_meetsIn Qh c.typeIs Qo (Ql _ _ _) (meets_dict_get_default (qg0 X.prog X.w) a (Ly i) f r) ⟨_,c.mapOf,h _ _ (I.tok _) ?_⟩;rw[l];exact(rel.val k).getD j};subst ey;cases (show u=Pu b from i);obtain⟨z,f,p,rel,c⟩:=dt_rd I.hok e;refine call_meetsIn Qh c.typeIs Qo (Ql _ _ _) (meetsH_dict_get_default (tupleKind (qg0 X.prog X.w)) a b f r) ⟨tupleKind_room_in1 n,k,p,qaS8 I.hok eb,c,h _ _ (I.tok _) ?_⟩;rw[l];exact(rel.val k).getD j
end
def qaY5(td ty tx:TE):TE:=λb H Q=>td b H λx H1=>∃a,x=.ref a/\IsD H1 a/\ty b H1 λy H2=>tx b H2 λz H3=>∃o,DGet H3 a y o/\Q (o.getD z) H3
section
variable{X:Cx}{o e f:Nu}{N M:Pos}{S O R:TE}
theorem qaG0(i:X.A.units+1<cLine)(j:PE X o S)(k:PE X e O)(l:PE X f R)(m:M2 X o "get" N e f M):PE X (.Call (.Attribute o "get" N) [e,f] [] M) (qaY5 S O R):=by
 intro Fm s L H Q I h;refine wpAny_Call_method m.base m.few m.line Qm Qh F.type_dict_get (thn (j Fm s L H _ I h) λu n b=>?_);obtain⟨x,H1,I1,p,a,q,d,r⟩:=b;subst q;obtain rfl:u=Pu a:=p;obtain⟨t1,t2,_⟩:=qaT4 I1 d;refine⟨t1,t2,?_⟩;rw[m.trees];refine Calls.callWith_builtin rfl (Calls.evalArgs_plain (Calls.spliced_cons (thn (k Fm n L H1 _ I1 r) λC t ⟨y,H2,I2,v,q2⟩=>
  Calls.spliced_cons (thn (l Fm t L H2 _ I2 q2) λD E ⟨z,H3,I3,w,G,g,B⟩=>Calls.spliced_nil ?_))))
 exact qbf0 i I3 g v w λJ K I4 c=>⟨_,H3,I4,c,B⟩
end
end L2
namespace Att
open PySem PySem.W PySem.Calls PyProof.Rows
theorem qF9:∀(ns:List Int)(vs:List V'),WellAll P h vs (ns.map WData.int)->IntsAre vs ns:=by intro ns;induction ns with|nil=>intro vs w;rw[O7] at w;cases w;exact .nil|cons n ns c=>intro vs w;rw[zAy] at w;cases w with|cons a b=>cases a;exact .cons _ _ (c _ b)
theorem qar7{l:OpenLaw}(m:l.most=some n)(b:l.row.toRowW.claim.pre args=true)(i:WellAll P h vals args):∃a vs ns,vals=[Pu a]/\args=[WData.list (ns.map WData.int)]/\h.get? a=some {cls:=.type "list",data:=.seq vs.toArray}/\IntsAre vs ns/\ns.length<=n:=by
 have j:WShape.hasAll [] args [.list .int]=true:=(pre_splitW b).1;have k:l.pre.holds [] {args:=args}=true:=(pre_splitW b).2;obtain⟨d,r,rfl,o,p⟩:=hasAllW_cons j;obtain rfl:=hasAllW_nil p;obtain⟨x,rfl,s⟩:=hasW_list o;obtain⟨ns,rfl⟩:=items_int s;have c:ns.length<=n:=by
  unfold OpenLaw.pre at k;have f:(WTm.not (.lt (.lit (.int (n:Int))) (.len (.arg 0)))).holds [] {args:=[.list (ns.map .int)]}=true:=by have f:=(holds_andW k).1;rw[m] at f;exact f
  have g:=condW_of f (w_not (w_lt w_lit (w_len_list (w_arg rfl))));rw[zAe] at g;refine zC2 λq=>?_;have t:(n:Int)<((ns.length:Nat):Int):=⋯;first
   |(rw[zAi t] at g;exact absurd g ∅)
   |(simp at g;lia)
 cases i with|cons u v=>cases v;cases u with|list w e=>exact⟨_,_,ns,rfl,rfl,w,qF9 ns _ e,c⟩
theorem qas3(l:OpenLaw)(args:List WData):l.row.toRowW.claim.post args (.bool true) args=true:=postW_of (r:=l.row.toRowW) (X:=(true==true))
 (show WShape.has [] (.bool true) .bool=true by first|rfl|decide|simp[WShape.has,WShape.arms,WShape.armsAll])
 (show (WTm.eq .res (.lit (.bool true))).value [] {args:=args,res:=some (.bool true),after:=args}=some (.bool (true==true)) from w_eq_bool (w_res rfl) w_lit) rfl
theorem qaf0{l:OpenLaw}(u:l.most=some n)(h:d.params.defaults=[])(call:∀(w:Nt)(s₀ s₁:δ)(mg i:Str->Option V')(fa:γ)(o:Obj)(j cd b:V')(a:γ)(vs:List V')(ns:List Int),
 Ground q loose [] XP w s₀ mg i s₁.heap->YP w s₁.heap->s₁.heap.get? fa=some o->o.data=.func (docDef d.name d.params d.body d.scope j cd b)->s₁.heap.CodeRec cd d.name->mg d.name=some (.ref fa)->s₁.heap.get? a=some {cls:=.type "list",data:=.seq vs.toArray}->IntsAre vs ns->ns.length<=n->s₁.gens = #[]->codeAny (Np l.prog w) callerA (.call (.ref fa) ⟨[.ref a],[]⟩) (λr s'=>r=.ok (.ret (.bool true))/\OldK s₁.heap s'.heap/\s'.os=s₁.os/\AllBare s'.gens) s₁):WalkO q loose XP YP l.row.toRowW d [] (λf vs=>PySem.call f vs):=by intro w s₀ s₁ mg i G Y fa o j cd b v kV x y k s m z args vals I c t A p B;obtain rfl:v=.none:=Dflts.none s h;obtain rfl:kV=.none:=Dflts.noKw s;obtain⟨a,vs,ns,rfl,rfl,e,hints,g⟩:=qar7 u c p;refine enter_call (codeAny_mono (call w s₀ s₁ mg i fa o j cd b a vs ns G Y x (fd_plain y) k m e hints g z) λr s' C=>?_);obtain⟨rfl,D,E,F⟩:=C;exact⟨.inl ⟨.bool true,.bool true,[],rfl,λ_=>rfl,.bool true,qas3 l _,λ_=>⟨List.Pairwise.nil,λ_ H=>(nomatch H)⟩⟩,D,E,F⟩
end Att
namespace L2
open PySem PySem.Spec PyProof.Rows
theorem qW6:∀{vs:List V'}{ns:List Int},IntsAre vs ns->Q7 (ns.map V.int) vs|_,_,.nil=>.nil|_,_,.cons n t h=>.cons ⟨t,rfl⟩ (qW6 h)
def Only(H:Hp):Prop:=∀b,H b=none∨∃o xs,H b=some (.frz o (.l xs))
theorem qaI0{K:P'}(KX:K.In s₁.heap)(g:s₁.heap.Ns Nf mg)(c:s₁.heap.Ns builtinsNs C)(D:∀x:Str,x ≠ "__name__" -> C x=Na x)(i:s₁.heap.NoLimit)(T:s₁.gens = #[])(B:s₁.heap.get? a=some {cls:=.type "list",data:=.seq vs.toArray})(hi:IntsAre vs ns)(M:ns.length<=M7)(U:Room k callerA)(F:∀base:Heap,K.In base->base.Ns Nf mg->Fx P w K mg base CX k fa fd [x] sp)(hbind:∀(s:δ)(u:V'),BindsTo s fd ⟨[u],[]⟩ [(x,u)])(E:∀H:Hp,Only H->SqL K H a (ns.map V.int)->sp [.ref a] H (λv _=>v=.bl true) λ_ _ _=>False)(G:∀H e s',CX [] H s₁ (λ_ _ _=>False) e s'->False):codeAny (Np P w) callerA (.call (.ref fa) ⟨[.ref a],[]⟩) (λr s'=>r=.ok (.ret (.bool true))/\OldK s₁.heap s'.heap/\s'.os=s₁.os/\AllBare s'.gens) s₁:=by
 have N:=qW6 hi;have lenV:=hi.length;have core:∀H:Hp,Only H->SqL K H a (ns.map V.int)->HOk P w H s₁.heap->(∀b,H b≠none->b=a)->(H a≠none->K.lookup a=none)->codeAny (Np P w) callerA (.call (.ref fa) ⟨[.ref a],[]⟩) (λr s'=>r=.ok (.ret (.bool true))/\OldK s₁.heap s'.heap/\s'.os=s₁.os/\AllBare s'.gens) s₁:=by
  intro H O X j Q Y;have base_of:∀{b:γ}{o:Obj},s₁.heap.get? b=some o->H b=none->(Ir s₁.heap H).get? b=some o:=λe n=>qaJ0 e n;have I:∀{b:γ}{o:Obj}{l:Array DictEntry}{p:Nat},s₁.heap.get? b=some o->o.data=.dict l p->H b=none:=λ{b o l p} e d=>by cases q:H b with|none=>rfl|some u=>have J:b=a:=Q b (by rw[q];simp);subst J;rw[B] at e;cases e;have Z:Data.seq vs.toArray _=Data.dict l p:=d;cases Z
  have f:∀{b:γ}{m:Str->Option V'},s₁.heap.Ns b m->(Ir s₁.heap H).Ns b m:=λ{b m} ⟨o,l,p,e,d,r⟩=>⟨o,l,p,base_of e (I e d),d,r⟩;have t:K.In (Ir s₁.heap H):=λb o e=>base_of (KX b o e) (by cases q:H b with|none=>rfl|some u=>have J:b=a:=Q b (by rw[q];simp);subst J;rw[Y (by rw[q];simp)] at e;cases e);have hM:Mod K mg (Ir s₁.heap H):=⟨t,f g,⟨C,f c,D⟩,let ⟨mc,h1,h2⟩:=i;⟨mc,f h1,h2⟩⟩;have e0:Env0 P w K mg (Ir s₁.heap H) callerA [] s₁ H:=⟨rfl,hM,λb o e=>qaR1 e,zCd (qau6 _ _),trivial,λb c=>absurd (show b∈([]:List γ) from c) (by simp),j,.of_eq T⟩;refine codeAny_mono ((F _ t (f g)).run callerA [] s₁ H ⟨[.ref a],[]⟩ [.ref a] [.ref a] _ _ U e0 (hbind s₁ (.ref a)) (.cons rfl .nil) (E H O X)) λr s' h=>?_;cases r with|error e=>exact(G H e s' h).elim|ok fl=>cases fl with|next=>exact Qv h|brk=>exact Qv h|cont=>exact Qv h|ret u=>obtain⟨v,H',os,bare,R,y,r',q⟩:=h;have q':v=.bl true:=q;subst q';obtain rfl:u=P0 true:=r';refine⟨rfl,OldK.of_keep λb o e=>?_,os,bare⟩;cases q:H b with|none=>exact R.keep b o e q (by intro z;exact absurd (show b∈([]:List γ) from z) (by simp)) (by simp)|some u=>rcases O b with z|⟨ob,xs,z⟩;{rw[q] at z;cases z};have z2:=R.frzs b ob _ z;obtain⟨S,_⟩:=j b _ z;obtain⟨e2,_⟩:=y b _ z2;rw[e] at S;cases S;exact e2
 cases L:K.lookup a with|some o=>have e:=KX a o L;rw[B] at e;cases e;refine core (λ_=>none) (λ_=>.inl rfl) (.inr ⟨_,vs.toArray,_,L,rfl,rfl,rfl,by rw[zA5,lenV];exact M,by simpa using N⟩) (λb u z=>by have A:(none:Option HO)=some u:=z;cases A) (λb z=>absurd rfl z) λz=>absurd rfl z|none=>refine core (λb=>if b=a then some (.frz {cls:=.type "list",data:=.seq vs.toArray} (.l (ns.map V.int))) else none) (λb=>?_) (.inl (.inr ⟨{cls:=.type "list",data:=.seq vs.toArray},if_pos rfl⟩)) (λb u z=>?_) (λb z=>?_) λ_=>L;{by_cases c:b=a;{exact .inr ⟨_,_,if_pos c⟩};exact .inl (if_neg c)};{by_cases c:b=a;{have A:=(if_pos c).symm.trans z;cases A;subst c;exact⟨B,by rw[zAe];exact M,vs,_,N,B⟩};have A:=(if_neg c).symm.trans z;cases A};by_cases c:b=a;{exact c};exact absurd (if_neg c) z
theorem qaL9{l:W.OpenLaw}{K:Params->P'}{CX:Nt->CXT}{sp:Nt->Sp}(y:l.most=some n)(j:n<=M7)(m:d.params.defaults=[])(z:Room k callerA)(A:∀(w:Nt)(h:Heap),YP w h->(K w.params).In h)(F:∀(w:Nt)(mg:Str->Option V')(fa:γ)(h:Heap),(K w.params).In h->h.Ns Nf mg->mg d.name=some (.ref fa)->∃fd:ε,(∀(s:δ)(u:V'),BindsTo s fd ⟨[u],[]⟩ [(x,u)])/\∀base:Heap,(K w.params).In base->base.Ns Nf mg->Fx l.prog w (K w.params) mg base (CX w) k fa fd [x] (sp w))(p:∀(w:Nt)(H:Hp)(a:γ)(ns:List Int),ns.length<=n->Only H->SqL (K w.params) H a (ns.map V.int)->sp w [.ref a] H (λv _=>v=.bl true) λ_ _ _=>False)(r:∀(w:Nt)(H:Hp)(s:δ)(e:V')(s':δ),CX w [] H s (λ_ _ _=>False) e s'->False):W.WalkO q loose XP YP l.row.toRowW d [] (λf vs=>PySem.call f vs):=by refine Att.qaf0 y m λw s₀ s₁ mg M fa o N O B a vs ns G Y P Q C t i hints c D=>?_;have KX:=A w _ Y;obtain⟨fd,E,I⟩:=F w mg fa _ KX G.T.g t;exact qaI0 KX G.T.g G.T.b G.T.builtins G.T.nolimit D i hints (zAg c j) z I E (λH J L=>p w H a ns c J L) λH e s'=>r w H s₁ e s'
end L2
/- THE LAST THEOREM (shape;LID,My.* are yours):My.Adr: a structure of the addresses that your layer names (classes,functions);My.Txt K t: a structure (Prop) of the equations over K;
 My.txt_mk:{K} {implicit addresses ..} (e1:nsIn K Nf "law"=some (some (.ref f))) (e2:K.lookup f=some ⟨oc,od,.func (fnOf "law" "law" params body scope dV kV doc pm an cdv ct),sl⟩) (e3:codeIn K cdv "law"=true) .. : ∃t,My.Txt K t
(the tactic k_is has no namespace: write k_is) -/
namespace L2
open PySem PySem.Spec PyProof.Rows
variable{A B:Prop}{f:γ}{qual x:Str}{st:Nv}
noncomputable def qg1(s:Nv)(j:Nat):Nv:=match s with|.ClassDef _ _ _ body _ _ _ _ _ _ _=>body.getD j (.Pass ⟨0,0,0,0⟩)|_=>.Pass ⟨0,0,0,0⟩
noncomputable def qg2(s:Nv):Arguments:=match s with|.FunctionDef _ a _ _ _ _ _ _ _ _=>a|_=>{posonlyargs:=[],args:=[],vararg:=none,kwonlyargs:=[],kw_defaults:=[],kwarg:=none,defaults:=[]}
noncomputable def qd9(s:Nv):List Nv:=match s with|.FunctionDef _ _ b _ _ _ _ _ _ _=>b|_=>[]
noncomputable def qa4(s:Nv):Scope:=match s with|.FunctionDef _ _ _ _ _ _ sc _ _ _=>sc|_=>{kind:=.function,names:=[],isGenerator:=false,isCoroutine:=false}
abbrev CX0:CXT:=λ_ _ _ _ _ _=>False
abbrev E0:XK:=λ_ _ _=>False
theorem pass0:qQ4 CX0 X (λ_=>E0):=λ_ _ _ _ _ _ _ h=>h.elim
structure Fun(K:P')(x qual:Str)(st:Nv)(f:γ)(fd:ε):Prop where
 ex:∃(oc:V')(od:Option γ)(kV doc pm:V')(an:Option γ)(cdv ct:V')(osl:Array (Option V')),
  fd=W.fnOf x qual (qg2 st) (qd9 st) (qa4 st) .none kV doc pm an cdv ct/\K.lookup f=some ⟨oc,od,.func fd,osl⟩/\W.codeIn K cdv qual=true
 kp:W.keepIn K (.ref f)=true
section
variable{P:Nq}{w:Nt}{K:P'}{r:Str->Option V'}{p:Heap}
theorem Fun.ok(F:Fun K x qual st f fd)(S:qa9 N ps (qa4 st))(len:∀vs H Q E,sp vs H Q E->vs.length=ps.length)(hbody:∀(a:V')(A:Nr)(outer:List Env)(s:δ)(H:Hp)(vs:List V)(Q:VK)(E:XK),Room k (A.deeper (envOfC qual (qa4 st) s.heap.objs.size f a))->sp vs H Q E->∃t,PSs (Gz true CX0 P w K r p N qual (qa4 st) f a A outer s H E).nox (qd9 st) t/\t {nx:=λ_ H'=>Q .non H',rt:=Q} (start N vs) H):Fx P w K r p CX0 (k+1) f fd ps sp:=by obtain⟨j,l,kV,d,m,n,a,o,e,rfl,g,b⟩:=F.ex;refine Lx g b S len λA outer s H vs Q E i c=>?_;obtain⟨t,h,q⟩:=hbody a A outer s H vs Q E i c;exact⟨t,h.nox,q⟩
theorem Fun.binds(F:Fun K x qual st f fd)(h:∀(kV a c:V')(d:Option γ)(b e:V')(us:List V'),us.length=ps.length->bindArgs (W.fnOf x qual (qg2 st) (qd9 st) (qa4 st) .none kV a c d b e) ⟨us,[]⟩=pure (ps.zip us)):Binds K fd ps []:=by obtain⟨j,k,kV,a,c,d,b,e,g,rfl,l,i⟩:=F.ex;exact .all (h kV a c d b e)
theorem qau7{kV:V'}(l:K.lookup f=some ⟨oc,od,.func (W.fnOf x qual (qg2 st) (qd9 st) (qa4 st) .none kV b g e a h),d⟩)(c:W.codeIn K a qual=true)(k:W.keepIn K (.ref f)=true):Fun K x qual st f (W.fnOf x qual (qg2 st) (qd9 st) (qa4 st) .none kV b g e a h):=⟨⟨oc,od,kV,b,g,e,a,h,d,rfl,l,c⟩,k⟩
end
theorem hu_of{A:Nr}(a:Room k A):A.units+1<cLine:=zC3 (Nat.add_le_add_left (by decide:1<=64) _) a.units
theorem qar6(h:n<=1000):n<M7:=zC3 h ∅
section
variable{X:Cx}
theorem pv(i:Nat)(b:X.N[i]?=some x:=by rfl)(c:Vis X.env.scope x:=by first|exact Qx rfl|exact Qw (Qx rfl)|exact Qw (Qw rfl))(d:N' x:=by decide)(a:(x==("__classdict__" : Str))=false:=by decide):PE X (.Name x pos) (Hs i):=qo9 b c d a
theorem qax1:CallR X (.builtin "len") (λxs H Q=>∃a kvs,xs=[V.ref a]/\H a=some (.dK kvs)/\Q (.int kvs.length) H):=by intro Fm s f H xs d Q I r h;obtain⟨a,kvs,rfl,b,q⟩:=h;obtain⟨u,rfl,c⟩:=B9 r;cases c;exact d_len I (.inl b) λt e I'=>⟨.int kvs.length,H,I',⟨t,rfl⟩,q⟩
end
theorem iteF(h:B):if false=true then A else B:=by rw[if_neg zAn];exact h
theorem iteT(h:A):if true=true then A else B:=by rw[if_pos rfl];exact h
theorem ite2{c:Prop}[Decidable c](h1:c->A)(h2:¬c->B):if c then A else B:=by by_cases h:c;{rw[if_pos h];exact h1 h};rw[if_neg h];exact h2 h
def Same(H H':Hp):Prop:=∀b o,H b=some o->H' b=some o
theorem Same.trans(a:Same H H1)(b:Same H1 H2):Same H H2:=λc o h=>b c o (a c o h)
end L2
set_option maxHeartbeats 4000000
namespace L2
open PySem PySem.Spec PyProof.Rows
variable{H:Hp}{a:γ}{e:Nu}{es:List Nu}{i:Int}{p:Pos}{t:TA}{x:Str}{xs:List V}{α:Type}
theorem Kx{t:Sem α}(h:No M A t Q (λ_ _=>False) s)(b:∀a s,Q a s->Q' a s):No M A t Q' E s:=Nj h b λ_ _ x=>x.elim
noncomputable def Hc(env:Env):List (Str×NameKind)->List (Str×γ)->List (Str×γ)|[],acc=>acc|(n,k)::r,acc=>Hc env r (if k==Qt then (n,(env.cells.lookup n).getD 0)::acc else acc)
theorem qE0{env:Env}:∀(l:List (Str×NameKind))(acc:List (Str×γ)),(∀x∈l,x.2=Qt->∃c,env.cells.lookup x.1=some c)->(forIn l acc λ(x:Str×NameKind)(r:List (Str×γ))=>
     (match x with
     |(name,kind)=>if (kind==Qt)=true then (do let c<-cellOf env name;pure (ForInStep.yield ((name,c)::r)):Sem (ForInStep (List (Str×γ)))) else pure (ForInStep.yield r)))=(pure (Hc env l acc):Sem _)
 |[],acc,_=>rfl
 |(n,k)::r,acc,h=>by
   rw[List.forIn_cons];by_cases a:(k==Qt)=true
   . obtain⟨c,b⟩:=h (n,k) zA7 (by simpa using a)
     have b:=b;dsimp only;rw[if_pos a];have e:cellOf env n=pure c:=by unfold cellOf;rw[b]
     rw[e];show (forIn r ((n,c)::acc) _:Sem _)=_;rw[qE0 r ((n,c)::acc) λx d=>h x (zA6 _ d)];show _=(pure (Hc env r (if (k==Qt)=true then (n,(env.cells.lookup n).getD 0)::acc else acc)):Sem _)
     rw[if_pos a,b];rfl
   dsimp only;rw[if_neg a];show (forIn r acc _:Sem _)=_;rw[qE0 r acc λx d=>h x (zA6 _ d)];show _=(pure (Hc env r (if (k==Qt)=true then (n,(env.cells.lookup n).getD 0)::acc else acc)):Sem _)
   rw[if_neg a]
theorem qQ0(h:∀x∈sc.names,x.2=Qt->∃c,env.cells.lookup x.1=some c):closureFor sc env=pure (Hc env sc.names []):=by unfold closureFor;show (forIn sc.names [] _ >>= _)=_;have:=qE0 sc.names [] h;rw[show (forIn sc.names ([]:List (Str×γ)) _:Sem _)=pure (Hc env sc.names []) from this];rfl
theorem qao5{env:Env}:∀(l:List (Str×NameKind))(acc:List (Str×γ))(x:Str)(c:γ),(x,c)∈Hc env l acc->(x,c)∈acc∨((x,Qt)∈l/\c=(env.cells.lookup x).getD 0)|[],acc,x,c,h=>.inl h|(n,k)::r,acc,x,c,h=>by rcases qao5 r _ x c h with h|⟨h,e⟩;{by_cases a:(k==Qt)=true;{rw[if_pos a] at h;rcases zAj.mp h with h|h;{cases h;exact .inr ⟨by rw[show k=Qt by simpa using a];exact zA7,rfl⟩};exact .inl h};rw[if_neg a] at h;exact .inl h};exact .inr ⟨zA6 _ h,e⟩
theorem qao6{env:Env}:∀(l:List (Str×NameKind))(acc:List (Str×γ))(x:Str),(∃c,(x,c)∈acc)->∃c,(x,c)∈Hc env l acc|[],acc,x,h=>h|(n,k)::r,acc,x,⟨c,h⟩=>qao6 r _ x ⟨c,by split;exact zA6 _ h;exact h⟩
theorem qW1{env:Env}:∀(l:List (Str×NameKind))(acc:List (Str×γ))(x:Str),(x,Qt)∈l->∃c,(x,c)∈Hc env l acc|[],acc,x,h=>by simp at h|(n,k)::r,acc,x,h=>by rcases zAj.mp h with h|h;{cases h;exact qao6 r _ _ ⟨_,by rw[if_pos (by rfl)];exact zA7⟩};exact qW1 r _ x h
theorem qD2{α:Type}:∀{l:List (Str×α)}{x:Str},(∃c,(x,c)∈l)->∃c,l.lookup x=some c|[],x,⟨c,h⟩=>by simp at h|(n,a)::r,x,⟨c,h⟩=>by cases b:x==n with|true=>exact⟨a,by simp only[zAv,b]⟩|false=>rcases zAj.mp h with h|h;{cases h;simp at b};obtain⟨d,e⟩:=qD2 ⟨c,h⟩;exact⟨d,by simp only[zAv,b];exact e⟩
noncomputable def Fy(a:St)(src:List (Option Nat)):St:=src.map λo=>match o with|none=>none|some j=>(a[j]?).getD none
noncomputable def qy6(X:Cx)(NY:List Str)(src:List (Option Nat))(sc:Scope):Bool:=(sc.kind==.function)&&(src.length==NY.length) &&
 (sc.names.all λx=>x.2 != .cell&&(x.2 != .local||sc.names.lookup x.1==some .local)&&(x.2 != .free||(X.env.scope.names.lookup x.1==some .cell||X.env.scope.names.lookup x.1==some .free))) &&
 ((NY.zip src).all λp=>match p.2 with|none=>true|some j=>X.N[j]?==some p.1&&sc.names.lookup p.1==some .free)
def qk7(X:Cx)(NY:List Str)(sc:Scope)(C:γ)(a:δ)(H0:Hp)(ex:List γ):Cx where
 prog:=X.prog
 w:=X.w
 K:=X.K
 mg:=X.mg
 base:=X.base
 A:=X.A
 N:=NY
 s₀:=a
 H₀:=H0
 env:=compEnvC sc (Hc X.env sc.names []) C X.env
 outer:=X.stack
 stack:=X.stack
 ex:=ex
 fn:=λ_=>false
 calm:=X.calm
 pn:=[]
 xe:=λ_ _=>False
def PFs(X:Cx)(ifs:List Nu)(t:TT):Prop:=∀(Fm:List (γ×Obj))(s:δ)(b:St)(H:Hp)(Q:Bool->Hp->Prop),Q9 X Fm b H s->t b H Q->No (Np X.prog X.w) X.A (forIn ifs true λc r=>if r=true then do let a<-isTrue c X.env (eval c X.env);pure (ForInStep.yield a) else pure (ForInStep.yield r)) (TP X Fm b Q) X.xe s
def tYes:TT:=λ_ H Q=>Q true H
theorem qaP2:PFs X [] tYes:=λ_ _ _ H _ I h=>wpAny_tests_nil ⟨H,I,h⟩
theorem qba1{t:TT}(h:PT X c t):PFs X [c] t:=λFm s a H Q I q=>wpAny_tests_one (h Fm s a H Q I q)
theorem qs3(I:Nat->δ->Prop)(turn:∀n s,I n s->No (Np prog w) A (pyNext it) (λr s₁=>match r with
     |none=>R (.ok .next) s₁
     |some v=>No (Np prog w) A (letOwnedTupleGo target it v) (λ_ s₁'=>No (Np prog w) A (assign target env v) (λ_ s₂=>
         No (Np prog w) A (forIn ifs true λc r=>if r=true then do let a<-isTrue c env (eval c env);pure (ForInStep.yield a) else pure (ForInStep.yield r)) (λa s₃=>
           if a=true then No (Np prog w) A (eval elt env) (λx s₄=>
             No (Np prog w) A (call (.builtin "list.append") [acc,x]) (λ_ s₅=>∃m,m<n/\I m s₅) (λ_ _=>False) s₄) (λ_ _=>False) s₃
           else ∃m,m<n/\I m s₃) (λ_ _=>False) s₂) (λ_ _=>False) s₁') (λ_ _=>False) s₁) (λ_ _=>False) s)(n:Nat)(h:I n s):codeAny (Np prog w) A (.compLoop (.ListComp elt [⟨target,iter,ifs,0⟩] scope pos) 0 it acc env) R s:=by
 refine codeAny_loop rfl I (λn s b=>?_) n h;show No _ A ((compTurn (.ListComp elt [⟨target,iter,ifs,0⟩] scope pos) 0 it acc env).onRaise (λx=>do noteFrame x env;theTreesLotGoes x)) _ _ s;refine wpAny_noted ?_;rw[compTurn_list];refine G' (wpAny_standAt (G' (Kx (turn n s b) λr s₁ h₁=>?_)));cases r with
 |none=>exact J' h₁
 |some v=>
   refine G' (Kx h₁ λ_ s₁' h₁'=>?_);refine G' (Kx h₁' λ_ s₂ h₂=>G' (Kx h₂ λa s₃ h₃=>?_));cases a with
   |false=>exact J' ⟨rfl,h₃⟩
   |true=>
     exact G' (G' (Kx h₃ λx s₄ h₄=>G' (Kx h₄ λ_ s₅ h₅=>J' (J' ⟨rfl,h₅⟩))))
def qz5(J:It)(g:TG)(tf:TT)(te:TE)(D:γ)(R:Hp->Prop)(σ0:St)(H0:Hp):Prop:=∃W:Nat->Nat->St->Hp->Prop,(∃m,W 0 m σ0 H0)/\∀i m c H,W i m c H->(J.stop i H/\R H)∨(J.go i H/\∃N:St->Hp->Prop,(∀c' H',N c' H'->∃a,a<m/\W (i+1) a c' H')/\∀x H',J.yld i H x H'->g x c H' λσ2 H2=>tf σ2 H2 λb H3=>
     if b=true then te σ2 H3 λv H4=>∃xs,H4 D=some (.l xs)/\xs.length<M7/\N σ2 (upd H4 D (.l (xs++[v]))) else N σ2 H3)
theorem qt5{env:Env}{x:Str}:∀{names:List (Str×NameKind)},(∀y∈names,y.2≠.cell)->((names.map λ(n,k)=>if (k==Qt&&env.scope.kind==.function&&env.kindOf n==some .cell) then (n,Qu) else (n,k)).lookup x=some .cell∨(names.map λ(n,k)=>if (k==Qt&&env.scope.kind==.function&&env.kindOf n==some .cell) then (n,Qu) else (n,k)).lookup x=some .free)->names.lookup x=some .free
 |[],_,h=>by simp at h|(n,k)::r,hc,h=>by
  have c:=@qt5 env x r λy d=>hc y (zA6 _ d);simp only[zAy] at h;cases b:x==n with
  |true=>
   simp only[zAv,b];by_cases a:(k==Qt&&env.scope.kind==.function&&env.kindOf n==some .cell)=true
   .have:k=Qt:=by simp only[zBb,zBm] at a;exact a.1.1
    rw[this]
   rw[if_neg a] at h;simp only[zAv,b] at h;rcases h with h|h;{exact absurd (P8 h) (hc (n,k) zA7)};exact h
  |false=>simp only[zAv,b];apply c;by_cases a:(k==Qt&&env.scope.kind==.function&&env.kindOf n==some .cell)=true;{rw[if_pos a] at h;simpa only[zAv,b] using h};rw[if_neg a] at h;simpa only[zAv,b] using h
theorem qj1{env:Env}{x:Str}:∀{names:List (Str×NameKind)},names.lookup x=some .free->((names.map λ(n,k)=>if (k==Qt&&env.scope.kind==.function&&env.kindOf n==some .cell) then (n,Qu) else (n,k)).lookup x=some .cell∨(names.map λ(n,k)=>if (k==Qt&&env.scope.kind==.function&&env.kindOf n==some .cell) then (n,Qu) else (n,k)).lookup x=some .free)|[],h=>by simp at h|(n,k)::r,h=>by have c:=@qj1 env x r;simp only[zAy];cases a:x==n with|true=>simp only[zAv,a] at h;have h:=P8 h;by_cases b:(k==Qt&&env.scope.kind==.function&&env.kindOf n==some .cell)=true;{rw[if_pos b];simp only[zAv,a];exact .inl trivial};rw[if_neg b];simp only[zAv,a];rw[h];exact .inr rfl|false=>simp only[zAv,a] at h;by_cases b:(k==Qt&&env.scope.kind==.function&&env.kindOf n==some .cell)=true;{rw[if_pos b];simp only[zAv,a];exact c h};rw[if_neg b];simp only[zAv,a];exact c h
section
variable{X:Cx}{Fm:List (γ×Obj)}{σ:St}{H2:Hp}{s2:δ}{elt tg iter:Nu}{ifs:List Nu}{sc:Scope}{pos:Pos}{NY:List Str}{src:List (Option Nat)}{J:It}{fp:List γ}{it:γ}{tn:Nat->Heap->Prop}{g:TG}{tf:TT}{te:TE}
theorem qaa5{R:γ->Hp->Prop}{RR:V'->γ->Result->δ->Prop}(ck:qy6 X NY src sc=true)(hc:X.calm=true)(I2:Q9 X Fm σ H2 s2)(T:Lq X.prog X.w X.K tg J fp it tn)(I:tn 0 s2.heap)(f2:∀b∈fp,Iu X Fm H2 b)(hg:∀C P H0,PG (qk7 X NY sc C P H0 fp) tg g)(hf:∀C P H0,PFs (qk7 X NY sc C P H0 fp) ifs tf)(he:∀C P H0,PE (qk7 X NY sc C P H0 fp) elt te)(rd:∀D,H2 D=none->qz5 J g tf te D (R D) (Fy σ src) (upd H2 D (.l [])))(fin:∀D C H' s',Q9 X Fm σ H' s'->R D H'->H' C=none->X.s₀.heap.objs.size<=C->C≠X.env.locals->(∀x c,X.env.cells.lookup x=some c->c≠C)->(∀p∈X.pn++Fm,p.1≠C)->C∉X.fs->(∃m,s'.heap.Ns C m)->RR (.ref D) C (.ok .next) s'):No (Np X.prog X.w) X.A (newList []) (λacc s₃=>No (Np X.prog X.w) X.A (newFunctionEnv sc X.env.globals (Hc X.env sc.names []) [] X.env.qual none .none (some X.env)) (λcenv s₄=>
 codeAny (Np X.prog X.w) X.A (.compStart (.ListComp elt [⟨tg,iter,ifs,0⟩] sc pos) 0 (.ref it) acc {cenv with scope:=relabel sc X.env}) (RR acc cenv.locals) s₄) E s₃) E s2:=by
 unfold qy6 at ck;simp only[zBb,zBm,zBe] at ck;obtain⟨⟨⟨hkind,G⟩,Q⟩,S⟩:=ck;have hcell:∀y∈sc.names,y.2≠.cell:=λy U e=>by have:=(Q y U).1.1;rw[e] at this;exact absurd this ∅
 have hfree:∀y∈sc.names,y.2=.free->(X.env.kindOf y.1=some .cell∨X.env.kindOf y.1=some .free):=λy U e=>by have:=(Q y U).2;rw[e] at this;show X.env.scope.names.lookup y.1=some .cell∨X.env.scope.names.lookup y.1=some .free;simpa using this
 have clsub:∀x c,(Hc X.env sc.names []).lookup x=some c->X.env.cells.lookup x=some c:=λx c e=>by rcases qao5 _ _ x c (PySem.mem_of_lookup e) with h|⟨h,q⟩;{simp at h};obtain⟨d,M⟩:=I2.ok.has x (hfree _ h rfl);rw[M] at q;rw[M,q];rfl
 refine wpAny_newObj_type (wpAny_newFunctionEnv hcell (by intro y U;simp at U) (λh₁ hns₁ hsb₁=>?_) hkind);dsimp only at hns₁ hsb₁ ⊢;have I3:=I2.lnew (ys:=[]) (its:=[]) (t':=s2.toks) .nil (zBi _);have hD:H2 s2.heap.objs.size=none:=I2.fresh;generalize t:s2.heap.objs.size=D at hns₁ hsb₁ I3 hD ⊢;generalize V:s2.heap.push {cls:=.type "list",dict:=none,data:=.seq ([]:List V').toArray}=h3 at hns₁ hsb₁ I3 ⊢;have Z:h3.objs.size=D+1:=by rw[<-V,Heap.size_push,t]
 generalize s:h3.objs.size=C at hns₁ hsb₁ Z ⊢;have I3:Q9 X Fm σ (upd H2 D (.l [])) {s2 with heap:=h3,toks:=s2.toks}:=I3;have B:∀b o,h3.get? b=some o->h₁.get? b=some o:=λb o e=>hsb₁.extBut b o (by rw[<-s];exact zAk (zA9 e)) (zA2 _ e);have a0:∀b o,h3.get? b=some o->b≠C:=λb o e=>by rw[<-s];exact zAk (zA9 e)
 have a1:X.env.locals≠C:=by rw[<-s];exact zAk I3.lt
 have b0:∀x c,X.env.cells.lookup x=some c->c≠C:=λx c e=>by obtain⟨v,o,F,_⟩:=I3.cell x c e;exact a0 c o F
 have a2:∀b∈fp,b≠C:=λb f=>by obtain⟨o,F,_⟩:=T.obj _ _ I b f;have:=zA9 F;rw[t] at this;exact zAk (Nat.lt_trans this (by rw[Z];exact Nat.lt_succ_self _))
 have b1:∀b∈fp,b≠D:=λb f=>by obtain⟨o,F,_⟩:=T.obj _ _ I b f;have:=zA9 F;rw[t] at this;exact zAk this
 have a3:∀b o,s2.heap.get? b=some o->h3.get? b=some o:=λb o e=>by rw[<-V];exact zA2 _ e
 have pinC:∀p∈X.pn++Fm,p.1≠C:=λp hp=>a0 _ _ (I3.pin p hp).1;have a4:C∉X.fs:=by rw[<-s];exact I3.nofs (zA3 _)
 have b2:X.s₀.heap.objs.size<=C:=by rw[<-s];exact I3.sz
 have stkC:∀b∈frs X.stack,b≠C:=λb f e=>by rcases zAj.mp (I3.stkSub b f) with z|z;{exact a1 (z.symm.trans e)};exact a4 (e ▸ z)
 have HC:upd H2 D (.l []) C=none:=I3.hok.fresh (by show h3.objs.size<=C;exact zCd s);have a5:∀b∈fp,b∉frs X.stack:=λb f z=>by obtain⟨_,h1,h2,_⟩:=f2 b f;rcases zAj.mp (I2.stkSub b z) with q|q;{exact h1 q};exact h2 q
 let Y:Cx:=qk7 X NY sc C {s2 with heap:=h3} (upd H2 D (.l [])) fp;have a6:(Fy σ src).length=NY.length:=by unfold Fy;rw[zAe];exact G
 have IY:Q9 Y [] (Fy σ src) (upd H2 D (.l [])) {s2 with heap:=h₁,toks:=s2.toks+0}:=by
  refine⟨⟨I2.ok.mod,hkind,I2.ok.glob,I2.ok.blt,(by show h3.objs.size<=C;exact zCd s),λx y c h1 h2=>I2.ok.inj x y c (clsub x c h1) (clsub y c h2),λx hx=>?_,λ_ _ z _=>(zAn z).elim,I2.ok.hd,I2.ok.frames,.inl rfl,λb f=>⟨a2 b f,λx c e=>(f2 b f).2.2.2.2.1 x c (clsub x c e)⟩,
   λb o e=>?_,?_,λb o e f=>?_,λb f=>a5 b f,?_,λb f=>?_⟩,rfl,I2.bare,Un.kept B,⟨_,hns₁,λi x v e1 e2 e3=>?_⟩,λx c e=>?_,HC,λx c e=>I3.freeC x c (clsub x c e),λp hp=>absurd (show p∈([]:List (γ×Obj)) from hp) (by simp),I3.hok.kept B,a6⟩
  {have hx:=qt5 hcell hx;exact qD2 (qW1 _ _ _ (PySem.mem_of_lookup hx))};{exact I3.bs b o e};{exact zAg I2.ok.bsz (zAg (zAg I2.sz (by rw[t];exact zA3 _)) (by show D<=h3.objs.size;lia))};{rcases (f2 b f).2.2.2.1 with z|z;{exact I2.ok.noex b o e z};exact absurd (zAc (zA9 (I2.ok.bs b o e).1) z) (zC5 _)};{exact I3.stack};{exact I3.stkFree b f}
  .have hi:i<src.length:=by have:=(zA4.mp e2).1;rw[a6,<-G] at this;exact this
   have e1:NY[i]?=some x:=e1;have es:src[i]?=some src[i]:=by simp[hi]
   have ep:(Fy σ src)[i]?=some (match src[i] with|none=>none|some j=>(σ[j]?).getD none):=by unfold Fy;rw[zB9,es];rfl
   rw[ep] at e2;cases hj:src[i] with
   |none=>rw[hj] at e2;cases e2|some j=>
    rw[hj] at e2;have e2:(σ[j]?).getD none=some v:=P8 e2;have ej:σ[j]?=some (some v):=by cases q:σ[j]? with|none=>rw[q] at e2;cases e2|some o=>rw[q] at e2;rw[show o=some v from e2]
    have hm:(x,some j)∈NY.zip src:=by
     have:(NY.zip src)[i]?=some (x,some j):=by rw[List.getElem?_zip_eq_some];exact⟨e1,by rw[es,hj]⟩
     exact zB2 this
    have q:=S _ hm;simp only[zBb,zBm] at q;obtain⟨qN,qf⟩:=q;have H:=hfree _ (PySem.mem_of_lookup qf) rfl;obtain⟨m,hn,hl⟩:=I3.loc;obtain⟨u,r,l⟩:=hl j x v qN ej (H.elim (λz=>.inr (.inl z)) λz=>.inr (.inr z));refine⟨u,r,.inr ⟨qj1 qf,?_⟩⟩;rcases l with⟨z,_⟩|⟨_,c,ec,o,F,M⟩;{have H:X.env.kindOf x=some .cell∨X.env.kindOf x=some .free:=H;rw[z] at H;rcases H with H|H<;>cases H};obtain⟨c',a7⟩:=qD2 (qW1 (env:=X.env) sc.names [] x (PySem.mem_of_lookup qf));have:=clsub x c' a7;rw[ec] at this;cases this;exact⟨c,a7,o,B c o F,M⟩
  obtain⟨v,o,F,M⟩:=I3.cell x c (clsub x c e);exact⟨v,o,B c o F,M⟩
 have st₁:tn 0 h₁:=T.keep _ _ _ I λb f o e=>B b o (a3 b o e);have stat:∀{H':Hp},(∀b∈fp,H' b=none)->∀b∈fp,Iu Y [] H' b:=λhn b f=>by refine⟨hn b f,a2 b f,a5 b f,.inl f,λx c e=>(f2 b f).2.2.2.2.1 x c (clsub x c e),λp hp=>absurd (show p∈([]:List (γ×Obj)) from hp) (by simp)⟩
 have loop:codeAny (Np X.prog X.w) X.A (.compLoop (.ListComp elt [⟨tg,iter,ifs,0⟩] sc pos) 0 (.ref it) (.ref D) Y.env) (RR (.ref D) C) {s2 with heap:=h₁,toks:=s2.toks+0}:=by
  obtain⟨W,⟨m0,w0⟩,turn⟩:=rd D hD;refine qs3 (λn s'=>∃i σ' H',Q9 Y [] σ' H' s'/\tn i s'.heap/\(∀b∈fp,H' b=none)/\W i n σ' H') ?_ m0 ⟨0,_,_,IY,st₁,λb f=>by rw[qc0 (b1 b f)];exact(f2 b f).1,w0⟩;rintro n s3 ⟨i,σ3,H3,J3,a8,a9,w3⟩;rcases turn i n σ3 H3 w3 with⟨stop,qn⟩|⟨go,N,hN,step⟩;{refine thn (T.done Y rfl rfl rfl hc i [] s3 σ3 H3 _ J3 (stat a9) a8 stop) λr s4 k=>?_;obtain⟨hr,J4⟩:=k;subst hr;have b3:H3 C=none:=J4.free;refine fin D C H3 s4 ?_ qn b3 b2 (Ne.symm a1) b0 pinC a4 (let ⟨m,hn,_⟩:=J4.loc;⟨m,hn⟩);refine I2.call' (ch:=fp) J4.os ?_ J4.hok J4.bare λb f=>?_;{have u1:Un (frs X.stack) fp H2 (upd H2 D (.l [])) s2.heap h3:=Un.laid a3 (zCd t) hD;exact u1.trans J4.base};obtain⟨_,h1,_,b4,h4,h5⟩:=f2 b f;exact⟨b4,h1,h4,h5⟩};refine thn (T.item Y rfl rfl rfl hc i [] s3 σ3 H3 _ J3 (stat a9) a8 go) λr s4 k=>?_;obtain⟨u,hr,h4⟩:=k;subst hr;refine thn h4 λ_ s5 k=>?_;obtain⟨x,H5,J5,r5,y5,L,b5⟩:=k;have J5':=J5.pinned (stat b5) (T.obj _ _ L);have again:∀{σ7:St}{H7:Hp}{O:δ},Q9 Y ([]++Lr fp s5.heap) σ7 H7 O->N σ7 H7->∃m,m<n/\∃i σ' H',Q9 Y [] σ' H' O/\tn i O.heap/\(∀b∈fp,H' b=none)/\W i m σ' H':=λ{σ7 H7 O} I7 n7=>by obtain⟨m',hm,w7⟩:=hN σ7 H7 n7;refine⟨m',hm,i+1,σ7,H7,I7.unpinned,T.keep _ _ _ L λb f o e=>(I7.pin (b,o) (zAw _ (zAw _ (qt4 f e)))).1,λb f=>?_,w7⟩;obtain⟨o,e,d⟩:=T.obj _ _ L b f;exact(I7.pin (b,o) (zAw _ (zAw _ (qt4 f e)))).2.1
  refine thn (hg C _ _ _ s5 σ3 H5 x u _ J5' r5 (step x H5 y5)) λ_ s6 k=>?_;obtain⟨σ6,H6,J6,q6⟩:=k;refine thn (hf C _ _ _ s6 σ6 H6 _ J6 q6) λok O k=>?_;obtain⟨H7,J7,q7⟩:=k;cases ok with|false=>exact again J7 (by simpa using q7)|true=>rw[if_pos rfl] at q7 ⊢;refine thn (he C _ _ _ O σ6 H7 _ J7 q7) λy s8 k=>?_;obtain⟨v,H8,J8,r8,xs,b6,b7,q8⟩:=k;refine thn (qf1 (X:=Y) _ s8 σ6 H8 (.ref D) [v] (.ref D) [y] (λ_ H'=>N σ6 H') J8 rfl (.cons r8 .nil) ⟨D,xs,v,rfl,rfl,b6,b7,q8⟩) λ_ s9 k=>?_;obtain⟨_,H9,J9,_,q9⟩:=k;exact again J9 q9
 exact codeAny_compStart_list loop (T.self _ 0 _ _ _ st₁ loop)
end
def Gp(wi:TI)(src:List (Option Nat))(g:TG)(tf:TT)(te:TE):TE:=λa H Q=>wi a H λJ H1=>∀D,H1 D=none->qz5 J g tf te D (λH'=>Q (.ref D) H') (Fy a src) (upd H1 D (.l []))
section
variable{X:Cx}{elt tg iter:Nu}{ifs:List Nu}{sc:Scope}{pos:Pos}{NY:List Str}{src:List (Option Nat)}{wi:TI}{g:TG}{tf:TT}{te:TE}
theorem qP9(b:qy6 X NY src sc=true):sc.kind=.function/\(∀y∈sc.names,y.2=.local->sc.names.lookup y.1=some .local)/\(∀y∈sc.names,y.2=.free->(X.env.kindOf y.1=some .cell∨X.env.kindOf y.1=some .free)):=by unfold qy6 at b;simp only[zBb,zBm,zBe] at b;obtain⟨⟨⟨hkind,d⟩,a⟩,f⟩:=b;refine⟨hkind,λy c e=>?_,λy c e=>?_⟩;{have:=(a y c).1.2;rw[e] at this;simpa using this};have:=(a y c).2;rw[e] at this;show X.env.scope.names.lookup y.1=some .cell∨X.env.scope.names.lookup y.1=some .free;simpa using this
theorem qG6(NY:List Str)(src:List (Option Nat))(hi:PI X tg iter wi)(l:∀C a H0 ex,PG (qk7 X NY sc C a H0 ex) tg g)(n:∀C a H0 ex,PFs (qk7 X NY sc C a H0 ex) ifs tf)(p:∀C a H0 ex,PE (qk7 X NY sc C a H0 ex) elt te)(r:X.calm=true:=by rfl)(k:qy6 X NY src sc=true:=by rfl)(t:∀x,M9 iter X.env x=pure x:=by intro _;rfl):PE X (.ListComp elt [⟨tg,iter,ifs,0⟩] sc pos) (Gp wi src g tf te):=by intro Fm s σ H Q I h;obtain⟨hkind,hnames,hfree⟩:=qP9 k;rw[eval_ListComp];refine wpAny_comprehension_free rfl t (qQ0 λx u e=>I.ok.has x.1 (hfree x u e)) hkind hnames ?_;refine thn (hi Fm s σ H _ I h) λv G c=>thn c λw K d=>?_;obtain⟨L,f,M,J,H2,rfl,I2,T,i,f2,y⟩:=d;refine qaa5 k r I2 T i f2 (λC a H0=>l C a H0 f) (λC a H0=>n C a H0 f) (λC a H0=>p C a H0 f) y ?_;intro D C H' N I' q z c d A B O ⟨m,E⟩;exact⟨m,E,λP j=>⟨.ref D,H',(I'.turned (λb o F e=>j.extBut b o F e) z d (.inr c) A B),rfl,q⟩⟩
theorem qaO5(i:Nat)(NY:List Str)(src:List (Option Nat))(E:X.N.Nodup)(hi:PI X tg iter wi)(F:∀C a H0 ex,PG (qk7 X NY sc C a H0 ex) tg g)(G:∀C a H0 ex,PFs (qk7 X NY sc C a H0 ex) ifs tf)(K:∀C a H0 ex,PE (qk7 X NY sc C a H0 ex) elt te)(f:X.N[i]?=some x:=by rfl)(j:Loc X.env.scope x:=by first|exact Qx rfl|exact Qw rfl)(L:X.calm=true:=by rfl)(y:qy6 X NY src sc=true:=by rfl)(k:swapsWith (.ListComp elt [⟨tg,iter,ifs,0⟩] sc pos) (some (.Name x px)) spos.line X.env=pure true:=by rfl)(M:∀x,M9 iter X.env x=pure x:=by intro _;rfl)(l:X.fn x=true∨X.env.scope.names.lookup x=some .local:=by first|exact .inl rfl|exact .inr rfl|assumption):PS X (.Assign [.Name x px] (.ListComp elt [⟨tg,iter,ifs,0⟩] sc pos) spos) (Kw (Gp wi src g tf te) (Ia i)):=by
 intro Fm s σ H D I h;obtain⟨hkind,hnames,hfree⟩:=qP9 y;rw[exec_Assign_Name_used _ _ _ _ k];refine G' (wpAny_standAt (G' ?_));refine G' (Nj (wpAny_comprehension_free (Q:=λ_ c=>SP X Fm D .next c) rfl M (qQ0 λx j e=>I.ok.has x.1 (hfree x j e)) hkind hnames ?_) (λ_ c O=>J' (J' O)) λ_ _ e=>e);refine thn (hi Fm s σ H _ I h) λv s1 n=>thn n λP s2 d=>?_;obtain⟨R,r,tn,J,H2,rfl,I2,T,t,f2,S⟩:=d;refine qaa5 y L I2 T t f2 (λC a H0=>F C a H0 r) (λC a H0=>G C a H0 r) (λC a H0=>K C a H0 r) S ?_;intro D' C H' c I' q A n d U V W ⟨m,Y⟩;obtain⟨o,Z,ep,ho,B,hr⟩:=Y;have Ip:Q9 X (Fm++[(C,o)]) σ H' c:=I'.pins_of λp hp=>(zAf.mp hp).elim (λz=>I'.pin p (zAw _ z)) λz=>by
  have e:p=(C,o):=by simpa using z
  subst e;exact⟨ho,A,d,W,λv e=>by rw[B] at e;cases e⟩
 refine wpAny_assign_Name (qI1 (v:=.ref D') Ip E f j rfl (λu I''=>?_) l);refine⟨m,⟨o,Z,ep,((I''.pin (C,o) (by simp)).1),B,hr⟩,λh' w=>⟨_,H',?_,q⟩⟩;exact I''.unpinned.turned (t':=u.toks) (it:=C) (λb o hb e=>w.extBut b o hb e) A d (.inr n) U V
end
theorem qaa4{K:P'}(Pv:Nat->St->Hp->Prop)(c:Pv 0 n H)(d:∀i n H,i<=xs.length->Pv i n H->SqL K H a xs)(f:∀i x n H,xs[i]?=some x->Pv i n H->g x n H λσ2 H2=>tf σ2 H2 λh H3=>if h=true then te σ2 H3 λv H4=>∃ys,H4 D=some (.l ys)/\ys.length<M7/\Pv (i+1) σ2 (upd H4 D (.l (ys++[v]))) else Pv (i+1) σ2 H3)(j:∀n H,Pv xs.length n H->R H):qz5 (Itl K a) g tf te D R n H:=by refine⟨λi m n H=>m=xs.length-i/\i<=xs.length/\Pv i n H,⟨xs.length,by simp,zBi _,c⟩,?_⟩;rintro i m n H ⟨rfl,k,p⟩;have q:=d i n H k p;by_cases b:i<xs.length;{refine .inr ⟨⟨xs,xs[i],q,by simp[b]⟩,Pv (i+1),λn' H' l=>⟨xs.length-(i+1),⋯,rfl,b,l⟩,λx H' y=>?_⟩;obtain⟨e,y⟩:=y;subst e;exact f i x n _ (y xs q) p};have e:i=xs.length:=⋯;subst e;exact .inl ⟨⟨xs,q,zA3 _⟩,j n H p⟩
theorem qao4{D:γ}{lo:Int}{n:Nat}{g:TG}{tf:TT}{te:TE}{R:Hp->Prop}{k:St}(Pv:Nat->St->Hp->Prop)(b:Pv 0 k H)(c:∀i k H,i<n->Pv i k H->g (.int (lo+i)) k H λσ2 H2=>tf σ2 H2 λd H3=>if d=true then te σ2 H3 λv H4=>∃ys,H4 D=some (.l ys)/\ys.length<M7/\Pv (i+1) σ2 (upd H4 D (.l (ys++[v]))) else Pv (i+1) σ2 H3)(f:∀k H,Pv n k H->R H):qz5 (Itr lo n) g tf te D R k H:=by refine⟨λi m k H=>m=n-i/\i<=n/\Pv i k H,⟨n,by simp,zBi _,b⟩,?_⟩;rintro i m k H ⟨rfl,j,p⟩;by_cases a:i<n;{refine .inr ⟨a,Pv (i+1),λk' H' h=>⟨n-(i+1),⋯,rfl,a,h⟩,λx H' y=>?_⟩;obtain⟨e,y⟩:=y;subst e y;exact c i k _ a p};have e:i=n:=⋯;subst e;exact .inl ⟨zA3 _,f k H p⟩
section
variable{X:Cx}
theorem sset(i:Nat)(a:X.N.Nodup)(b:PE X e te)(hi:X.N[i]?=some x:=by rfl)(c:Loc X.env.scope x:=by first|exact Qx rfl|exact Qw rfl)(d:swapsWith e (some (.Name x pos')) pos.line X.env=pure false:=by rfl)(f:X.fn x=true∨X.env.scope.names.lookup x=some .local:=by first|exact .inl rfl|exact .inr rfl|assumption):PS X (.Assign [.Name x pos'] e pos) (Kw te (Ia i)):=qaO3 a hi c b d f
theorem gnm(i:Nat)(a:X.N.Nodup)(hi:X.N[i]?=some x:=by rfl)(b:Loc X.env.scope x:=by first|exact Qx rfl|exact Qw rfl)(c:X.fn x=true∨X.env.scope.names.lookup x=some .local:=by first|exact .inl rfl|exact .inr rfl|assumption):PG X (.Name x pos) (Ia i):=qaz5 a hi b c
def CDivB(_ j:Int):Prop:=0<j/\j<2 ^ 200
theorem qU2:OpR X (Nn .FloorDiv) (rI CDivB λi j=>.int (i/j)):=opI λi j _ _ _ _ _ a q=>by
 have c:=a.1;have d:=a.2;refine floordiv_int ⋯ (by rw[Int.fdiv_eq_ediv_of_nonneg i ⋯];exact q) (.inl (PyProof.noPylong_of_log2 ?_));have b:j.natAbs<2 ^ 200:=⋯
 have e:=(Nat.log2_lt ⋯).mpr b;lia
theorem qaP4{j:Int}(k:Int){a b:Nat}{q pos:Pos}(c:i ^ j.toNat=k:=by decide)(d:0<=j:=by decide)(h1:j<=1000000:=by decide)(h2:i.natAbs<2 ^ 64:=by decide):PE X (.BinOp (.Constant (.int i) a p) .Pow (.Constant (.int j) b q) pos) (tC (.int k)):=by intro Fm s m H Q I h;refine(pe_op qba8 qN3 qN3) Fm s m H Q I ⟨_,_,rfl,rfl,⟨d,h1,h2⟩,?_⟩;show Q (.int (i ^ j.toNat)) H;rw[c];exact h
theorem qbb2:OpR X (M8 .Is) (λx y H Q=>∃b c,x=.bl b/\y=.bl c/\Q (.bl (b==c)) H):=by intro Fm s m H x y v u Q I a d h;obtain⟨b,c,rfl,rfl,q⟩:=h;cases a;cases d;exact is_bool ⟨.bl _,H,I,rfl,q⟩
def Bf(H:Hp):V->Option String
 |.non=>some "NoneType" | .bl _=>some "bool" | .int _=>some "int" | .str _=>some "str"|.ref a=>match H a with|some (.l _)=>some "list" | some (.q _)=>some "tuple" | some (.dK _)=>some "dict" | some (.frz _ (.l _))=>some "list"|_=>none
 |_=>none
noncomputable def Ht(t n:String):Bool:=t==n||(t=="bool" && n=="int")
theorem qaS6(K:P'){t:String}(a:t∈["NoneType", "bool", "int", "str", "list", "tuple", "dict"])(b:n∈["bool", "int", "str", "list", "tuple", "dict"]):Qa K (.type t) (.type n)=some (Ht t n):=by simp only[zAj,zBk,or_false] at a b;rcases a with rfl|rfl|rfl|rfl|rfl|rfl|rfl<;>rcases b with rfl|rfl|rfl|rfl|rfl|rfl<;>rfl
theorem qam3{K:P'}{x:V}{t:String}(h:Bf H x=some t):Gy K H x (.type t)/\t∈["NoneType", "bool", "int", "str", "list", "tuple", "dict"]:=by cases x with|non=>cases h;exact⟨.non,∅⟩|bl b=>cases h;exact⟨.bl b,∅⟩|int b=>cases h;exact⟨.int b,∅⟩|str b=>cases h;exact⟨.str b,∅⟩|byt b=>cases h|flt b=>cases h|ty b=>cases h|ref a=>unfold Bf at h;dsimp only at h;split at h;{cases h;exact⟨.l (by assumption),∅⟩};{cases h;exact⟨.q (by assumption),∅⟩};{cases h;exact⟨.dK (by assumption),∅⟩};{cases h;exact⟨.frz (by assumption),∅⟩};cases h
def rIsi:List V->Hp->VK->Prop:=λxs H Q=>∃x n t,xs=[x,.ty n]/\Bf H x=some t/\n∈["bool", "int", "str", "list", "tuple", "dict"]/\Q (.bl (Ht t n)) H
theorem qi8:CallR X (.builtin "isinstance") rIsi:=by intro Fm s m H g i Q I r h;obtain⟨x,n,t,rfl,b,c,q⟩:=h;obtain⟨u,j,rfl,d,a⟩:=Ic r;cases a;obtain⟨ty,e⟩:=qam3 b;exact qz2 I d ty (qaS6 X.K e c) λf=>⟨.bl _,H,I.tok f,rfl,q⟩
theorem qas6(n:String)(hm:X.mg x=none)(a:Gl X x:=by rfl)(b:Na x=some (.type n):=by rfl)(c:x ≠ "__name__" := by decide)(d:N' x:=by decide):PE X (.Name x pos) (tC (.ty n)):=qaQ0 a hm b rfl c d
theorem qaz7{t:Tok}(hm:X.mg x=some (.int n t))(a:Gl X x:=by rfl)(b:N' x:=by decide):PE X (.Name x pos) (tC (.int n)):=qaj4 a hm ⟨t,rfl⟩ b
theorem cbi{id:String}(c:CallR X (.builtin id) r)(hm:X.mg x=none)(d:PA X (e::es) t)(f:Gl X x:=by rfl)(g:Na x=some (.builtin id):=by rfl)(h:x ≠ "__name__" := by decide)(a:N' x:=by decide)(i:M6 (e::es) X.env=(false,eval e X.env)::M6 es X.env:=by rfl)(b:(backTo pos (M6 es X.env)).any (·.1)=false:=by rfl):PE X (.Call (.Name x p) (e::es) [] pos) (tCB r t):=qaG1 c f hm g d h a i b
theorem cty{id:String}(c:CallR X (.type id) r)(hm:X.mg x=none)(d:PA X (e::es) t)(f:Gl X x:=by rfl)(g:Na x=some (.type id):=by rfl)(h:x ≠ "__name__" := by decide)(a:N' x:=by decide)(i:M6 (e::es) X.env=(false,eval e X.env)::M6 es X.env:=by rfl)(b:(backTo pos (M6 es X.env)).any (·.1)=false:=by rfl):PE X (.Call (.Name x p) (e::es) [] pos) (tCB r t):=qas7 c f hm g d h a i b
end
theorem ix{X:Cx}{a b:Nu}{ta tb:TE}{pos:Pos}{r:R2}(c:IxR X r)(d:PE X a ta)(e:PE X b tb)(f:qap9 b:=by exact λ_ _=>rfl):PE X (.Subscript a b pos) (tOp r ta tb):=pe_ix c d e f
def rGetL:V->V->Hp->VK->Prop:=λo i H Q=>∃p xs k v,o=.ref p/\i=.int k/\H p=some (.l xs)/\0<=k/\xs[k.toNat]?=some v/\Q v H
theorem qaJ2:PGet X rGetL:=by intro Fm s B H o i w x Q I b c h;obtain⟨p,y,k,v,rfl,rfl,d,e,a,q⟩:=h;cases b;obtain⟨t,rfl⟩:=c;obtain⟨f,n,r,g,z⟩:=I.l d;obtain⟨u,j,l⟩:=r.get a;have m:=(zA4.mp a).1;have A:=qV2;refine wpAny_getItem_list ⟨_,g,rfl,n,rfl⟩ e ⋯ (by simpa using j) ⟨v,H,I,l,q⟩
theorem qbg1{xs:List α}(b:0<=i)(h1:i<xs.length):∃v,xs[i.toNat]?=some v/\atI xs i=some v:=by have a:i.toNat<xs.length:=⋯;have e:(i.toNat:Int)=i:=⋯;refine⟨xs[i.toNat],by simp[a],?_⟩;have:=qap3 (xs:=xs) (j:=i.toNat) (v:=xs[i.toNat]) (by simp[a]);rw[e] at this;exact this
theorem qE1{xs:List α}(a:0<=i)(h1:i<xs.length):∃v,v∈xs/\atI xs i=some v:=by obtain⟨v,h,e⟩:=qbg1 a h1;exact⟨v,zB2 h,e⟩
theorem qam2(h:H a=some (.l xs)):Bf H (.ref a)=some "list" := by
 unfold Bf;dsimp only;rw[h]
theorem qaI3(h:H a=some (.q xs)):Bf H (.ref a)=some "tuple" := by
 unfold Bf;dsimp only;rw[h]
theorem qaA4{xs:List (Key×V)}(h:H a=some (.dK xs)):Bf H (.ref a)=some "dict" := by
 unfold Bf;dsimp only;rw[h]
theorem Same.new(h:H q=none):Same H (upd H q u):=λb o e=>by rw[qc0 (qc9 e h)];exact e
structure Df(K:P')(mg:Str->Option V')(x qual:Str)(st:Nv)(f:γ)(fd:ε)(ps:List Str):Prop where
 F:Fun K x qual st f fd
 b:Binds K fd ps []
 m:mg x=some (.ref f)
theorem dfmk{K:P'}{st:Nv}{i:Array (Option V')}{kV e a:V'}(l:K.lookup f=some ⟨oc,od,.func (W.fnOf x qual (qg2 st) (qd9 st) (qa4 st) .none kV b e d a g),i⟩)(c:W.codeIn K a qual=true)(k:W.keepIn K (.ref f)=true)(m:mg x=some (.ref f))(h:∀(kV b e:V')(d:Option γ)(a g:V')(us:List V'),us.length=ps.length->bindArgs (W.fnOf x qual (qg2 st) (qd9 st) (qa4 st) .none kV b e d a g) ⟨us,[]⟩=pure (ps.zip us)):Df K mg x qual st f (W.fnOf x qual (qg2 st) (qd9 st) (qa4 st) .none kV b e d a g) ps:=⟨qau7 l c k,(qau7 l c k).binds h,m⟩
theorem J0{st:Nv}(D:Df X.K X.mg x qual st f fd ps)(G:Fx X.prog X.w X.K X.mg X.base CX0 k f fd ps sp)(d:Room k X.A)(g:PA X (e::es) t)(h:Gl X x:=by rfl)(a:N' x:=by decide)(i:M6 (e::es) X.env=(false,eval e X.env)::M6 es X.env:=by rfl)(c:(backTo pos (M6 es X.env)).any (·.1)=false:=by rfl):PE X (.Call (.Name x p) (e::es) [] pos) (Lv sp [] (λ_=>E0) t):=qaz8 G d h D.m D.F.kp D.b .nil pass0 g a i c
end L2
namespace LB
open PySem PySem.Spec PyProof.Rows
theorem qV1:typeLookup (.type "list") "keys"=pure none:=by rw[typeLookup_type,builtinLookup_eq_fast];kernel_rfl
theorem qF7:typeLookup (.type "list") "__getattr__"=pure none:=by rw[typeLookup_type,builtinLookup_eq_fast];kernel_rfl
section
variable{prog:Nq}{w:Nt}{A:Nr}{E:V'->δ->Prop}{h:Heap}{g:Array GenState}{d:Drawn}{t:Nat}{u:OsState}{a:γ}{its:Array V'}{n:Nat}
theorem qF8(c:h.get? a=some {cls:=.type "list",data:=.seq its n})(f:A.handled=none)(i:∀h' b e,Heap.NewAttrErr h h' e (.ref a) "keys" -> E (.ref e) ⟨h',g,d,b,u⟩):No (Np prog w) A (Builtin.«object.__getattribute__» ⟨[.ref a,.str "keys" b],[]⟩) Q E ⟨h,g,d,t,u⟩:=by
 have j:(⟨h,g,d,t,u⟩:δ).TypeIs (.ref a) "list" := ⟨_,c,rfl⟩;have k:=qV1;repeat (any_goals (first|assumption|wp_step))
 exact wpAny_raiseAttrError f (i) (attrMsg_fits (by decide +kernel) (by decide +kernel))
theorem qK6(i:h.get? a=some {cls:=.type "list",data:=.seq its n})(k:A.handled=none)(l:∀h' f,(∀b o,h.get? b=some o->h'.get? b=some o)->Q none ⟨h',g,d,f,u⟩):No (Np prog w) A (getAttr? (.ref a) "keys") Q E ⟨h,g,d,t,u⟩:=by
 have j:∀f,(⟨h,g,d,f,u⟩:δ).TypeIs (.ref a) "list" := λ_=>⟨_,i,rfl⟩;have m:=j t;have f1:=sub_AttributeError;have f2:=F.slot_list_getattribute.lookup;have f3:=F.slot_list_getattribute.bind (.ref a);have p:=qF7;unfold getAttr? getAttrBy? getAttrBy;repeat (any_goals (first|assumption|wp_step))
 refine codeAny_call_builtin F.slot_list_getattribute.plain F.entry_list_ga (F.slot_list_getattribute.check _ _ _ _ _ _ _ _ (j _) (F.args_list_getattribute_2 _ _) (qF8 i k λh' f e c=>?_));obtain⟨q,r,s⟩:=c.there;show No _ _ (getattributeRaised _ _ _ _ _ _ _) _ _ _;unfold getattributeRaised;repeat (any_goals (first|assumption|wp_step))
 exact l _ _ c.keeps
end
theorem qq0:entryFor table "dict.update.loop"=some Builtin.«dict.update.loop»:=entryFor_of_tree (by kernel_rfl)
theorem qg8:plainId "dict.update.loop"=true:=by decide +kernel
section
variable{prog:Nq}{w:Nt}{K:Type}[DecidableEq K]{knd:KeyKind prog w K}{A:Nr}{R:Result->δ->Prop}
theorem qaw3(U:A.handled=none)(y:ax≠I)(g:d≠I)(z:ax≠d):∀(rest:List (K×V'))(i:Nat)(ix:Int)(kvs:List (K×V'))(s:δ),
 (∀(j:Nat) a,rest[j]?=some a->∃t key,items[i+j]?=some (.ref t)/\IsTup s.heap t #[key,a.2]/\knd.is a.1 key=true/\t≠I/\t≠d)->items.size=i+rest.length->s.heap.IsListIter I ax i->s.heap.IsList ax items->s.heap.DictOf knd d kvs->kvs.length+rest.length<=M7->(∀h' B,h'.DictOf knd d (rest.foldl (λacc a=>stored acc a.1 a.2) kvs)->(∀b o,b≠I->b≠d->s.heap.get? b=some o->h'.get? b=some o)->R (.ok (.ret .none)) {s with heap:=h',toks:=B})->codeAny (Np prog w) A (.builtin "dict.update.loop" ⟨[.ref d,.ref I,rawInt ix,.none],[]⟩) R s:=by
 intro rest;induction rest with
 |nil=>
  intro i ix kvs s C f h v D P E;refine codeAny_builtin qq0 ?_;rw[Around.under_plainId qg8 _];show No _ A.in1 (pyNext (.ref I) >>= _) _ _ s;refine G' (wpAny_pyNext_list_end U h v (by simp at f;simp[f]) λh' Q=>?_);show No _ _ (Builtin.Dict.addKeywords d [] >>= _) _ _ _;refine G' (J' (J' ?_));have k:h'.DictOf knd d kvs:=by obtain⟨o,F,G,l,r⟩:=D;exact⟨o,F,G,Q d o g l,r⟩
  exact E h' s.toks k λb o x _ e=>Q b o x e
 |cons a rest V=>
  intro i ix kvs s C f h v D P E;obtain⟨t,key,W,X,Y,Z,h5⟩:=C 0 a rfl;refine codeAny_builtin qq0 ?_;rw[Around.under_plainId qg8 _];show No _ A.in1 (pyNext (.ref I) >>= _) _ _ s;refine G' (wpAny_pyNext_list_item h v W λh' m p=>?_);have H:IsTup h' t #[key,a.2]:=X.extBut p.extBut Z;obtain⟨o,l,J,n,L⟩:=H;refine G' (M' ?_);refine G' (wpAny_tryCatch ?_);unfold Builtin.Dict.pairItems;refine G' (wpAny_typeOf (T := "tuple") ⟨o,l,J⟩ ?_);rw[if_pos ∅];refine G' (wpAny_seqItems l L (J' ?_));dsimp only[Option.getD];have k:h'.DictOf knd d kvs:=by obtain⟨o,F,G,l,r⟩:=D;exact⟨o,F,G,p.extBut d o g l,r⟩
  simp only[zAm] at P f;show No _ _ (holding [key,a.2] (dictSet d key a.2)) _ _ _;refine M' (wpAny_dictSet_pairs (hsz:=by lia) Y k λa0 q c=>?_);refine J' ⟨plainId_quiet qg8 _,?_⟩;have S:(stored kvs a.1 a.2).length<=kvs.length+1:=by unfold stored;split;{rw[zAe];lia};rw[zAb];simp
  refine V (i+1) (ix+1) (stored kvs a.1 a.2) _ (λj M hj=>?_) ⋯ ?_ ?_ q ⋯ λN B O k3=>?_;{obtain⟨t',key',g1,g2,g3,g4,g5⟩:=C (j+1) M hj;exact⟨t',key',by rw[show i+1+j=i+(j+1) by lia];exact g1,(g2.extBut p.extBut g4).extBut c.extBut g5,g3,g4,g5⟩};{exact m.at λo e=>c.extBut I o (Ne.symm g) e};{exact(v.at λo e=>p.extBut ax o y e).at λo e=>c.extBut ax o z e};exact E N B O λb o x u e=>k3 b o x u (c.extBut b o u (p.extBut b o x e))
end
end LB
namespace L2
open PySem PySem.Spec PyProof.Rows
section
variable{X:Cx}
theorem KV.fold:∀{more:List (Key×V)}{a:List (Key×V')}{kvs:List (Key×V)}{vs:List (Key×V')},KV more a->KV kvs vs->KV (qF6 kvs more) (a.foldl (λacc b=>stored acc b.1 b.2) vs):=by intro more a kvs vs r;unfold KV at r;induction r generalizing kvs vs with|nil=>intro q;exact q|@cons p q _ _ h _ ih=>intro c;show KV (qF6 (putK kvs p.1 p.2) _) (On _ (stored vs q.1 q.2) _);refine ih ?_;rw[<-h.1];exact c.put p.1 h.2
def qaC4(H:Hp)(ys:List V)(kvs:List (Key×V)):Prop:=Paired (λy (a:Key×V)=>∃t,y=.ref t/\H t=some (.q [kV a.1,a.2])) ys kvs
def qaN9:List V->Hp->VK->Prop:=λxs H Q=>∃a ys kvs,xs=[.ref a]/\H a=some (.l ys)/\qaC4 H ys kvs/\∀p,H p=none->Q (.ref p) (upd H p (.dK (qF6 [] kvs)))
theorem qQ1(hc:X.calm=true):CallR X (.type "dict") qaN9:=by
 intro Fm s σ H xs us Q I r h;obtain⟨a,ys,g,rfl,ha,N,q⟩:=h;obtain⟨u,rfl,ru⟩:=B9 r;cases ru;have hh:=I.ok.hd hc;obtain⟨z,f,n,rv,O,e⟩:=I.lstM ha;obtain⟨x,J,P⟩:∃x:List (Key×V'),KV g x/\∀(j:Nat) k,x[j]?=some k->∃t i,f[j]?=some (.ref t)/\IsTup s.heap t #[i,k.2]/\(qg0 X.prog X.w).is k.1 i=true:=by clear q e O n ha z;induction N generalizing f with|nil=>exact⟨[],.nil,λj k C=>by simp at C⟩|@cons y k ys g hy _ ih=>cases rv with|@cons _ u _ us' hu hr=>obtain⟨t,rfl,ht⟩:=hy;cases hu;obtain⟨_,its',rt,o,p,R,n,S⟩:=I.hok t _ ht;obtain⟨i,U,rfl,r1,r2⟩:=rt.two;obtain⟨x,J,P⟩:=ih _ hr;refine⟨(k.1,U)::x,.cons ⟨rfl,r2⟩ J,λj V C=>?_⟩;cases j with|zero=>cases C;exact⟨t,i,rfl,⟨o,p,R,n,S⟩,Ly r1⟩|succ j=>exact P j V C
 have D:x.length=f.length:=by rw[<-O,<-Paired.length J,<-Paired.length N]
 have big:=I.big;obtain⟨c,gn,dr,W,Y⟩:=s;refine callType_codes (Q₁:=λE s₁=>E=.ref c.objs.size/\s₁={heap:=c.push {cls:=.type "dict",data:=.dict #[]},gens:=gn,drawn:=dr,toks:=W,os:=Y}) F.kt_called_dict (F.kt_typeCall_dict_1 _) F.entry_dict_init (kt_code_dict_new _ ⟨rfl,rfl⟩) ?_;rintro E s₁ ⟨rfl,rfl⟩;have l:(c.push {cls:=.type "dict",data:=.dict #[]}).DictOf (qg0 X.prog X.w) c.objs.size []:=Heap.DictOf.new c;have Z:(c.push {cls:=.type "dict",data:=.dict #[]}).get? a=some {cls:=.type "list",data:=.seq f.toArray n}:=zA2 _ e;have G:a<c.objs.size:=zA9 e;refine⟨l.typeIs,F.args_dict_init_2 _ _,?_⟩;unfold Builtin.«dict.__init__»;refine G' ?_;unfold Builtin.Dict.selfAndRest;refine G' (wpAny_notOrdered_dict l.typeIs ?_);show No _ _ (pure (c.objs.size,[Pu a])) _ _ _;refine J' ?_;show No _ _ (Builtin.Dict.updateFrom "dict.__init__" c.objs.size (.ref a) [] .none) _ _ _;unfold Builtin.Dict.updateFrom;refine G' (wpAny_typeOf (T := "list") ⟨_,Z,rfl⟩ ?_);rw[if_pos ∅];refine G' (LB.qK6 Z hh λB a2 K=>?_);rw[if_pos (by rfl)];have e1:B.get? a=some {cls:=.type "list",data:=.seq f.toArray n}:=K _ _ Z;have d1:B.DictOf (qg0 X.prog X.w) c.objs.size []:=by obtain⟨o,L,M,p,r⟩:=l;exact⟨o,L,M,K _ _ p,r⟩
 refine G' (wpAny_rule ?_);have hlist:B.IsList a f.toArray:=⟨_,e1,rfl,n,rfl⟩;refine G' (wpAny_pyIter_list hlist ?_);have v:c.objs.size<B.objs.size:=by obtain⟨o,L,M,p,r⟩:=d1;exact zA9 p
 refine J' ⟨plainId_quiet LB.qg8 _,?_⟩;refine LB.qaw3 (knd:=qg0 X.prog X.w) (A:=X.A.in1) hh (I:=B.objs.size) (ax:=a) (d:=c.objs.size) (items:=f.toArray) (zAk (Nat.lt_trans G v)) (zAk v) (zAk G) x 0 0 [] _ (λj k C=>?_) (by simp[D]) ?_ ?_ ?_ ?_ λh2 a0 d2 k2=>?_;{obtain⟨t,i,g1,g2,g3⟩:=P j k C;obtain⟨o,p,r⟩:=g2;have m:=zA9 p;exact⟨t,i,by simpa using g1,⟨o,zA2 _ (K _ _ (zA2 _ p)),r⟩,g3,zAk (Nat.lt_trans m v),zAk m⟩};{exact⟨_,zAx _ rfl,rfl,rfl⟩};{exact⟨_,zA2 _ e1,rfl,n,rfl⟩};{obtain⟨o,L,M,p,r⟩:=d1;exact⟨o,L,M,zA2 _ p,r⟩};{simp only[zCo,zAl];rw[D,<-O];exact z};refine⟨rfl,?_⟩;have hf:H c.objs.size=none:=I.hok.fresh (zA3 _);have keep:∀b o,c.get? b=some o->h2.get? b=some o:=λb o eb=>by have m:=zA9 eb;exact k2 b o (zAk (Nat.lt_trans m v)) (zAk m) (zA2 _ (K _ _ (zA2 _ eb)))
 have rm:KV (qF6 [] g) (x.foldl (λa1 k=>stored a1 k.1 k.2) []):=KV.fold J .nil;have hz:(qF6 [] g).length<=M7:=by have B:=qx7 g [];have h2:=Paired.length N;simp only[zCo] at B;lia
 refine⟨.ref c.objs.size,_,I.laid (t':=a0) (o:=.dK (qF6 [] g)) keep (zA3 _) ?_,rfl,q _ hf⟩;exact⟨hz,zBl.mpr (Ne.symm (zAk big)),_,rm,d2⟩
end
section
variable{X:Cx}
theorem qaa7(t:X.calm=true):CallR X (.builtin "all") (λxs H Q=>∃(a:γ)(bs:List Bool),xs=[.ref a]/\SqL X.K H a (bs.map V.bl)/\Q (.bl (bs.all id)) H):=by
 intro Fm s L H xs E Q I r h;obtain⟨a,bs,rfl,w,q⟩:=h;obtain⟨u,rfl,k⟩:=B9 r;cases k;have y:=I.ok.hd t;obtain⟨d,l,m,F⟩:=I.list w;refine call_all_walk (wpAny_pyIter_list m.isList ?_);have n:a<s.heap.objs.size:=let ⟨o,ho,_⟩:=m.isList;zA9 ho
 refine⟨s.heap.objs.size,_,_,_,_,_,λi=>bs.getD i false,rfl,Walks.list (A:=X.A.in1) y _ a (zAk n) d.toArray,⟨⟨_,zAx _ rfl,rfl,rfl⟩,?_⟩,?_,?_⟩;{exact m.isList.at λo e=>zA2 _ e}
 .intro i v z Q1 E1 f g;have f:d[i]?=some v:=by simpa using f
  have c:i<bs.length:=by have G:=(zA4.mp f).1;have j:=l.length;rw[zAe] at j;lia
  obtain⟨u,p,k⟩:=l.get (i:=i) (x:=.bl bs[i]) (by simp[c]);rw[f] at p;cases p;cases k;refine Nb ?_;have e:bs.getD i false=bs[i]:=by simp[O8,c]
  have g:Q1 (bs.getD i false) z:=g;rw[e] at g;exact g
 intro J B C;have e:(N7 d.toArray.size).all (λi=>bs.getD i false)=bs.all id:=by have j:=l.length;rw[zAe] at j;rw[zA5,<-j];rw[Bool.eq_iff_iff];simp only[zBe,zAo,id_eq];constructor;{intro h b D;obtain⟨i,c,rfl⟩:=List.mem_iff_getElem.mp D;have:=h i c;simpa[O8,c] using this};intro h i c;have:=h bs[i] (List.getElem_mem c);simpa[O8,c] using this
 rw[e];refine⟨.bl _,H,?_,rfl,q⟩;exact I.kept (t':=B) λb o e=>C b o (by simp;exact zAk (zA9 e)) (zA2 _ e)
noncomputable def qs1(ns:List Int):Nat:=(firstMet (λi=>ns.getD i 0) ns.length).length
def rSetI(K:P'):List V->Hp->VK->Prop:=λxs H Q=>∃(a:γ)(ns:List Int),xs=[.ref a]/\SqL K H a (ns.map V.int)/\ns.length<=1000/\∀p S,H p=none->Q (.ref p) (upd H p (.set S (qs1 ns)))
theorem qaw8(k:X.calm=true):CallR X (.type "set") (rSetI X.K):=by
 intro Fm s L H t v Q I r h;obtain⟨a,f,rfl,l,w,q⟩:=h;obtain⟨u,rfl,m⟩:=B9 r;cases m;obtain⟨d,i,n,x⟩:=I.list l;have c:d.length=f.length:=by have:=i.length;rw[zAe] at this;exact this.symm
 refine call_set_list (I.ok.hd k) n.isList (by simpa using (qam9 i)) (by rw[zA5,c];show f.length+1<4096;lia) λy z j p=>?_;have g:d.toArray.size=f.length:=by rw[zA5,c]
 rw[g] at j;refine⟨.ref s.heap.objs.size,_,I.laid (o:=.set _ (qs1 f)) (λb o e=>p b o (zA9 e) e) (zA3 _) j,rfl,q _ _ (I.hok.fresh (zA3 _))⟩
theorem qax0:CallR X (.builtin "len") (λxs H Q=>∃(a:γ)(S:Int->Bool)(n:Nat),xs=[.ref a]/\H a=some (.set S n)/\Q (.int n) H):=by intro Fm s L H xs l Q I r h;obtain⟨a,S,n,rfl,d,q⟩:=h;obtain⟨u,rfl,e⟩:=B9 r;cases e;obtain⟨o,f,m,t,g,b,i,_,_,c,j,k⟩:=I.hok a _ d;subst k;have c:f.size<4096:=c;exact call_len_set g b i j ⋯ ⟨.int _,H,I.tok _,⟨_,rfl⟩,q⟩
end
theorem qW0(ns:List Int):qs1 ns=ns.length↔ns.Nodup:=by
 have f:∀i,i<=ns.length->(∀k,k∈firstMet (λi=>ns.getD i 0) i↔k∈ns.take i)/\((firstMet (λi=>ns.getD i 0) i).length=i↔(ns.take i).Nodup):=by
  intro i;induction i with
  |zero=>intro _;rw[firstMet_zero];simp|succ i m=>
   intro r;obtain⟨c,l⟩:=m ⋯;have n:=firstMet_length_le (λi=>ns.getD i 0) i;have b:i<ns.length:=⋯;have o:ns.take (i+1)=ns.take i++[ns[i]]:=by rw[Oc];simp[b]
   have p:ns.getD i 0=ns[i]:=by simp[O8,b]
   rw[firstMet_succ,o,p];unfold step_dedup;by_cases d:ns[i]∈firstMet (λi=>ns.getD i 0) i;{have a:ns[i]∈ns.take i:=(c _).mp d;have g:(firstMet (λi=>ns.getD i 0) i).any (· == ns[i])=true:=List.any_eq_true.mpr ⟨_,d,by simp⟩;rw[if_pos g];refine⟨λk=>?_,?_⟩;{rw[c];simp only[zAf,zAd];exact⟨.inl,λh=>h.elim id λe=>by rw[e];exact a⟩};constructor;{intro h;lia};intro h;rw[zBs] at h;exact absurd rfl (h.2.2 _ a _ (zAd.mpr rfl))};have a:¬ns[i]∈ns.take i:=λh=>d ((c _).mpr h);have g:¬(firstMet (λi=>ns.getD i 0) i).any (· == ns[i])=true:=λh=>by obtain⟨x,j,e⟩:=List.any_eq_true.mp h;exact d (by rw[<-(zBm.mp e)];exact j)
   rw[if_neg g];refine⟨λk=>?_,?_⟩;{simp only[zAf,zAd];rw[c]};rw[zAb,zBs];simp only[Oz];constructor;{intro h;refine⟨l.mp ⋯,by simp,λx j y q=>?_⟩;rw[zAd.mp q];exact λe=>a (e ▸ j)};intro h;have:=l.mpr h.1;lia
 have:=(f ns.length (zA3 _)).2;rw[zAr (zA3 _)] at this;exact this
end L2
namespace L2
open PySem PySem.Spec PyProof.Rows PySem.SeqAt
variable{A:Nr}{xs:List V}
inductive EqD(H:Hp):Nat->V->V->Bool->Prop
 |flat {n:Nat} {x y:V} (hx:flatV x=true) (hy:flatV y=true):EqD H n x y (eqV x y)
 |same {n:Nat} (a:γ):EqD H n (.ref a) (.ref a) true
 |lsts {n:Nat} {a b:γ} {xs ys:List V} {e:Nat->Bool} (ne:a≠b) (ha:H a=some (.l xs)) (hb:H b=some (.l ys)) (hl:xs.length=ys.length) (he:∀i x y,xs[i]?=some x->ys[i]?=some y->EqD H n x y (e i)):EqD H (n+1) (.ref a) (.ref b) ((N7 xs.length).all e)
 |lens {n:Nat} {a b:γ} {xs ys:List V} (ne:a≠b) (ha:H a=some (.l xs)) (hb:H b=some (.l ys)) (hl:xs.length≠ys.length):EqD H (n+1) (.ref a) (.ref b) false
 |tups {n:Nat} {a b:γ} {xs ys:List V} {e:Nat->Bool} (ne:a≠b) (ha:H a=some (.q xs)) (hb:H b=some (.q ys)) (he:∀i x y,xs[i]?=some x->ys[i]?=some y->EqD H n x y (e i)):EqD H (n+1) (.ref a) (.ref b) ((N7 (min xs.length ys.length)).all e&&xs.length==ys.length)
inductive RcD(H:Hp):V->V->Bool->Prop
 |flat {x y:V} (hx:flatV x=true) (hy:flatV y=true):RcD H x y (eqV x y)
 |lsts {a b:γ} {xs ys:List V} {e:Nat->Bool} (ha:H a=some (.l xs)) (hb:H b=some (.l ys)) (hl:xs.length=ys.length) (he:∀i x y,xs[i]?=some x->ys[i]?=some y->EqD H 20 x y (e i)):RcD H (.ref a) (.ref b) ((N7 xs.length).all e)
 |lens {a b:γ} {xs ys:List V} (ha:H a=some (.l xs)) (hb:H b=some (.l ys)) (hl:xs.length≠ys.length):RcD H (.ref a) (.ref b) false
 |tups {a b:γ} {xs ys:List V} {e:Nat->Bool} (ha:H a=some (.q xs)) (hb:H b=some (.q ys)) (he:∀i x y,xs[i]?=some x->ys[i]?=some y->EqD H 20 x y (e i)):RcD H (.ref a) (.ref b) ((N7 (min xs.length ys.length)).all e&&xs.length==ys.length)
section
variable{X:Cx}{E:List (γ×Obj)}{D:St}{H:Hp}{s:δ}
theorem Q9.lstI(I:Q9 X E D H s){a:γ}(h:H a=some (.l xs)):∃its:List V',Q7 xs its/\s.heap.IsList a its.toArray:=by obtain⟨z,its,n,r,_,e⟩:=I.lstM h;exact⟨its,r,_,e,rfl,n,rfl⟩
theorem Q9.tupI(I:Q9 X E D H s){a:γ}(h:H a=some (.q xs)):∃its:List V',Q7 xs its/\s.heap.IsTuple a its.toArray:=by obtain⟨z,its,r,o,b,c,n,d⟩:=I.hok a _ h;exact⟨its,r,o,b,c,n,d⟩
theorem qy7(A:Nr):A.in1.units<=A.units+1:=zA3 _
theorem qW7{P:V->V->Nat->Prop}{e:Nat->Bool}{ys:List V}{its its2:List V'}(r:Q7 xs its)(a:Q7 ys its2)(k:∀i x y u v,xs[i]?=some x->ys[i]?=some y->Q6 x u->Q6 y v->EqAt A s u v (e i)):∀j (h1:j<its.toArray.size) (h2:j<its2.toArray.size),EqAt A s its.toArray[j] its2.toArray[j] (e j):=by
 intro j h1 h2;rw[zA5] at h1 h2;have h:=r.length;have l:=a.length;obtain⟨u,b,d⟩:=r.get (i:=j) (x:=xs[j]'⋯) (by simp);obtain⟨v,c,f⟩:=a.get (i:=j) (x:=ys[j]'⋯) (by simp);have g:its.toArray[j]=u:=by
  have:its[j]?=some its[j]:=by simp[h1]
  rw[this] at b;simpa using P8 b
 have e2:its2.toArray[j]=v:=by
  have:its2[j]?=some its2[j]:=by simp[h2]
  rw[this] at c;simpa using P8 c
 rw[g,e2];exact k j _ _ u v (by simp) (by simp) d f
theorem EqD.at(I:Q9 X E D H s)(h:EqD H n x y b):∀{A:Nr}{u v:V'},Q6 x u->Q6 y v->A.units+n+1<cLine->EqAt A s u v b:=by
 induction h with
 |flat t w=>intro A u v c d _;exact qaV7 c d t w|same a=>intro A u v c d _;cases c;cases d;exact EqAt.same _|@lsts n a b xs ys e ne ha hb hl he ih=>
  intro A u v c d o;cases c;cases d;obtain⟨f,r,p⟩:=I.lstI ha;obtain⟨its2,g,j⟩:=I.lstI hb;have z:f.toArray.size=its2.toArray.size:=by rw[zA5,zA5,<-r.length,<-g.length,hl]
  have q:=EqAt.of_refs ne (RcAt.lists (A:=A) p j z ⋯ (e:=e) (qW7 (P:=λ_ _ _=>True) r g λi x y u v k e2 l m=>ih i x y k e2 l m (by have:=qy7 A;lia)));rw[zA5,<-r.length] at q;exact q
 |@lens n a b xs ys ne ha hb hl=>intro A u v c d o;cases c;cases d;obtain⟨f,r,p⟩:=I.lstI ha;obtain⟨its2,g,j⟩:=I.lstI hb;exact EqAt.of_refs ne (RcAt.lists_lengths p j (by rw[zA5,zA5,<-r.length,<-g.length];simpa using hl) ⋯)|@tups n a b xs ys e ne ha hb he ih=>intro A u v c d o;cases c;cases d;obtain⟨f,r,p⟩:=I.tupI ha;obtain⟨its2,g,j⟩:=I.tupI hb;have q:=EqAt.of_refs ne (RcAt.tuples (A:=A) p j ⋯ (e:=e) (qW7 (P:=λ_ _ _=>True) r g λi x y u v k e2 l m=>ih i x y k e2 l m (by have:=qy7 A;lia)));rw[zA5,zA5,<-r.length,<-g.length] at q;exact q
theorem RcD.at(I:Q9 X E D H s)(h:RcD H x y b)(j:Q6 x u)(c:Q6 y v)(C:A.units+60<cLine):RcAt A s u v b/\RcNeAt A s u v (!b):=by
 cases h with
 |flat B o=>cases x with|non=>(cases j;cases y with|non=>cases c;exact⟨RcAt.none_none,RcNeAt.none_none⟩|bl b=>cases c;exact⟨RcAt.none_bool b,RcNeAt.none_bool b⟩|int b=>obtain⟨t,rfl⟩:=c;exact⟨RcAt.none_int b t,RcNeAt.none_int b t⟩|str b=>obtain⟨t,rfl⟩:=c;exact⟨RcAt.none_str b t,RcNeAt.none_str b t⟩|_=>exact absurd (show false=true from o) zAn)|bl a=>(cases j;cases y with|non=>cases c;exact⟨RcAt.bool_none a,RcNeAt.bool_none a⟩|bl b=>cases c;exact⟨RcAt.bool_bool a b,RcNeAt.bool_bool a b⟩|int b=>obtain⟨t,rfl⟩:=c;exact⟨RcAt.bool_int a b t,RcNeAt.bool_int a b t⟩|str b=>obtain⟨t,rfl⟩:=c;exact⟨RcAt.bool_str a b t,RcNeAt.bool_str a b t⟩|_=>exact absurd (show false=true from o) zAn)|int a=>(obtain⟨d,rfl⟩:=j;cases y with|non=>cases c;exact⟨RcAt.int_none a d,RcNeAt.int_none a d⟩|bl b=>cases c;exact⟨RcAt.int_bool a d b,RcNeAt.int_bool a d b⟩|int b=>obtain⟨t,rfl⟩:=c;exact⟨RcAt.int_int a d b t,RcNeAt.int_int a d b t⟩|str b=>obtain⟨t,rfl⟩:=c;exact⟨RcAt.int_str a d b t,RcNeAt.int_str a d b t⟩|_=>exact absurd (show false=true from o) zAn)|str a=>(obtain⟨d,rfl⟩:=j;cases y with|non=>cases c;exact⟨RcAt.str_none a d,RcNeAt.str_none a d⟩|bl b=>cases c;exact⟨RcAt.str_bool a d b,RcNeAt.str_bool a d b⟩|int b=>obtain⟨t,rfl⟩:=c;exact⟨RcAt.str_int a d b t,RcNeAt.str_int a d b t⟩|str b=>obtain⟨t,rfl⟩:=c;exact⟨RcAt.str_str a d b t,RcNeAt.str_str a d b t⟩|_=>exact absurd (show false=true from o) zAn)|_=>exact absurd (show false=true from B) zAn
 |@lsts a b xs ys e ha hb hl he=>
  cases j;cases c;obtain⟨f,r,p⟩:=I.lstI ha;obtain⟨its2,l,g⟩:=I.lstI hb;have m:f.toArray.size=its2.toArray.size:=by rw[zA5,zA5,<-r.length,<-l.length,hl]
  have k:=qW7 (P:=λ_ _ _=>True) (e:=e) (A:=A.in1) (s:=s) r l λi x y u v q e2 w z=>(he i x y q e2).at I w z (by have:=qy7 A;lia);have n:=RcAt.lists p g m ⋯ k;have q2:=RcNeAt.lists p g m ⋯ k;rw[zA5,<-r.length] at n q2;exact⟨n,q2⟩
 |@lens a b xs ys ha hb hl=>
  cases j;cases c;obtain⟨f,r,p⟩:=I.lstI ha;obtain⟨its2,l,g⟩:=I.lstI hb;have m:(f.toArray.size != its2.toArray.size)=true:=by rw[zA5,zA5,<-r.length,<-l.length];simpa using hl
  exact⟨RcAt.lists_lengths p g m ⋯,RcNeAt.lists_lengths p g m ⋯⟩
 |@tups a b xs ys e ha hb he=>cases j;cases c;obtain⟨f,r,p⟩:=I.tupI ha;obtain⟨its2,l,g⟩:=I.tupI hb;have k:=qW7 (P:=λ_ _ _=>True) (e:=e) (A:=A.in1) (s:=s) r l λi x y u v q e2 w z=>(he i x y q e2).at I w z (by have:=qy7 A;lia);have n:=RcAt.tuples p g ⋯ k;have q2:=RcNeAt.tuples p g ⋯ k;rw[zA5,zA5,<-r.length,<-l.length] at n q2;exact⟨n,q2⟩
end
def rEqD:R2:=λx y H Q=>∃b,RcD H x y b/\Q (.bl b) H
def rNeD:R2:=λx y H Q=>∃b,RcD H x y b/\Q (.bl (!b)) H
theorem qm4(e:X.A.units+64<cLine):OpR X (M8 .Eq) rEqD:=by intro Fm s f H x y v u Q I a c ⟨b,d,q⟩;exact(d.at I a c ⋯).1 X.prog X.w X.xe _ ⟨.bl b,H,I,rfl,q⟩
theorem qh7(e:X.A.units+64<cLine):OpR X (M8 .NotEq) rNeD:=by intro Fm s f H x y v u Q I a c ⟨b,d,q⟩;exact(d.at I a c ⋯).2 X.prog X.w X.xe _ ⟨.bl (!b),H,I,rfl,q⟩
theorem qD7:∀{x:V},flatV x=true->eqV x x=true:=by intro x h;cases x with|non=>rfl|bl b=>exact zB1 b|int b=>exact zB1 b|str b=>exact zB1 b|_=>exact absurd (show false=true from h) zAn
theorem Room.u64(a:Room k A):A.units+64<cLine:=a.units
end L2
namespace L2
open PySem PySem.Spec PyProof.Rows
variable{vs:Array V'}
structure Cl(K:P')(mg:Str->Option V')(x:Str)(C:γ):Prop where
 cl:Cls K C
 m:mg x=some (.ref C)
structure Md(K:P')(C:γ)(m qual:Str)(st:Nv)(f:γ)(fd:ε)(ps:List Str):Prop where
 F:Fun K m qual st f fd
 b:Binds K fd ps []
 me:Lu K C m f
 isf:W.isFn K (.ref f)=true
theorem mdmk{K:P'}{st:Nv}{kV:V'}(l:K.lookup f=some ⟨oc,od,.func (W.fnOf m qual (qg2 st) (qd9 st) (qa4 st) .none kV d g e b j),n⟩)(c:W.codeIn K b qual=true)(k:W.keepIn K (.ref f)=true)(a:W.findIn K (.ref C) m=some (some (.ref f)))(i:W.isFn K (.ref f)=true)(h:∀(kV d g:V')(e:Option γ)(b j:V')(us:List V'),us.length=ps.length->bindArgs (W.fnOf m qual (qg2 st) (qd9 st) (qa4 st) .none kV d g e b j) ⟨us,[]⟩=pure (ps.zip us)):Md K C m qual st f (W.fnOf m qual (qg2 st) (qd9 st) (qa4 st) .none kV d g e b j) ps:=⟨qau7 l c k,(qau7 l c k).binds h,⟨a,i,k⟩,i⟩
section
variable{M:Model}{A:Nr}{E:V'->δ->Prop}{s:δ}
structure Left(h h':Heap)(f:List γ)(e T:γ)(oe:Obj)(old:Option V'):Prop where
 new:h.objs.size<=T
 keep:∀b o,h.get? b=some o->b≠e->old≠some (.ref b)->b∉f->h'.get? b=some o
 slot:∀b o,h.get? b=some o->b∈f->∃sl,h'.get? b=some {o with slots:=sl}
 there:∀b o,h.get? b=some o->∃o',h'.get? b=some o'
 exc:∃vs oT ts,h'.get? e=some {oe with data:=.fields vs}/\1<vs.size/\vs[1]?=some (.ref T)/\T≠e/\h'.get? T=some oT/\oT.data=.fields ts/\ts[3]?=some .none
theorem qaA2{o:Obj}(e:o.data=.fields vs)(g:Array V'->Array V'):Obj.mapFields g o={o with data:=.fields (g vs)}:=by obtain⟨a,b,c,d⟩:=o;cases e;rfl
theorem qP7{base:Heap}{env:Env}{outer:List Env}{L e:γ}{oe:Obj}{c:V'}{P:Bool}{old:Option V'}{Q:Unit->δ->Prop}(m:A.frames=some (env::outer))(B:s.heap.FunFrames base (env::outer))(R:env.frame=some L)(l:s.heap.get? e=some oe)(g:oe.data=.fields vs)(hsz:1<vs.size)(h:∀h' T,Left s.heap h' ((env::outer).filterMap (·.frame)) e T oe old->Q () {s with heap:=h'}):No M A (do let a<-frameOf env;let pl<-entryPlaceOf L P;let b<-EntryCells.newEntry c a .none (rawInt L) .none pl;setField (.ref e) 1 b)
 (λ_ s'=>No M A (setFlight (.ref e) none) Q E s') E s:=by
 have i:∀b o n,s.heap.get? b=some o->o.data=.fields n->b∉(env::outer).filterMap (·.frame):=λb o n p q2 q=>by obtain⟨_,W,C,S⟩:=B.mem q;rw[p] at C;cases C;exact S n q2
 refine G' (wpAny_frameOf_fun m B R λg1 p=>?_);refine G' (wpAny_entryPlaceOf λpl r=>?_);unfold EntryCells.newEntry newFields;refine G' (wpAny_newObj_type ?_ (r.sizeOk5 _ _ _ _ _));obtain⟨U,D,F⟩:=p;have G:g1.get? e=some oe:=(D e (i e oe vs l g)).trans l;generalize j:({cls:=.type "traceback",dict:=none,data:=.fields ([c,.ref L,.none,rawInt L,.none]++(if pl.isEmpty then N8 6 Pw else pl)).toArray}:Obj)=oT;have k:∃t,oT.data=.fields t/\3<t.size:=by refine⟨([c,.ref L,.none,rawInt L,.none]++(if pl.isEmpty then N8 6 Pw else pl)).toArray,by rw[<-j],?_⟩;simp only[zA5,zAb,zAm,zCo];lia
 have nf:oT.isFreed=false:=by rw[<-j];rfl
 obtain⟨t,k,H⟩:=k;have e2:=zA2 (h:=g1) oT G;refine wpAny_setField e2 g hsz ?_;have u:g1.objs.size≠e:=Nat.ne_of_gt (zA9 G);have I:=Obj.data_mapFields g (·.setIfInBounds 1 (Pu g1.objs.size));have J:=zBu (Obj.mapFields (·.setIfInBounds 1 (Pu g1.objs.size))) e2 (Obj.isFreed_of_fields I);have K:((g1.push oT).update e (Obj.mapFields (·.setIfInBounds 1 (Pu g1.objs.size)))).get? g1.objs.size=some oT:=(zBg _ _ (Ne.symm u)).trans (zAx g1 nf);unfold setFlight;refine G' (wpAny_field J I (x:=.ref g1.objs.size) (by simp[hsz]) ?_);rw[if_pos (show (Pu g1.objs.size != Pw)=true from by simp)];refine wpAny_setField K k H (h _ g1.objs.size ?_);have keep:∀b o,b≠e->g1.get? b=some o->(((g1.push oT).update e (Obj.mapFields (·.setIfInBounds 1 (Pu g1.objs.size)))).update g1.objs.size (Obj.mapFields (·.setIfInBounds 3 ((none:Option γ).elim Pw λf=>rawInt f)))).get? b=some o:=λb o v w=>by rw[zBg _ _ (Nat.ne_of_gt (zA9 w)),zBg _ _ (Ne.symm v)];exact zA2 _ w
 have N:(((g1.push oT).update e (Obj.mapFields (·.setIfInBounds 1 (Pu g1.objs.size)))).update g1.objs.size (Obj.mapFields (·.setIfInBounds 3 ((none:Option γ).elim Pw λf=>rawInt f)))).get? e=some {oe with data:=.fields (vs.setIfInBounds 1 (Pu g1.objs.size))}:=by rw[zBg _ _ u,J,qaA2 g]
 refine⟨zCd U.symm,λb o d v w V=>keep b o v ((D b V).trans d),λb o d q=>?_,λb o d=>?_,_,_,_,N,by simpa using hsz,by simp[hsz],u,zBu _ K (Obj.isFreed_of_fields (Obj.data_mapFields k _)),Obj.data_mapFields k _,by simp[H]⟩;{obtain⟨O,y⟩:=F b o d;refine⟨O,keep b _ (λz=>?_) y⟩;subst z;rw[l] at d;cases d;exact i b _ vs l g q};obtain⟨O,y⟩:=F b o d;by_cases z:b=e;{subst z;exact⟨_,N⟩};exact⟨_,keep b _ z y⟩
theorem qO2{base:Heap}{env:Env}{outer:List Env}{L e:γ}{oe:Obj}{Q:Unit->δ->Prop}(d:A.frames=some (env::outer))(p:s.heap.FunFrames base (env::outer))(r:env.frame=some L)(g:s.heap.get? e=some oe)(i:oe.data=.fields vs)(hsz:1<vs.size)(B:vs[1]?=some .none∨∃T j ts,vs[1]?=some (.ref T)/\T≠e/\s.heap.get? T=some j/\j.data=.fields ts/\ts[3]?=some .none)(h:∀h' T,Left s.heap h' ((env::outer).filterMap (·.frame)) e T oe vs[1]? -> Q () {s with heap:=h'}):No M A (noteFrame (.ref e) env) (λ_ s'=>No M A (setFlight (.ref e) none) Q E s') E s:=by
 unfold noteFrame;simp only[r];rcases B with k|⟨T,j,ts,k,t,f,c,x⟩;{refine G' (wpAny_field g i k ?_);rw[if_neg ∅];exact qP7 (old:=vs[1]?) d p r g i hsz h};refine G' (wpAny_field g i k ?_);rw[if_pos (show (Pu T != Pw)=true from by simp)];refine G' (wpAny_field f c x ?_);rw[if_neg (show ¬((Pw==rawInt L)=true) from by simp[rawInt])];have C:=(Array.getElem?_eq_some_iff.mp x).1;refine G' (wpAny_setField f c C ?_);have other:∀b,b≠T->(s.heap.update T (Obj.mapFields (·.setIfInBounds 3 Pw))).get? b=s.heap.get? b:=λb a=>zBg _ _ (Ne.symm a);have D:∀b∈(env::outer).filterMap (·.frame),b≠T:=λb l z=>by obtain⟨_,K,m,n⟩:=p.mem l;subst z;rw[f] at m;cases m;exact n ts c
 have F:(s.heap.update T (Obj.mapFields (·.setIfInBounds 3 Pw))).get? T=some {j with data:=.fields (ts.setIfInBounds 3 .none)}:=by rw[zBu _ f (Obj.isFreed_of_fields (Obj.data_mapFields c _)),qaA2 c]
 have v:(s.heap.update T (Obj.mapFields (·.setIfInBounds 3 Pw))).FunFrames base (env::outer):=p.of_keeps λb o a w=>⟨o,(other b λz=>by subst z;rw[f] at a;cases a;exact w ts c).trans a,rfl⟩;refine qP7 (s:={s with heap:=s.heap.update T (Obj.mapFields (·.setIfInBounds 3 Pw))}) (old:=vs[1]?) d v r ((other e (Ne.symm t)).trans g) i hsz λh' T' q=>h h' T' ?_;obtain⟨G,q2,m,n,H⟩:=q;refine⟨by rwa[show (s.heap.update T (Obj.mapFields (·.setIfInBounds 3 Pw))).objs.size=s.heap.objs.size from Heap.size_update _ _ _] at G,λb o a I y J=>?_,λb o a l=>m b o ((other b (D b l)).trans a) l,λb o a=>?_,H⟩;{exact q2 b o ((other b λz=>y (by rw[k,z])).trans a) I y J};by_cases z:b=T;{subst z;exact n _ _ F};exact n b o ((other b z).trans a)
end
end L2
namespace L2
open PySem PySem.Spec PyProof.Rows Builtin Builtin.ObjectAttr
variable{ox:Obj}
noncomputable def Lz:List V'->Bool|.ref _::r=>Lz r|.type n::r=>P1 n::r==[.type "ValueError",.type "Exception",.type "BaseException",.type "object"]|_=>false
theorem qU1(self:V'):∀{l:List V'},Lz l=true->refuseLoop self "__setattr__" l=pure ():=by intro l;induction l with|nil=>intro e;cases e|cons c r b=>intro e;cases c with|ref a=>rw[refuseLoop_ref];exact b e|type n=>rw[show (P1 n::r)=[.type "ValueError",.type "Exception",.type "BaseException",.type "object"] from zBm.mp e];exact F.store_ValueError.passes self|_=>cases e
structure Exc(K:P')(C:γ):Prop where
 mro:(W.clsIn K C).any (λcd=>Lz cd.mro)=true
 hd:W.hasDictIn K C=true
 kts:W.ktsIn K C "ValueError"=true
 sa:W.findIn K (.ref C) "__setattr__"=some (some (.builtin "object.__setattr__"))
 ga:W.findIn K (.ref C) "__getattribute__"=some (some (.builtin "BaseException.__getattribute__"))
 gt:W.findIn K (.ref C) "__getattr__"=some none
 be:W.mroIn K C (.type "BaseException")=some true
 ob:W.mroIn K C (.type "object")=some true
 ty:W.typeIn K (.ref C)=some (.type "type")
section
variable{prog:Nq}{w:Nt}{A:Nr}{E:V'->δ->Prop}{s:δ}{K:P'}{x C:γ}{name:Str}{v:V'}
theorem qaB2{R:Result->δ->Prop}{od:Option Obj}{a:Tok}(X:K.In s.heap)(I:W.InstAt s.heap x ox C od)(c:Exc K C)(b:W.findIn K (.ref C) name=some none)(h:No (Np prog w) A.in1 (storeInOwnDict (.ref x) (.ref C) (.str name a) name v false)
 (λfin s'=>match fin with | .done f=>R (.ok f) s' | .again c'=>c'.quiet=true/\codeAny (Np prog w) A c' R s') (λe s'=>R (.error e) s') s):codeAny (Np prog w) A (.call (.builtin "object.__setattr__") ⟨[.ref x,.str name a,v],[]⟩) R s:=by have SF:=F.store_object;obtain⟨d,g,i⟩:=W.any_some c.mro;refine codeAny_call_builtin SF.slot.plain SF.entry (@W.check_slot (Np prog w) _ _ s "object.__setattr__" "object" "__setattr__" (.ref x) [.str name a,v] [] _ SF.kind SF.split (I.type.andThen (W.looks_mroIn X c.ob)) (SF.args (.ref x) (.str name a) v) ?_);have j:W.Looks (Np prog w) s.heap (mroOf (.ref C)) d.mro:=(W.looks_clsIn X g).andThen .now;rw[W.osa_eq,refuse_eq];refine G' (G' (I.type.here (G' (j.here ?_))));rw[qU1 _ i];exact J' (G' (I.type.here (G' ((W.looks_findIn X b).here (G' (J' h))))))
theorem qaK3{Q:Unit->δ->Prop}{vs:Array V'}(X:K.In s.heap)(c:Exc K C)(i:s.heap.get? x=some ox)(a:ox.cls=.ref C)(d:ox.data=.fields vs)(f:ox.dict=none)(u:W.findIn K (.ref C) name=some none)(h:∀h' j,h'.get? x=some {ox with dict:=some s.heap.objs.size}->h'.Ns1 s.heap.objs.size (λy=>if y=name then some v else none)->(∀b o,b≠x->s.heap.get? b=some o->h'.get? b=some o)->Q () {s with heap:=h',toks:=j}):No (Np prog w) A (setAttr (.ref x) name v) Q E s:=by obtain⟨M,z,B,g⟩:=ox;dsimp only at a d f;subst a d f;have I:W.InstAt s.heap x ⟨.ref C,none,.fields vs,g⟩ C none:=⟨i,rfl,rfl,True.intro⟩;refine W.set_plain X I c.sa (qaB2 X I c u ?_);obtain⟨N,D,k⟩:=W.any_some c.hd;refine G' (J' (G' (G' (wpAny_loadPart i (G' (W.Looks.here (W.looks_clsIn X D) ?_))))));rw[k];have p:(s.heap.push {cls:=.type "dict",data:=.dict #[]}).get? x=some ⟨.ref C,none,.fields vs,g⟩:=zA2 _ i;have q:x≠s.heap.objs.size:=zAk (zA9 i);rw[if_neg (by simp[typeHasDict])];refine G' (wpAny_alloc ?_);refine G' (wpAny_update p (J' ?_));have gd:((s.heap.push {cls:=.type "dict",data:=.dict #[]}).update x λo=>{o with dict:=some s.heap.objs.size}).get? s.heap.objs.size=some {cls:=.type "dict",data:=.dict #[]}:=(Heap.get?_update_ne _ _ _ _ (Ne.symm q)).trans (Heap.get?_push_at rfl rfl);have F:((s.heap.push {cls:=.type "dict",data:=.dict #[]}).update x λo=>{o with dict:=some s.heap.objs.size}).Ns s.heap.objs.size (λ_=>none):=⟨_,#[],_,gd,rfl,λe G=>absurd G (by simp),λ_=>rfl⟩;unfold storeInDict newKeyGuard;refine G' (J' (G' (wpAny_nsSet1 (Heap.Ns1.of_empty F) λh' r t=>?_)));obtain⟨O,H,J,l,m,n⟩:=r.count (Within.cons name v Within.nil);refine G' (wpAny_lookBehind l (by rw[m];exact pastItsLine_dict (zAg n (by rw[zAm,zCo,Nd];lia))) ?_);refine J' (h h' _ ?_ r λb o L e=>?_);{exact(t.2 x q).trans (zBu _ p rfl)};exact(t.2 b (zAk (zA9 e))).trans ((Heap.get?_update_ne _ _ _ _ L).trans (zA2 _ e))
theorem qaK2{Q:Unit->δ->Prop}{vs:Array V'}{dx:γ}{mA:Str->Option V'}{ns:List Str}(X:K.In s.heap)(c:Exc K C)(p:s.heap.get? x=some ox)(a:ox.cls=.ref C)(d:ox.data=.fields vs)(f:ox.dict=some dx)(q:s.heap.Ns1 dx mA)(t:Within mA ns)(M:ns.length<=1000)(u:W.findIn K (.ref C) name=some none)(h:∀h' g,h'.Ns1 dx (λy=>if y=name then some v else mA y)->(∀b o,b≠dx->s.heap.get? b=some o->h'.get? b=some o)->Q () {s with heap:=h',toks:=g}):No (Np prog w) A (setAttr (.ref x) name v) Q E s:=by obtain⟨N,z,B,i⟩:=ox;subst a d f;obtain⟨D,j,_⟩:=qz1 q;have I:W.InstAt s.heap x ⟨.ref C,some dx,.fields vs,i⟩ C (some D):=⟨p,rfl,rfl,j⟩;refine W.set_plain X I c.sa (qaB2 X I c u ?_);obtain⟨O,F,k⟩:=W.any_some c.hd;refine G' (J' (G' (G' (wpAny_loadPart p (G' (W.Looks.here (W.looks_clsIn X F) ?_))))));rw[k];refine J' (G' (J' (G' ?_)));refine wpAny_nsSet1 q λh' r G=>?_;obtain⟨P,H,J,l,m,n⟩:=r.count (Within.cons name v t);refine G' (wpAny_lookBehind l (by rw[m];exact pastItsLine_dict (zAg n (by rw[zAm,Nd];lia))) ?_);exact J' (h h' _ r λb o L e=>(G.2 b L).trans e)
theorem qaV6{Q:V'->δ->Prop}{od:Obj}{expr:Bool}(X:K.In s.heap)(c:Exc K C)(I:W.InstAt s.heap x ox C (some od))(b:W.findObj K C (some od) name=some (.value v))(e:W.handedIn v=true)(h:∀a,Q v {s with toks:=a}):No (Np prog w) A (getAttr (.ref x) name expr) Q E s:=by
 have FB:=Qi;obtain⟨k,g,d,t,l⟩:=s;have L0:=I.type (M:=Np prog w);have L1:=W.looks_findIn (M:=Np prog w) X c.ga;have L2:=W.looks_findIn (M:=Np prog w) X c.gt;have L3:=W.looks_find (M:=Np prog w) X I b;have f:builtinKind "BaseException.__getattribute__"=some .slot:=by decide +kernel
 have i:splitId "BaseException.__getattribute__"=some ("BaseException", "__getattribute__"):=by decide +kernel
 unfold getAttr getAttrBy;refine G' (wpAny_mkText (M' (G' (L0.at (G' (L1.at ?_))))));dsimp only;have j:(Py "BaseException.__getattribute__"==Py "object.__getattribute__")=false:=by decide +kernel
 rw[j,Bool.and_false,if_neg zAn];unfold getAttrByItsOwn hookBefore;refine G' ?_;rw[if_pos (by rfl)];refine L2.at ?_;unfold callGetattribute boundAndCalled;rw[if_neg (by cases expr<;>decide)];refine G' (wpAny_attempt (M' ?_));rw[FB.ga.bind (.ref x)];refine G' (J' (wpAny_call ?_));refine codeAny_call_builtin FB.ga.plain Qr (@W.check_slot (Np prog w) _ _ _ "BaseException.__getattribute__" "BaseException" "__getattribute__" (.ref x) [.str name t] [] _ f i (L0.andThen (W.looks_mroIn X c.be)) (Qs (.ref x) (.str name t)) ?_);unfold Builtin.«object.__getattribute__»;refine G' (J' (G' (J' (G' (L0.at (G' (L3.at ?_)))))));refine J' ?_;show No _ _ (handedOut v) _ _ _;rw[W.handedOut_of e];exact J' (h _)
end
end L2
namespace L2
open PySem PySem.Spec PyProof.Rows
variable{Q:Unit->δ->Prop}{fr:Bool}{xe:V'->δ->Prop}
noncomputable abbrev mroVE:List V':=[.type "ValueError",.type "Exception",.type "BaseException",.type "object"]
def Jc(K:P')(C:γ):Bool:=W.ktsIn K C "ValueError" && (K.lookup C).any λo=>o.slots.toList[4]?==some (some (.builtin "ValueError.__new__"))&&(match o.data with|.cls cd=>W.tailIn K mroVE cd.mro.tail|_=>false)
theorem qao0{K:P'}{h:Heap}{C:γ}(X:K.In h)(q:Jc K C=true):∃f g N bs d a i sub j b k l m p r s,
 h.get? C=some (excClassObj f g C N bs d a i sub j b k l m p r s "ValueError.__new__")/\OwnTail h mroVE d:=by unfold Jc at q;rw[zBb] at q;obtain⟨f,g,N,bs,d,a,i,sub,j,b,k,l,m,p,r,s,n,t,_⟩:=W.kts_cls X q.1;have q2:=q.2;rw[Option.any_eq_true] at q2;obtain⟨o,u,q2⟩:=q2;have e:=(X _ _ u).symm.trans t;injection e with e;subst e;rw[zBb] at q2;have c:=eq_of_beq q2.1;injection c with c;injection c with c;injection c with c;subst c;exact⟨f,g,N,bs,d,a,i,sub,j,b,k,l,m,p,r,s,t,W.tail_of_in X q2.2⟩
section
variable{prog:Nq}{w:Nt}{A:Nr}{K:P'}{C R:γ}{h:Heap}{g:Array GenState}{d:Drawn}{t:Nat}{S:OsState}
theorem qav5{rest:List V'}{Q:Fin->δ->Prop}{E:V'->δ->Prop}(X:K.In h)(m:Jc K C=true)(hi:W.findIn K (.ref C) "__init__"=some (some (.ref R)))(i:W.typeIn K (.ref R)=some (.type "function"))(hrest:rest.length<=M7)(j:No (Np prog w) A (call (.ref R) (.ref (h.objs.size+1)::rest)) (λr s'=>r=.none/\Q (.done (.ret (.ref (h.objs.size+1)))) s') E
 ⟨(h.push {cls:=.type "tuple",data:=.seq rest.toArray}).push {cls:=.ref C,data:=.fields #[.ref h.objs.size,.none,.none,.none,.bool false,.none]},g,d,t,S⟩):No (Np prog w) A (Builtin.«type.__call__» ⟨.ref C::rest,[]⟩) Q E ⟨h,g,d,t,S⟩:=by
 have F:=PySem.F.excBase_ValueError;obtain⟨v,x,N,y,k,f,B,sub,D,l,G,H,I,J,L,O,a,T⟩:=qao0 X m;repeat (first|with_reducible refine Ng a ?_|with_reducible refine wpAny_madeBy_exc a ?_|wp_step)
 refine codeAny_call_builtin_code (Code.quiet_builtin _ F.quiet) (wpAny_check_new_subT F T a ?_);refine codeAny_exc_new_subT F T a ?_ hrest;show No _ _ _ _ _ _;have c:∀b o,h.get? b=some o->((h.push {cls:=.type "tuple",data:=.seq rest.toArray}).push {cls:=.ref C,data:=.fields #[.ref h.objs.size,.none,.none,.none,.bool false,.none]}).get? b=some o:=λb o e=>zA2 _ (zA2 _ e);have n:=c _ _ a;have p:((h.push {cls:=.type "tuple",data:=.seq rest.toArray}).push {cls:=.ref C,data:=.fields #[.ref h.objs.size,.none,.none,.none,.bool false,.none]}).get? (h.objs.size+1)=some {cls:=.ref C,data:=.fields #[.ref h.objs.size,.none,.none,.none,.bool false,.none]}:=by heap_get
 have q:(Pu C::k).contains (.ref C)=true:=by simp
 unfold isInstance;repeat (first|with_reducible refine Ng p ?_|(with_reducible refine wpAny_isSubtype_exc n ?_;rw[q])|wp_step)
 show No _ _ (typeLookup (.ref C) _) _ _ _;have s:=(W.looks_findIn (M:=Np prog w) X hi).keeps c;have u:=(W.bind_fn (M:=Np prog w) X (.ref (h.objs.size+1)) i).keeps c;refine s.at (M' (G' (u.at (G' (Nj j (λr s' z=>?_) λ_ _ z=>z)))));obtain⟨rfl,z⟩:=z;exact J' (J' z)
theorem qaK4{rest:List V'}{Q E:V'->δ->Prop}(X:K.In h)(m:Jc K C=true)(hi:W.findIn K (.ref C) "__init__"=some (some (.ref R)))(c:W.typeIn K (.ref R)=some (.type "function"))(hrest:rest.length<=M7)(e:No (Np prog w) (A.under (.builtin "type.__call__" ⟨.ref C::rest,[]⟩)) (call (.ref R) (.ref (h.objs.size+1)::rest)) (λr s'=>r=.none/\Q (.ref (h.objs.size+1)) s') E
 ⟨(h.push {cls:=.type "tuple",data:=.seq rest.toArray}).push {cls:=.ref C,data:=.fields #[.ref h.objs.size,.none,.none,.none,.bool false,.none]},g,d,t,S⟩):No (Np prog w) A (call (.ref C) rest) Q E ⟨h,g,d,t,S⟩:=by
 obtain⟨i,j,N,k,l,b,n,sub,o,f,p,q,s,u,v,x,a,T⟩:=qao0 X m;have f1:=tc_lookup;have f2:=tc_bind (.ref C);have y:(⟨h,g,d,t,S⟩:δ).TypeIs (.ref C) "type" := ⟨_,a,rfl⟩;refine wpAny_call (codeAny_of_tree ?_);repeat (any_goals (first|assumption|with_reducible refine Ng a ?_|wp_step))
 exact⟨rfl,(codeAny_call_builtin_at (Code.quiet_builtin _ (by decide +kernel)) entry_typeCall (wpAny_check_type_call_sub a (qav5 X m hi c hrest e)))⟩
end
section
variable{M:Model}{A:Nr}{E:V'->δ->Prop}{s:δ}{env:Env}
theorem qai6{K:P'}{x:Sem V'}{Q:Flow->δ->Prop}(l:A.handled=none)(h:No M A x (λv s₁=>∃e oe vs C,v=.ref e/\K.In s₁.heap/\Exc K C/\s₁.heap.get? e=some oe/\oe.cls=.ref C/\oe.data=.fields vs/\vs[1]?=some .none/\E (.ref e) s₁) E s):No M A (raiseStmt env (some x) none) Q E s:=by
 unfold raiseStmt;refine G' (Nj h (λv s₁ q=>?_) λ_ _ x=>x);obtain⟨e,oe,vs,C,rfl,X,c,i,a,b,m,n⟩:=q;obtain⟨y,o,p,r⟩:=oe;subst a b;obtain⟨z,B,N,D,t,j,F,sub,G,u,H,I,J,L,O,P,newId,k,w,_⟩:=W.kts_cls X c.kts;obtain⟨R,g,d,S,T⟩:=s₁;have f:(Pu C::t).contains (.type "BaseException")=true:=by rw[O9,w,Bool.or_true]
 repeat (first|with_reducible refine Ng i ?_|with_reducible refine Ng k ?_|(with_reducible refine wpAny_isSubtype_exc k ?_;rw[f])|with_reducible refine wpAny_field i rfl m ?_|wp_step)
 exact wpAny_raiseNew_none l n
theorem qav7{K:P'}{e C D:γ}{oe:Obj}{b:Bool}{Q:Bool->δ->Prop}(X:K.In s.heap)(d:Exc K D)(k:s.heap.get? e=some oe)(a:oe.cls=.ref C)(hm:W.mroIn K C (.ref D)=some b)(h:Q b s):No M A (excMatches (.ref e) (.ref D)) Q E s:=by
 obtain⟨o,p,N,q,l,i,r,sub,t,m,u,v,w,x,y,z,newId,j,n,_⟩:=W.kts_cls X d.kts;obtain⟨B,g,F,G,H⟩:=s;have c:(Pu D::l).contains (.type "BaseException")=true:=by rw[O9,n,Bool.or_true]
 have f:=tc_notTuple;unfold excMatches;repeat (first|(with_reducible refine Ng k ?_;rw[a])|with_reducible refine Ng j ?_|(with_reducible refine wpAny_isSubtype_exc j ?_;rw[c])|with_reducible refine(W.looks_mroIn X hm).at ?_|wp_step)
 cases b<;>(wp_walk;exact h)
end
def L5(e C:γ)(od:Option γ)(fr:Bool)(h:Heap):Prop:=∃oe vs,h.get? e=some oe/\oe.cls=.ref C/\oe.dict=od/\oe.data=.fields vs/\1<vs.size/\(fr=true->vs[1]?=some .none)
noncomputable abbrev Bm(e C:γ)(od:Option γ)(fr:Bool):HO:=.ext (L5 e C od fr)
def xdIs(d:γ)(fs:List (Str×V))(h:Heap):Prop:=∃mA,h.Ns1 d mA/\(∀f,RelO (fs.lookup f) (mA f))/\PySem.Within mA (fs.map (·.1))/\fs.length<=1000
abbrev XD(d:γ)(fs:List (Str×V)):HO:=.ext (xdIs d fs)
section
variable{P:Nq}{w:Nt}{H:Hp}{h:Heap}
theorem qav6{e C:γ}{od:Option γ}(q:L5 e C od fr h):ObjOk P w H h e (Bm e C od fr):=⟨q,let ⟨c,_,a,_⟩:=q;⟨c,a⟩,λf g ⟨c,d,a,b⟩ k=>⟨c,d,k _ a,b⟩⟩
theorem xd_ok{d:γ}{fs:List (Str×V)}(q:xdIs d fs h):ObjOk P w H h d (XD d fs):=⟨q,let ⟨_,⟨o,_,_,a,_⟩,_⟩:=q;⟨o,a⟩,λg i ⟨c,⟨o,e,f,a,r⟩,b⟩ k=>⟨c,⟨o,e,f,k _ a,r⟩,b⟩⟩
theorem qV7{e C:γ}{od:Option γ}(a:HOk P w H h)(q:H e=some (Bm e C od fr)):L5 e C od fr h:=(a e _ q).1
theorem L6{d:γ}{fs:List (Str×V)}(a:HOk P w H h)(q:H d=some (XD d fs)):xdIs d fs h:=(a d _ q).1
end
section
variable{X:Cx}{Fm:List (γ×Obj)}{σ:St}{H:Hp}{s:δ}{a C dx:γ}{fs:List (Str×V)}{f:Str}{v:V}{A:Nr}{E:V'->δ->Prop}
theorem qaK6{y:V}{u:V'}(I:Q9 X Fm σ H s)(e:H a=some (Bm a C none true))(c:Exc X.K C)(n:qd1 X.K C f)(J:Q6 y u)(h:∀dx s',H dx=none->dx≠a->Q9 X Fm σ (upd (upd H dx (XD dx [(f,y)])) a (Bm a C (some dx) true)) s'->Q () s'):No (Np X.prog X.w) A (setAttr (.ref a) f u) Q E s:=by obtain⟨W,L,v,x,M,B,N,O⟩:=qV7 I.hok e;refine qaK3 I.kIn c v x B M n λY p D q2 m=>?_;have P:a≠s.heap.objs.size:=zAk (zA9 v);have k:H s.heap.objs.size=none:=I.hok.fresh (zA3 _);have R:∀b o,s.heap.get? b=some o->b≠s.heap.objs.size:=λb o z=>zAk (zA9 z);refine h s.heap.objs.size _ k (Ne.symm P) (I.un (t':=p) ⟨λb o z i _ _=>m b o (λd=>?_) z,λb o z i _ _=>⟨o.slots,m b o (λd=>?_) z⟩,λb o z i _=>?_,λb o z _=>?_,λb F z=>?_,λb Z F z=>?_,λb ps z=>?_⟩ λb S z=>?_);{rw[d,e] at i;cases i};{rw[d,e] at i;cases i};{rw[qc0 (λd=>by rw[d,e] at i;cases i),qc0 (R b o z)];exact i};{by_cases d:b=a;{rw[d];exact⟨_,D⟩};exact⟨o,m b o d z⟩};{rw[qc0 (λd=>by rw[d,e] at z;cases z),qc0 (qc9 z k)];exact z};{rw[qc0 (λd=>by rw[d,e] at z;cases z),qc0 (qc9 z k)];exact z};{exact⟨#[],by rw[qc0 (λd=>by rw[d,e] at z;cases z),qc0 (qc9 z k)];simpa using z⟩};by_cases q:b=a;{subst q;rw[qb7] at z;cases z;exact qav6 ⟨_,L,D,x,rfl,B,N,O⟩};rw[qc0 q] at z;by_cases G:b=s.heap.objs.size;{subst G;rw[qb7] at z;cases z;refine xd_ok ⟨_,q2,λg=>?_,λg T=>?_,by simp⟩;{show RelO (([(f,y)]:List (Str×V)).lookup g) (if g=f then some u else none);by_cases l:g=f;{subst l;rw[if_pos rfl];simp only[Oa,zB1];exact J};have:(g==f)=false:=zBl.mpr l;simp[Oa,this,l,RelO]};by_cases l:g=f;{simp[l]};exact absurd (by show (if g=f then some u else none)=none;rw[if_neg l]) T};rw[qc0 G] at z;refine(I.hok b S z).stay (λt U j r=>m t U ?_ r) (λt r=>?_) λt F r=>?_;{rcases j with rfl|j;{exact q};intro d;rw[d,e] at j;cases j};{rw[qc0 (λd=>by rw[d,e] at r;cases r),qc0 (qc9 r k)];exact r};rw[qc0 (λd=>by rw[d,e] at r;cases r),qc0 (qc9 r k)];exact r
theorem qaK5{y:V}{u:V'}(I:Q9 X Fm σ H s)(e:H a=some (Bm a C (some dx) true))(b:H dx=some (XD dx fs))(D:fs.length<1000)(c:Exc X.K C)(n:qd1 X.K C f)(k:Q6 y u)(h:∀s',Q9 X Fm σ (upd H dx (XD dx (Bp f y fs))) s'->Q () s'):No (Np X.prog X.w) A (setAttr (.ref a) f u) Q E s:=by obtain⟨F,G,l,m,p,t,J,L⟩:=qV7 I.hok e;obtain⟨d,v,r,i,_⟩:=L6 I.hok b;refine qaK2 I.kIn c l m t p v i (by rw[zAe];lia) n λM x j q2=>h _ ?_;refine I.write (by rw[b];exact True.intro) (.inl rfl) q2 (let ⟨o,_,_,z,_⟩:=j;⟨o,z⟩) (xd_ok ⟨_,j,λg=>?_,λg B=>?_,?_⟩);{show RelO ((Bp f y fs).lookup g) (if g=f then some u else d g);rw[qw9];by_cases q:g=f;{rw[if_pos q,if_pos q];exact k};rw[if_neg q,if_neg q];exact r g};{by_cases q:g=f;{rw[q];exact(qt7 f y fs).1};refine(qt7 f y fs).2 g (i g λz=>B ?_);show (if g=f then some u else d g)=none;rw[if_neg q];exact z};have:=qx0 f y fs;lia
theorem qaW2{b:Bool}{Q:V'->δ->Prop}(I:Q9 X Fm σ H s)(e:H a=some (Bm a C (some dx) fr))(i:H dx=some (XD dx fs))(c:Exc X.K C)(n:qd1 X.K C f)(l:fs.lookup f=some v)(h:∀u s',Q9 X Fm σ H s'->Q6 v u->Q u s'):No (Np X.prog X.w) A (getAttr (.ref a) f b) Q E s:=by obtain⟨j,F,k,m,o,p,_⟩:=qV7 I.hok e;obtain⟨G,q,r,J,_⟩:=L6 I.hok i;obtain⟨u,t,g⟩:=RelO.some_of (by rw[<-l];exact r f);obtain⟨L,x,d⟩:=qz1 q;obtain⟨M,y,z,B⟩:=j;subst m o p;exact qaV6 I.kIn c (⟨k,rfl,rfl,x⟩) (W.findObj_own c.hd n rfl (by rw[d,t])) (qY9 g) λD=>h u _ (I.tok D) g
end
structure Fly(n:Nat)(H:Hp)(h:Heap)(a:γ):Prop where
 ge:n<=a
 tr:∃C od,H a=some (Bm a C od false)
 ob:∃oe vs,h.get? a=some oe/\oe.data=.fields vs/\1<vs.size/\(vs[1]?=some .none∨∃T oT ts,vs[1]?=some (.ref T)/\n<=T/\H T=none/\T≠a/\h.get? T=some oT/\oT.data=.fields ts/\ts[3]?=some .none)
theorem Fly.mono{m n:Nat}{H:Hp}{h:Heap}{a:γ}(F:Fly n H h a)(l:m<=n):Fly m H h a:=by obtain⟨b,c,d,e,f,g⟩:=F.ob;refine⟨zAg l F.ge,F.tr,b,c,d,e,f,?_⟩;rcases g with z|⟨T,i,j,k,o,z⟩;{exact .inl z};exact .inr ⟨T,i,j,k,zAg l o,z⟩
def CX1(P:Nq)(w:Nt):CXT:=λouter H s E e s'=>∃a H',e=.ref a/\s'.os=s.os/\AllBare s'.gens/\Un (frs outer) [] H H' s.heap s'.heap/\HOk P w H' s'.heap/\Fly s.heap.objs.size H' s'.heap a/\E e none H'
structure Old(X:Cx)(Fm:List (γ×Obj))(n:Nat):Prop where
 st:X.s₀.heap.objs.size<=n
 loc:X.env.locals<n
 cell:∀x c,X.env.cells.lookup x=some c->c<n
 pin:∀p∈X.pn++Fm,p.1<n
theorem Q9.old{X:Cx}{Fm:List (γ×Obj)}{b:St}{H:Hp}{s:δ}(I:Q9 X Fm b H s):Old X Fm s.heap.objs.size:=⟨I.sz,I.lt,λx c e=>let ⟨_,_,z,_⟩:=I.cell x c e;zA9 z,λp a=>zA9 (I.pin p a).1⟩
noncomputable def Jd:Option V'->List γ|some (.ref b)=>[b]|_=>[]
section
variable{X:Cx}{Fm:List (γ×Obj)}{σ:St}{H:Hp}{s:δ}{a T:γ}{n:Nat}{h':Heap}{oe:Obj}{vs:Array V'}
theorem Q9.left(I:Q9 X Fm σ H s)(F:Fly n H s.heap a)(O:Old X Fm n)(m:s.heap.get? a=some oe)(N:oe.data=.fields vs)(L:Left s.heap h' (frs X.stack) a T oe vs[1]?):Q9 X Fm σ H {s with heap:=h'}/\Fly n H h' a:=by
 obtain⟨C,P,i⟩:=F.tr;obtain⟨t,y,D,q2,q3,E⟩:=F.ob;rw[m] at D;cases D;rw[N] at q2;cases q2;obtain⟨G,Q,R,J,e2,S,V,W,Y,Z⟩:=L.exc;have j:∀b,vs[1]?=some (.ref b)->n<=b/\H b=none/\b≠a:=λb z=>by rcases E with q|⟨T',_,_,q,r1,r2,r3,_⟩;{rw[q] at z;cases z};rw[q] at z;cases z;exact⟨r1,r2,r3⟩
 have A:HOk X.prog X.w H h':=λb u f=>by by_cases z:b=a;{subst z;rw[i] at f;cases f;obtain⟨t,y,p1,p2,p3,p4,p5,p6⟩:=qV7 I.hok i;rw[m] at p1;cases p1;exact qav6 ⟨_,G,J,p2,p3,rfl,e2,λz=>nomatch z⟩};have K:∀c,H c≠none->c∉frs X.stack:=λc d hm=>d (I.stkFree c hm);refine(I.hok b u f).stay (λc v d r=>L.keep c v r ?_ (λh=>?_) ?_) (λ_ z=>z) λ_ _ z=>z;{rcases d with rfl|d;{exact z};intro h;rw[h,i] at d;cases d};{have:=(j c h).2.1;rcases d with rfl|d;{rw[this] at f;cases f};rw[this] at d;cases d};rcases d with rfl|d;{exact K c (by rw[f];exact λz=>nomatch z)};exact K c (by rw[d];exact λz=>nomatch z)
 refine⟨?_,F.ge,⟨C,P,i⟩,_,G,J,rfl,e2,.inr ⟨T,Q,R,S,zAg (zAg F.ge (zBc (zA9 m))) L.new,I.hok.fresh L.new,V,W,Y,Z⟩⟩;have k:∀b,b∈Jd vs[1]? ↔ vs[1]?=some (.ref b):=λb=>by rcases E with q|⟨T',_,_,q,_⟩;{rw[q];simp[Jd]};rw[q];simp[Jd,eq_comm]
 have U:Un (frs X.stack) (Jd vs[1]?) H H s.heap h':=by refine⟨λb o z l B M=>L.keep b o z (λh=>?_) (λh=>M ((k b).mpr h)) B,λb o z l B M=>L.slot b o z B,λ_ _ _ l _=>l,λb o z _=>L.there b o z,λ_ _ z=>z,λ_ _ _ z=>z,λb ps z=>⟨#[],by rw[z];simp⟩⟩;rw[h,i] at l;cases l
 exact I.call (g':=s.gens) (t':=s.toks) (d':=s.drawn) (ch:=Jd vs[1]?) U A I.bare λb f=>by have g:=(j b ((k b).mp f)).1;refine⟨.inr (zAg O.st g),Nat.ne_of_gt (zAc O.loc g),λx c e=>zAk (zAc (O.cell x c e) g),λp hp=>zAk (zAc (O.pin p hp) g)⟩
end
def Lands(X:Cx)(E:St->XK):Prop:=∀(Fm:List (γ×Obj))(b:St)(H:Hp)(s:δ)(a:γ)(n:Nat),Q9 X Fm b H s->Fly n H s.heap a->Old X Fm n->E b (.ref a) none H->X.xe (.ref a) s
theorem Lands.passes{X:Cx}{E:St->XK}(h:Lands X E):qQ4 (CX1 X.prog X.w) X E:=λFm g H s e b I q=>by
 obtain⟨a,H',rfl,c,d,u,f,F,q⟩:=q;exact h Fm g H' b a _ (I.call' c u f d λ_ z=>nomatch z) F I.old q
theorem qa0{cm:Bool}{P:Nq}{w:Nt}{K:P'}{mg:Str->Option V'}{base:Heap}{N:List Str}{qual:Str}{scope:Scope}{f:γ}{cd:V'}{A:Nr}{outer:List Env}{s₀:δ}{H₀:Hp}{E:XK}:Lands (Gz cm (CX1 P w) P w K mg base N qual scope f cd A outer s₀ H₀ E) (λ_=>E):=λFm t H s a n I F O q=>by
 obtain⟨o,p,b,c,d,e⟩:=id F.ob;show No _ _ (leaving _ _) _ _ s;unfold leaving;refine G' (qO2 I.ok.frames I.stack rfl b c d ?_ λr T L=>?_)
 .rcases e with z|⟨T,g,h,i,_,_,j,k,l,m⟩
  .exact .inl z
  exact .inr ⟨T,g,h,i,j,k,l,m⟩
 obtain⟨J,F'⟩:=I.left F O b c L;exact⟨a,H,rfl,J.os,J.bare,J.base,J.hok,F'.mono O.st,q⟩
section
variable{X:Cx}{o e B:Nu}{pos pos':Pos}{E tv:TE}{f:Str}
def sEF(K:P')(E tv:TE)(f:Str):TS:=λD A H=>tv A H λy H1=>E A H1 λx H2=>∃a C,x=.ref a/\Exc K C/\qd1 K C f/\((H2 a=some (Bm a C none true)/\∀dx,H2 dx=none->dx≠a->D.nx A (upd (upd H2 dx (XD dx [(f,y)])) a (Bm a C (some dx) true)))
  ∨ ∃dx fs,H2 a=some (Bm a C (some dx) true)/\H2 dx=some (XD dx fs)/\fs.length<1000/\D.nx A (upd H2 dx (XD dx (Bp f y fs))))
theorem qaz3(g:PE X o E)(i:PE X B tv)(j:swapsWith B (some (.Attribute o f pos')) pos.line X.env=pure false:=by rfl):PS X (.Assign [.Attribute o f pos'] B pos) (sEF X.K E tv f):=by intro Fm s A H D I h;refine plainObj_wpAny_Assign_Attribute (thn (i Fm s A H _ I h) λu k b=>?_) j;obtain⟨y,H1,I1,d,q⟩:=b;refine thn (g Fm k A H1 _ I1 q) λl w b=>?_;obtain⟨x,H2,I2,m,a,C,p,c,n,q2⟩:=b;subst p;obtain rfl:l=Pu a:=m;rcases q2 with⟨ea,q2⟩|⟨e,fs,ea,ed,hl,q2⟩;{exact qaK6 I2 ea c n d λe r t v I3=>⟨A,_,I3,q2 e t v⟩};exact qaK5 I2 ea ed hl c n d λr I3=>⟨A,_,I3,q2⟩
def tEF(K:P')(E:TE)(f:Str):TE:=λA H Q=>E A H λx H1=>∃a C dx fr fs v,x=.ref a/\H1 a=some (Bm a C (some dx) fr)/\H1 dx=some (XD dx fs)/\Exc K C/\qd1 K C f/\fs.lookup f=some v/\Q v H1
theorem qaP8(d:PE X e E)(g:Nc e f X.env (eval e X.env)=eval e X.env:=by rfl):PE X (.Attribute e f pos) (tEF X.K E f):=by intro Fm s A H Q I h;refine qaC0 g (thn (d Fm s A H _ I h) λu p b=>?_);obtain⟨x,H1,I1,i,a,C,r,t,w,v,j,k,m,c,n,l,q⟩:=b;subst j;obtain rfl:u=Pu a:=i;exact qaW2 I1 k m c n l λy z I2 o=>⟨v,H1,I2,o,q⟩
theorem qaP7{x:Str}(C:γ){pos:Pos}(hm:X.mg x=some (.ref C))(a:Gl X x:=by rfl)(b:N' x:=by decide):PE X (.Name x pos) (tC (.ref C)):=qaj4 a hm rfl b
end
structure MkE(K:P')(C f:γ):Prop where
 exc:Exc K C
 mke:Jc K C=true
 init:W.findIn K (.ref C) "__init__"=some (some (.ref f))
 fn:W.isFn K (.ref f)=true
 kp:W.keepIn K (.ref C)=true
def qaY7(C:γ)(sp:Sp)(E:St->XK)(t:TA):TS:=λD c H=>t c H λvs H1=>vs.length<=1000/\∀a,H1 a=none->sp (.ref a::vs) (upd H1 a (Bm a C none true)) (λv H2=>v=.non/\∃b,H2 a=some (Bm a C b true)/\E c (.ref a) none (upd H2 a (Bm a C b false))) E0
section
variable{X:Cx}{k:Nat}{f C:γ}{fd:ε}{ps:List Str}{sp:Sp}{E:St->XK}{x:Str}{np cpos pos:Pos}{e:Nu}{es:List Nu}{t:TA}
theorem qaF0(M:MkE X.K C f)(F:Fx X.prog X.w X.K X.mg X.base CX0 k f fd ps sp)(J:Room (k+1) X.A)(hm:X.mg x=some (.ref C))(T:Binds X.K fd ps [])(U:Lands X E)(Y:PA X (e::es) t)(Z:Gl X x:=by rfl)(l:N' x:=by decide)(he:M6 (e::es) X.env=(false,eval e X.env)::M6 es X.env:=by rfl)(m:(backTo cpos (M6 es X.env)).any (·.1)=false:=by rfl):PS X (.Raise (some (.Call (.Name x np) (e::es) [] cpos)) none pos) (qaY7 C sp E t):=by
 intro Fm s σ H D I h;rw[arm_exec_Raise];refine G' (wpAny_standAt (qai6 (K:=X.K) (J.hd rfl) ?_));refine G' (wpAny_Call_Name_kw (qO3 I Z hm ?_ l));refine W.callWith_K (h₀:=X.base) I.ok.mod.kin M.kp (thn (Y cpos Fm s σ H _ I h) λd s1 n=>?_) he m;obtain⟨vs,H1,I1,r,hz,q⟩:=n;refine⟨I1.kIn,?_⟩;obtain⟨c,g1,d1,t1,o1⟩:=s1;show No _ _ (call (.ref C) d) _ _ _;refine qaK4 I1.kIn M.mke M.init (zBm.mp M.fn) (by rw[<-r.length,Nd];lia) ?_;have nz:H1 (c.objs.size+1)=none:=I1.hok.fresh (Nat.le_succ _);have L:=q (c.objs.size+1) nz;have I2:=I1.kept (h':=c.push {cls:=.type "tuple",data:=.seq d.toArray}) (t':=t1) λb u z=>zA2 _ z;have g2:((c.push {cls:=.type "tuple",data:=.seq d.toArray}).push {cls:=.ref C,data:=.fields #[.ref c.objs.size,.none,.none,.none,.bool false,.none]}).get? (c.objs.size+1)=some {cls:=.ref C,data:=.fields #[.ref c.objs.size,.none,.none,.none,.bool false,.none]}:=by heap_get
 have I3:=I2.laid (a:=c.objs.size+1) (o:=Bm (c.objs.size+1) C none true) (t':=t1)
  (λb u z=>zA2 _ z) (zCd (Heap.size_push _ _)) (qav6 ⟨_,_,g2,rfl,rfl,rfl,by simp,λ_=>by simp⟩)
 have N:Q7 (V.ref (c.objs.size+1)::vs) (Pu (c.objs.size+1)::d):=.cons rfl r;have p:((Pu (c.objs.size+1)::d)++[]).length=ps.length:=by rw[zAa,<-N.length];exact F.len _ _ _ _ L
 have g:=T _ (Pu (c.objs.size+1)::d) I3.kIn p;rw[zAa] at g;refine wpAny_call (codeAny_mono (F.run _ X.stack _ _ ⟨Pu (c.objs.size+1)::d,[]⟩ (Pu (c.objs.size+1)::d) _ _ E0 (J.make C d []) (I3.env0.make C d []) g N L) λy i z=>?_);cases y with|error e=>exact z.elim|ok fl=>cases fl with|ret u=>obtain⟨v,H',I4,rv,ev,O,P,q4⟩:=I3.after z;subst ev;refine⟨rv,?_⟩;refine G' (wpAny_standAt (J' ?_));obtain⟨j,B,p1,Q,p3,G,R,S⟩:=qV7 I4.hok P;refine⟨c.objs.size+1,j,B,C,rfl,I4.kIn,M.exc,p1,Q,G,S rfl,?_⟩;have I5:Q9 X Fm σ (upd H' (c.objs.size+1) (Bm (c.objs.size+1) C O false)) i:=I4.write (x:=c.objs.size+1) (e:=c.objs.size+1) (h':=i.heap) (t':=i.toks) (by rw[P];exact True.intro) (.inl rfl) (λ_ _ _ z=>z) ⟨j,p1⟩ (qav6 ⟨j,B,p1,Q,p3,G,R,λz=>nomatch z⟩);exact U Fm σ _ i (c.objs.size+1) c.objs.size I5 ⟨Nat.le_succ _,⟨C,O,qb7⟩,j,B,p1,G,R,.inl (S rfl)⟩ I1.old q4|next=>exact Qv z|brk=>exact Qv z|cont=>exact Qv z
end
noncomputable def Xt(X:Cx)(xe:V'->δ->Prop)(pn:List (γ×Obj)):Cx:={X with xe:=xe,pn:=pn}
noncomputable def Xh(X:Cx)(a:γ):Cx:={X with A:=X.A.mark (some (.ref a)),calm:=false,xe:=λ_ _=>False}
section
variable{X:Cx}{Fm:List (γ×Obj)}{σ:St}{H:Hp}{s:δ}{a:γ}{n:Nat}
theorem Cx.Ok.t{b:List (γ×Obj)}(a:X.Ok):(Xt X xe b).Ok:=⟨a.mod,a.kind,a.glob,a.blt,a.above,a.inj,a.has,a.cab,a.hd,a.frames,a.stk,a.exf,a.bs,a.bsz,a.noex,a.exfs,a.funs,a.frf⟩
theorem Cx.Ok.h(b:X.Ok):(Xh X a).Ok:=⟨b.mod,b.kind,b.glob,b.blt,b.above,b.inj,b.has,b.cab,λz=>(by cases z),b.frames,b.stk,b.exf,b.bs,b.bsz,b.noex,b.exfs,b.funs,b.frf⟩
theorem Q9.t(I:Q9 X Fm σ H s):Q9 (Xt X xe (X.pn++Fm)) [] σ H s:=⟨I.ok.t,I.os,I.bare,I.base,I.loc,I.cell,I.free,I.freeC,λp a=>I.pin p (by rw[zAa] at a;exact a),I.hok,I.len⟩
theorem Q9.unt{pins':List (γ×Obj)}(a:X.Ok)(I:Q9 (Xt X xe (X.pn++Fm)) pins' σ H s):Q9 X Fm σ H s:=⟨a,I.os,I.bare,I.base,I.loc,I.cell,I.free,I.freeC,λp b=>I.pin p (zC7 _ b),I.hok,I.len⟩
theorem Q9.h(I:Q9 X Fm σ H s):Q9 (Xh X a) Fm σ H s:=⟨I.ok.h,I.os,I.bare,I.base,I.loc,I.cell,I.free,I.freeC,I.pin,I.hok,I.len⟩
theorem Q9.unh(b:X.Ok)(I:Q9 (Xh X a) Fm σ H s):Q9 X Fm σ H s:=⟨b,I.os,I.bare,I.base,I.loc,I.cell,I.free,I.freeC,I.pin,I.hok,I.len⟩
theorem qav0{M:Model}{A:Nr}{E:V'->δ->Prop}(I:Q9 X Fm σ H s)(F:Fly n H s.heap a)(O:Old X Fm n)(h:∀s',Q9 X Fm σ H s'->Fly n H s'.heap a->Q () s'):No M A (setFlight (.ref a) none) Q E s:=by obtain⟨v,w,g,i,y,B⟩:=F.ob;unfold setFlight;rcases B with z|⟨T,G,J,l,d,m,r,t,j,C⟩;{refine G' (wpAny_field g i z ?_);rw[if_neg ∅];exact J' (h s I F)};refine G' (wpAny_field g i l ?_);rw[if_pos (show (Pu T != Pw)=true from by simp)];have u:=(Array.getElem?_eq_some_iff.mp C).1;refine wpAny_setField t j u ?_;have other:∀b,b≠T->(s.heap.update T (Obj.mapFields (·.setIfInBounds 3 ((none:Option γ).elim Pw λf=>rawInt f)))).get? b=s.heap.get? b:=λb k=>zBg _ _ (Ne.symm k);exact h _ (I.turned (λb o k q=>(other b k).trans q) m (Nat.ne_of_gt (zAc O.loc d)) (.inr (zAg O.st d)) (λx c e=>zAk (zAc (O.cell x c e) d)) λp D=>zAk (zAc (O.pin p D) d)) (⟨F.ge,F.tr,v,w,(other a (Ne.symm r)).trans g,i,y,.inr ⟨T,_,_,l,d,m,r,(zBu (Obj.mapFields (·.setIfInBounds 3 ((none:Option γ).elim Pw λf=>rawInt f))) t (Obj.isFreed_of_fields (Obj.data_mapFields j _))),Obj.data_mapFields j _,by simp[u]⟩⟩)
theorem qZ0{M:Model}{A:Nr}{E:V'->δ->Prop}{j:Nat}{x:Str}{pos:Pos}(I:Q9 X Fm σ H s)(J:X.N.Nodup)(K:X.N[j]?=some x)(L:X.env.scope.names.lookup x=some .local)(h:∀s',Q9 X Fm (σ.set j none) H s'->Q () s'):No M A (do bindName X.env x .none;unbindBehindTheSuite X.env x pos) Q E s:=by
 obtain⟨m,C,O⟩:=id I.loc;have f:(X.env.scope.kind==.class||(X.env.scope.kind==.module&&X.env.locals != X.env.globals))=false:=by rw[I.ok.kind];rfl
 have g:=I.cne;refine wpAny_nameGoes_keeps L C f λh' v u a=>?_;obtain⟨oL,_,_,P,_⟩:=id C;have w:∀b o,X.s₀.heap.get? b=some o->b≠X.env.locals:=λb o e=>zAk (zAc (zA9 e) I.ok.above);refine h _ ⟨I.ok,I.os,I.bare,⟨λb o e n B l=>?_,λb o e n B l=>?_,I.base.free,λb o e l=>?_,I.base.tups,I.base.frzs,I.base.tbls⟩,⟨_,u,λi y r D e2 R=>?_⟩,λy c e=>?_,I.free,I.freeC,λp S=>?_,λb T e=>?_,by simpa using I.len⟩;{exact(a.2 b (w b o e)).trans (I.base.keep b o e n B l)};{obtain⟨U,q⟩:=I.base.slot b o e n B l;exact⟨U,(a.2 b (w b o e)).trans q⟩};{obtain⟨V,q⟩:=I.base.there b o e l;exact⟨V,(a.2 b (w b o e)).trans q⟩}
 .have F:i≠j:=λz=>by subst z;by_cases W:i<σ.length;{rw[zC1 W] at e2;cases e2};rw[List.getElem?_eq_none (by rw[Om];lia)] at e2;cases e2
  rw[zBf (Ne.symm F)] at e2;obtain⟨Y,Z,q⟩:=O i y r D e2 R;refine⟨Y,Z,?_⟩;rcases q with⟨k,e⟩|⟨k,c,e,z⟩;{refine .inl ⟨k,?_⟩;have:y≠x:=λe=>F (qU9 J D (e ▸ K));simp[this,e]};exact .inr ⟨k,c,e,z.sameBut a (g y c e)⟩
 {obtain⟨r,z⟩:=I.cell y c e;exact⟨r,z.sameBut a (g y c e)⟩};{obtain⟨e,n,G,nf,d⟩:=I.pin p S;exact⟨(a.2 p.1 G).trans e,n,G,nf,d⟩};refine(I.hok b T e).stay (λc r t q=>(a.2 c ?_).trans q) (λ_ q=>q) λ_ _ q=>q;rintro rfl;rcases t with rfl|t;{rw[I.free] at e;cases e};rw[I.free] at t;cases t
end
def PH(X:Cx)(b:List ExceptHandler)(t:γ->TS):Prop:=∀(Fm:List (γ×Obj))(s:δ)(c:St)(H:Hp)(D:B7)(a:γ)(n:Nat),Q9 X Fm c H s->Fly n H s.heap a->Old X Fm n->t a D c H->No (Np X.prog X.w) X.A (handleBy (.ref a) X.env b) (SP X Fm D) X.xe s
noncomputable def behind(j:Nat)(D:B7):B7:={nx:=λa H=>D.nx (a.set j none) H,rt:=D.rt,bk:=λa H=>D.bk (a.set j none) H,ct:=λa H=>D.ct (a.set j none) H}
section
variable{X:Cx}
theorem qaZ7:PH X [] (λ_ _ _ _=>False):=λ_ _ _ _ _ _ _ _ _ _ h=>h.elim
def sTry(tb:(St->XK)->TS)(th:γ->TS):TS:=λD Z H=>∃E:St->XK,tb E D Z H/\∀a Z' H',E Z' (.ref a) none H'->∃Z'':St,Z''.length=Z'.length/\(∀(i:Nat)(v:V),Z''[i]?=some (some v)->Z'[i]?=some (some v))/\th a D Z'' H'
theorem qaZ4{body:List Nv}{h₀:ExceptHandler}{c:List ExceptHandler}{pos:Pos}{tb:(St->XK)->TS}{th:γ->TS}(r:∀E xe l,Lands (Xt X xe l) E->PSs (Xt X xe l) body (tb E))(x:PH X (h₀::c) th)(b:X.stack=X.env::X.outer:=by rfl)(d:X.env.frame=some X.env.locals:=by rfl):PS X (.Try body (h₀::c) [] [] pos) (sTry tb th):=by
 intro Fm s Z H D I ⟨E,y,q2⟩;refine wpAny_Try_except ?_;let xe:V'->δ->Prop:=λe s₁=>No (Np X.prog X.w) X.A (noteFrame e X.env) (λ_ s₂=>No (Np X.prog X.w) X.A (setFlight e none) (λ_ s₃=>No (Np X.prog X.w) X.A (handleBy e X.env (h₀::c)) (SP X Fm D) X.xe s₃) X.xe s₂) X.xe s₁
 have B:Lands (Xt X xe (X.pn++Fm)) E:=λpins' Z' H' C a n I' F O q=>by
  have J:=I'.unt I.ok;have O':Old X Fm n:=⟨O.st,O.loc,O.cell,λp G=>O.pin p (zC7 _ G)⟩;obtain⟨U,V,m,o,K,M⟩:=id F.ob;have g:X.A.frames=some (X.env::X.outer):=by rw[J.ok.frames,b]
  have h:C.heap.FunFrames X.base (X.env::X.outer):=by have:=J.stack;rwa[b] at this
  refine qO2 g h d m o K ?_ λW T L=>?_;{rcases M with z|⟨T,N,P,i,_,_,j,k,Q,R⟩;{exact .inl z};exact .inr ⟨T,N,P,i,j,k,Q,R⟩};obtain⟨J2,F2⟩:=J.left F O' m o (by rw[b];exact L);obtain⟨Z'',i,j,k⟩:=q2 a Z' H' q;exact x Fm _ _ H' D a n (J2.weak i j) F2 O' k
 refine Nj (r E xe (X.pn++Fm) B [] s Z H D I.t y) (λf Y z=>?_) λ_ _ z=>z;cases f with|next=>obtain⟨Z',H',J,z⟩:=z;exact wpAny_execs_nil ⟨Z',H',J.unt I.ok,z⟩|brk=>obtain⟨Z',H',J,z⟩:=z;exact⟨Z',H',J.unt I.ok,z⟩|cont=>obtain⟨Z',H',J,z⟩:=z;exact⟨Z',H',J.unt I.ok,z⟩|ret u=>obtain⟨v,Z',H',J,S,z⟩:=z;exact⟨v,Z',H',J.unt I.ok,S,z⟩
end
end L2
namespace L2
open PySem PySem.Spec PyProof.Rows PySem.SeqAt
open PySem.AutoSeq1 (wpAny_loadPart')
theorem Fun.okX{K:P'}{st:Nv}(F:Fun K x qual st f fd)(S:qa9 N ps (qa4 st))(len:∀vs H Q E,sp vs H Q E->vs.length=ps.length)(hbody:∀(a:V')(A:Nr)(outer:List Env)(s:δ)(H:Hp)(vs:List V)(Q:VK)(E:XK),Room k (A.deeper (envOfC qual (qa4 st) s.heap.objs.size f a))->sp vs H Q E->∃t,PSs (Gz true (CX1 P w) P w K mg base N qual (qa4 st) f a A outer s H E) (qd9 st) t/\t {nx:=λ_ H'=>Q .non H',rt:=Q} (start N vs) H):Fx P w K mg base (CX1 P w) (k+1) f fd ps sp:=by obtain⟨i,j,kV,d,l,m,a,n,e,rfl,g,b⟩:=F.ex;exact Lx g b S len λA outer s H vs Q E h c=>hbody a A outer s H vs Q E h c
theorem qam1(K:P')(C:γ):Qa K (.ref C) (.ref C)=some true:=by unfold Qa;rw[if_pos (zB1 _)]
end L2
namespace L2
open PySem PySem.Spec PyProof.Rows
section
variable{X:Cx}{A:List (γ×Obj)}{y:St}{H:Hp}{s:δ}{h':Heap}
theorem Q9.turnedL{ch:List γ}(I:Q9 X A y H s)(k:∀b o,b∉ch->s.heap.get? b=some o->h'.get? b=some o)(f:∀b∈ch,Iu X A H b):Q9 X A y H {s with heap:=h',toks:=t'}:=by
 have d:∀b u,H b=some u->b∉ch:=λb u e z=>by rw[(f b z).1] at e;cases e
 refine I.step (λb g=>?_) (λb o _ _ a e _=>k b o a e) (λb o _ _ a e _=>⟨o.slots,k b o a e⟩) (λ_ _ _ _ n=>n)
  (λb o a e=>⟨o,k b o a e⟩) (λ_ _ e=>e) (λ_ _ _ e=>e) (λb w e=>⟨#[],by rw[e];simp⟩) (λm h=>?_) (λb u e=>?_) I.bare
 {obtain⟨x,f1,f2,f3,i,j⟩:=f b g;exact⟨f3,f1,i,j⟩};{obtain⟨o,l,p,t,r⟩:=h;exact⟨o,l,p,k _ o (λz=>(f _ z).2.1 rfl) t,r⟩};refine(I.hok b u e).stay (λc v a q=>k c v ?_ q) (λ_ q=>q) λ_ _ q=>q;rcases a with z|z;{rw[z];exact d b u e};exact d c _ z
end
def Ite(K:P')(a:γ):It:=⟨λi H=>∃xs x,SqL K H a xs/\xs[i]?=some x,λi H x H'=>∃t y,x=.ref t/\H t=none/\H'=upd H t (.q [.int (i:Int),y])/\∀xs,SqL K H a xs->xs[i]?=some y,λi H=>∃xs,SqL K H a xs/\xs.length<=i⟩
theorem qaq4{P:Nq}{w:Nt}{K:P'}{elts:List Nu}{x1:Nat}{pos:Pos}(a it e:γ)(m:e≠it):Lq P w K (.Tuple elts x1 pos) (Ite K a) [e,it] e (λi h=>(∃old,IsEnum h e it (i:Nat) old)/\h.IsListIter it a i) where
 mem:=by simp
 obj:=λi h d b c=>by
   obtain⟨⟨old,f⟩,o,ho,B,hd⟩:=d;rcases zAj.mp c with rfl|c
   . exact⟨_,f,λv z=>by
       cases (z)⟩
   rw[zAd.mp c];exact⟨o,ho,λv z=>by rw[hd] at z;cases z⟩
 keep:=λi h Y d k=>by
   obtain⟨⟨old,f⟩,d⟩:=d;exact⟨⟨old,k e (by simp) _ f⟩,d.at λo q=>k it (by simp) o q⟩
 item:=by
   intro X C D F B i Fm s W H E I n d G;subst C D F;obtain⟨xs,x,A,J⟩:=G;obtain⟨⟨old,f⟩,g⟩:=d;obtain⟨L,M,p,hz⟩:=I.list A;obtain⟨u,hu,ru⟩:=M.get J;have N:H s.heap.objs.size=none:=I.hok.fresh (zA3 _);obtain⟨oi,O,_⟩:=id g;have r:e<s.heap.objs.size:=zA9 f;have lt2:it<s.heap.objs.size:=zA9 O;refine wpAny_pyNext_enum_item f g p.isList (x:=u) (by simpa using hu) m λZ Q t R a0 S=>?_
   refine⟨_,rfl,wpAny_letOwnedTupleGo_enum (s:={s with heap:=Z,toks:=s.toks+1}) Q λT U j=>?_⟩
   replace j:Heap.SameBut e Z T:=j
   have I0:Q9 X Fm W (upd H s.heap.objs.size (.q [.int (i:Int),x])) {s with heap:=s.heap.push {cls:=.type "tuple",data:=.seq #[.int i s.toks,u]},toks:=s.toks+1}:=I.laid (λb o q=>zA2 _ q) (zA3 _) ⟨by show 2<=M7;decide,[.int i s.toks,u],.cons ⟨_,rfl⟩ (.cons ru .nil),⟨_,zAx _ rfl,rfl,_,rfl⟩⟩
   have I2:Q9 X Fm W (upd H s.heap.objs.size (.q [.int (i:Int),x])) {s with heap:=T,toks:=s.toks+1}:=by
     refine Q9.turnedL (s:={s with heap:=s.heap.push {cls:=.type "tuple",data:=.seq #[.int i s.toks,u]},toks:=s.toks+1}) (h':=T) (ch:=[e,it]) (t':=s.toks+1) I0 (λb o c q=>?_) (λb c=>?_)
     . have y:b≠e:=λz=>c (by simp[z])
       have V:b≠it:=λz=>c (by simp[z])
       refine j.extBut b o y ?_;rcases Heap.get?_push_cases (show (s.heap.push {cls:=.type "tuple",data:=.seq #[.int i s.toks,u]}).get? b=some o from q) with⟨rfl,rfl⟩|q
       . exact R
       exact S b o y V q
     refine⟨?_,(n b c).2⟩;have l:b<s.heap.objs.size:=by
       rcases zAj.mp c with rfl|c
       . exact r
       rw[zAd.mp c];exact lt2
     rw[qc0 (zAk l)];exact(n b c).1
   refine⟨.ref s.heap.objs.size,_,I2,rfl,⟨_,x,rfl,N,rfl,λys hy=>by rw[I.list_inj hy A];exact J⟩,⟨⟨u,?_⟩,?_⟩,λb c=>?_⟩
   . have:((i+1:Nat):Int)=(i:Int)+1:=by push_cast;rfl
     rw[this];exact U
   . exact t.extBut j.extBut (Ne.symm m)
   have l:b<s.heap.objs.size:=by
     rcases zAj.mp c with rfl|c
     . exact r
     rw[zAd.mp c];exact lt2
   rw[qc0 (zAk l)];exact(n b c).1
 done:=by
   intro X C D F B i Fm s W H E I n d G;subst C D F;obtain⟨xs,A,J⟩:=G;obtain⟨⟨old,f⟩,g⟩:=d;obtain⟨L,M,p,hz⟩:=I.list A;obtain⟨f0,f1,f2,f3,f4,f5⟩:=n it (by simp);have hl:=M.length;exact wpAny_pyNext_enum_end (I.ok.hd B) f g p.isList (by simp;lia) λY eb=>⟨rfl,I.turned (t':=s.toks) (λb o c q=>eb b o c q) f0 f1 f3 f4 f5⟩
 self:=λ_ _ _ _ _ d h=>by
   obtain⟨⟨old,f⟩,_⟩:=d;exact wpAny_pyIter_enum f h
section
variable{X:Cx}
def iEnum(K:P')(ta:TA):TI:=λJ H R=>ta J H λvs H1=>∃a,vs=[.ref a]/\(∃xs,SqL K H1 a xs)/\R (Ite K a) H1
theorem qaP0(k:Gl X "enumerate")(hm:X.mg "enumerate"=none)(m:PA X [l] ta)(n:M6 [l] X.env=[(false,eval l X.env)]:=by rfl):PI X (.Tuple elts j tpos) (.Call (.Name "enumerate" p) [l] [] pos) (iEnum X.K ta):=by
 intro Fm s J H R I h;refine Call_ (qal9 I k hm boot_enumerate (PyProof.Rows.callWith_type1 (thn (m pos Fm s J H _ I h) λB c f=>?_) n rfl));obtain⟨C,H1,I1,o,t⟩:=f;obtain⟨a,e,⟨D,u⟩,q⟩:=t;subst e;cases o with
 |cons r v=>
  cases v;cases r;obtain⟨w,E,x,F⟩:=I1.list u;refine call_enumerate_list x.isList λG i y z A=>?_;refine wpAny_pyIter_enum i ?_;refine⟨c.heap.objs.size+1,[c.heap.objs.size+1,c.heap.objs.size],_,_,H1,rfl,I1.kept A,qaq4 a c.heap.objs.size (c.heap.objs.size+1) (Nat.succ_ne_self _),⟨⟨_,i⟩,y⟩,λb g=>?_,q⟩;have d:c.heap.objs.size<=b:=by rcases zAj.mp g with rfl|g;{exact Nat.le_succ _};rw[zAd.mp g];exact zA3 _
  exact I1.fpOk d (I1.hok.fresh d)
end
section
variable{X:Cx}
def qaN8:V->List V->Hp->VK->Prop:=λx vs H Q=>∃l xs y j z,x=.ref l/\vs=[y]/\H l=some (.l xs)/\flatV y=true/\xs.all flatV=true/\xs[j]?=some z/\eqV z y=true/\(∀m z',m<j->xs[m]?=some z'->eqV z' y=false)/\Q (.int (j:Nat)) H
theorem Q7.getU(r:Q7 xs us){j:Nat}(h:us[j]?=some u):∃x,xs[j]?=some x/\Q6 x u:=by have c:=r.length;have d:=(zA4.mp h).1;obtain⟨e,a,b⟩:=r.get (show xs[j]?=some xs[j] by simp);rw[h] at a;cases a;exact⟨_,by simp,b⟩
theorem qD0:MtM X "list.index" qaN8:=by
 intro Fm s R H x M v N Q I f B h;obtain⟨l,C,y,j,O,rfl,rfl,D,E,p,t,g,i,q⟩:=h;cases f;obtain⟨u,rfl,G⟩:=B.one;obtain⟨z,a,n,r,P,e⟩:=I.lstM D;have J:=(zA4.mp t).1;have A:=r.length;have small:((j:Nat):Int)<2 ^ 63-1:=by have:M7<2 ^ 62:=∅;lia
 have eqAt:∀m (d:m<a.toArray.size),∃x,C[m]?=some x/\eqU y a.toArray[m]=eqV x y:=λm d=>by
  have K:m<a.length:=by simpa using d
  obtain⟨x,b,f⟩:=r.getU (show a[m]?=some a[m] by simp);refine⟨x,b,?_⟩;have:=qav9 (x:=y) f (zBe.mp p x (zB2 b));simpa using this
 have c:j<a.toArray.size:=by simp;lia
 refine Nl Qe ⟨_,e,rfl⟩ F.entry_list_index (F.args_list_index_2 _ _) (SeqAt.list_indexAt l a.toArray n none #[] u (eqU y) j c small ?_ ?_) ⟨e,λw L=>qr6 G E r p w (by simpa using L),⟨.int (j:Nat),H,I.tok _,⟨_,rfl⟩,q⟩⟩;{obtain⟨x,b,k⟩:=eqAt j c;rw[t] at b;cases b;rw[k];exact g};intro m d o;obtain⟨x,b,k⟩:=eqAt m d;rw[k];exact i m x o b
def qaO0:V->List V->Hp->VK->Prop:=λx vs H Q=>∃l xs y,x=.ref l/\vs=[y]/\H l=some (.l xs)/\flatV y=true/\xs.all flatV=true/\Q (.int (xs.countP (λz=>eqV z y):Nat)) H
theorem qaa3{x:V}:∀{xs:List V}{us:List V'},Q7 xs us->xs.all flatV=true->us.countP (eqU x)=xs.countP λy=>eqV y x|_,_,.nil,_=>rfl|y::xs,u::us,.cons r t,f=>by rw[Of,zBb] at f;rw[Pe,Pe,qav9 r f.1,qaa3 t f.2]
theorem qak8:MtM X "list.count" qaO0:=by intro Fm s R H x k v m Q I c d h;obtain⟨l,o,y,rfl,rfl,f,g,b,q⟩:=h;cases c;obtain⟨u,rfl,i⟩:=d.one;obtain⟨z,a,n,r,p,e⟩:=I.lstM f;refine Nl Qg ⟨_,e,rfl⟩ F.entry_list_count (F.args_list_count_2 _ _) (SeqAt.list_countAt l a.toArray n none #[] u (eqU y)) ⟨e,λw j=>qr6 i g r b w (by simpa using j),⟨.int _,H,I.tok _,⟨_,rfl⟩,?_⟩⟩;rw[show a.toArray.toList.countP (eqU y)=a.countP (eqU y) by simp,qaa3 r b];exact q
end
theorem qaw5{K:P'}(Pv:Nat->St->Hp->Prop)(c:Pv 0 u H)(d:∀i u H,i<=xs.length->Pv i u H->SqL K H a xs)(f:∀(i:Nat) x u H t,xs[i]?=some x->Pv i u H->H t=none->g (.ref t) u (upd H t (.q [.int (i:Int),x])) λσ2 H2=>tf σ2 H2 λh H3=>if h=true then te σ2 H3 λv H4=>∃ys,H4 D=some (.l ys)/\ys.length<M7/\Pv (i+1) σ2 (upd H4 D (.l (ys++[v]))) else Pv (i+1) σ2 H3)(j:∀u H,Pv xs.length u H->R H):qz5 (Ite K a) g tf te D R u H:=by refine⟨λi m u H=>m=xs.length-i/\i<=xs.length/\Pv i u H,⟨xs.length,by simp,zBi _,c⟩,?_⟩;rintro i m u H ⟨rfl,k,p⟩;have q:=d i u H k p;by_cases b:i<xs.length;{refine .inr ⟨⟨xs,xs[i],q,by simp[b]⟩,Pv (i+1),λu' H' l=>⟨xs.length-(i+1),⋯,rfl,b,l⟩,λx H' y=>?_⟩;obtain⟨t,n,e,o,r,s⟩:=y;subst e r;exact f i n u _ t (s xs q) p o};have e:i=xs.length:=⋯;subst e;exact .inl ⟨⟨xs,q,zA3 _⟩,j u H p⟩
end L2
namespace L2
open PySem PySem.Spec PyProof.Rows
noncomputable def qaI2:List String:=["NoneType", "bool", "int", "str", "list", "tuple", "dict"]
structure IsO(K:P')(C:γ):Prop where
 ca:W.findIn K (.ref C) "__class__"=some (some (.builtin "object.__class__"))
 cn:W.specialIn K (.builtin "object.__class__") "__get__"=some (some (.builtin "getset_descriptor.__get__"))
 ct:W.takesIn K (.builtin "object.__class__")=some true
 cm:W.mroIn K C (.type "object")=some true
 kf:∀t∈qaI2,Qa K (.type t) (.ref C)=some false
theorem kf_of{K:P'}(h1:Qa K (.type "NoneType") (.ref C)=some false)(h2:Qa K (.type "bool") (.ref C)=some false)(b:Qa K (.type "int") (.ref C)=some false)(c:Qa K (.type "str") (.ref C)=some false)(d:Qa K (.type "list") (.ref C)=some false)(e:Qa K (.type "tuple") (.ref C)=some false)(f:Qa K (.type "dict") (.ref C)=some false):∀t∈qaI2,Qa K (.type t) (.ref C)=some false:=by intro t a;unfold qaI2 at a;simp only[zAj,zBk,or_false] at a;rcases a with rfl|rfl|rfl|rfl|rfl|rfl|rfl<;>assumption
section
variable{X:Cx}
def rIsO(C:γ):List V->Hp->VK->Prop:=λxs H Q=>∃x,xs=[x,.ref C]/\((∃a dx fs,x=.ref a/\H a=some (.ins C dx fs)/\Q (.bl true) H)∨(∃t,Bf H x=some t/\Q (.bl false) H))
theorem qM0(b:IsO X.K C)(g:Cls X.K C):CallR X (.builtin "isinstance") (rIsO C):=by
 intro Fm s m H j k Q I r h;obtain⟨x,rfl,h⟩:=h;obtain⟨u,l,rfl,f,c⟩:=Ic r;cases c;rcases h with⟨a,dx,fs,rfl,ha,q⟩|⟨t,hk,q⟩
 .have e:Qa X.K (.ref C) (.ref C)=some true:=by unfold Qa;rw[if_pos (by simp)]
  exact qz2 I f (.ins ha g b.ca b.cn b.ct b.cm) e λd=>⟨.bl true,H,I.tok d,rfl,q⟩
 obtain⟨ty,i⟩:=qam3 hk;exact qz2 I f ty (b.kf t i) λd=>⟨.bl false,H,I.tok d,rfl,q⟩
theorem qba3(C:γ)(hm:X.mg x=some (.ref C))(a:Gl X x:=by rfl)(b:N' x:=by decide):PE X (.Name x pos) (tC (.ref C)):=qaj4 a hm rfl b
end
end L2
namespace Row
variable{a i j q s t:Nat}{g':Nat->Option Int}{x y:Int}
noncomputable def Ab(n h r:Nat):Nat:=if h<=r then r-h else r+n-h
noncomputable def prev(n r:Nat):Nat:=if r=0 then n-1 else r-1
noncomputable def next(n r:Nat):Nat:=if r+1=n then 0 else r+1
def ahead(n:Nat)(hm:Int->Nat)(r:Nat)(x y:Int):Prop:=Ab n (hm y) r<Ab n (hm x) r∨(Ab n (hm x) r=Ab n (hm y) r/\x<y)
theorem qx3(h:ahead n hm r x y)(h':ahead n hm r y z):ahead n hm r x z:=by unfold ahead at *;lia
theorem qQ3(h:ahead n hm r x y)(h':ahead n hm r y x):False:=by unfold ahead at *;lia
theorem qax6(h:ahead n hm r x x):False:=qQ3 h h
theorem qax5(h:x≠y)(h':¬ahead n hm r x y):ahead n hm r y x:=by unfold ahead at *;lia
theorem qm3(h:r<n):next n r<n:=by unfold next;split<;>lia
theorem qp5(h:r<n):prev n r<n:=by unfold prev;split<;>lia
theorem ql8(h:r<n):prev n (next n r)=r:=by unfold prev next;split<;>split<;>lia
theorem qK1(h:r<n):next n (prev n r)=r:=by unfold prev next;split<;>split<;>lia
theorem qj3(h:r<n)(b:a<n):Ab n a r<n:=by unfold Ab;split<;>lia
theorem qj8(b:a<n)(h:r<n)(h':s<n)(e:Ab n a r=Ab n a s):r=s:=by unfold Ab at e;split at e<;>split at e<;>lia
theorem qc2(b:a<n)(h:r<n):Ab n a r=0↔r=a:=by unfold Ab;split<;>lia
theorem qe5(c:a<n)(h:r<n)(b:0<Ab n a r):Ab n a (prev n r)=Ab n a r-1:=by unfold Ab prev at *;split at b<;>split<;>split<;>lia
theorem qm1(c:a<n)(h:r<n)(b:Ab n a r+1<n):Ab n a (next n r)=Ab n a r+1:=by unfold Ab next at *;split at b<;>split<;>split<;>lia
theorem nor(n s:Nat):(s+1=n/\next n s=0)∨(s+1≠n/\next n s=s+1):=by unfold next;split<;>lia
theorem por(n s:Nat):(s=0/\prev n s=n-1)∨(s≠0/\prev n s=s-1):=by unfold prev;split<;>lia
theorem dor(n a r:Nat):(a<=r/\Ab n a r+a=r)∨(r<a/\(a<=r+n->Ab n a r+a=r+n)):=by unfold Ab;split<;>lia
theorem Gh(b:a<n)(hi:i<n)(c:s<n)(h:Ab n a i<=Ab n a s):Ab n a i+Ab n i s=Ab n a s:=by have d:=dor n a i;have e:=dor n a s;have f:=dor n i s;lia
theorem Ky(b:a<n)(c:s<n)(d:t<n)(h:Ab n a s<Ab n a t):Ab n t s+Ab n a t=n+Ab n a s:=by have e:=dor n a s;have f:=dor n a t;have g:=dor n t s;lia
theorem qbe9(a:s<n):Ab n (next n s) s+1=n:=by have b:=dor n (next n s) s;have c:=nor n s;lia
theorem qaw2(f:a<n)(c:b<n)(d:j<n)(hi:i<n)(h1:Ab n a i<=Ab n a j)(h2:Ab n a j<=Ab n b j):Ab n b i+(Ab n a j-Ab n a i)=Ab n b j:=by have g:=Gh f hi d h1;have h:=qj3 hi c;rcases Nat.lt_or_ge (Ab n b j) (Ab n b i) with e|e;{have:=Ky c d hi e;lia};have:=Gh c hi d e;lia
structure Ord(n:Nat)(hm:Int->Nat)(g:Nat->Option Int):Prop where
 home:∀k,hm k<n
 inj:∀i j k,i<n->j<n->g i=some k->g j=some k->i=j
 ord:∀i k,i<n->g i=some k->0<Ab n (hm k) i->∃x,g (prev n i)=some x/\ahead n hm (prev n i) x k
def Kz(n:Nat)(hm:Int->Nat)(g:Nat->Option Int):Prop:=∃i,i<n/\∀k,g i=some k->hm k=i
theorem Ord.path(O:Ord n hm g):∀(m j i:Nat)(z:Int),j<n->i<n->g j=some z->Ab n (hm z) i+m+1=Ab n (hm z) j->∃x,g i=some x/\ahead n hm i x z
 |0,j,i,z,hj,hi,hz,e=>by have a:0<Ab n (hm z) j:=⋯;obtain⟨x,b,c⟩:=O.ord j z hj hz a;have:=qe5 (O.home z) hj a;rw[(qj8 (O.home z) hi (qp5 hj) ⋯)];exact⟨x,b,c⟩|m+1,j,i,z,hj,hi,hz,e=>by
  have a:0<Ab n (hm z) j:=⋯;obtain⟨x,b,c⟩:=O.ord j z hj hz a;have l:=qe5 (O.home z) hj a;have d:=qp5 hj;have f:Ab n (hm z) (prev n j)<=Ab n (hm x) (prev n j):=by unfold ahead at c;lia
  have o:=qaw2 (O.home z) (O.home x) d hi ⋯ f;obtain⟨y,h,k⟩:=O.path m (prev n j) i x d hi b ⋯;refine⟨y,h,qx3 k ?_⟩;unfold ahead at *;lia
theorem Ord.path'(O:Ord n hm g)(a:j<n)(hi:i<n)(b:g j=some z)(h:Ab n (hm z) i<Ab n (hm z) j):∃x,g i=some x/\ahead n hm i x z:=O.path (Ab n (hm z) j-Ab n (hm z) i-1) j i z a hi b ⋯
def Hu(n:Nat)(hm:Int->Nat)(g:Nat->Option Int)(s:Nat):Prop:=∀j z,j<n->g j=some z->Ab n (hm z) j<=Ab n (hm z) s
theorem Ord.zero(O:Ord n hm g)(C:Kz n hm g):∃s,s<n/\Hu n hm g s:=by
 obtain⟨i,b,h⟩:=C;have l:=qp5 b;refine⟨prev n i,l,λj z c k=>zC2 λm=>?_⟩;have a:=O.home z;by_cases d:Ab n (hm z) i=0
 .have e:=(qc2 a b).mp d;have:=qj3 c a;have e2:Ab n (hm z) (prev n i)=n-1:=by
   unfold Ab prev at *
   split<;>split<;>lia
  lia
 have q:=qe5 a b ⋯;by_cases f:Ab n (hm z) i=Ab n (hm z) j;{have e:i=j:=qj8 a b c f;subst e;have:=h z k;rw[this,(qc2 b b).mpr rfl] at d;exact d rfl};obtain⟨x,o,p⟩:=O.path' c b k ⋯;have e:=h x o;have:Ab n (hm x) i=0:=(qc2 (O.home x) b).mpr e.symm;unfold ahead at p;lia
theorem qZ5{α:Type}[DecidableEq α](x:α):∀(S:List α),S.Nodup->S.length<=(S.filter (λy=>decide (y≠x))).length+1
 |[],_=>by simp|a::S,h=>by
  have b:=zC0.mp h;by_cases e:a=x
  .subst e;have:S.filter (λy=>decide (y≠a))=S:=List.filter_eq_self.mpr λy c=>by simp only[ne_eq,zB5];intro z;subst z;exact b.1 c
   rw[zCg (by simp),this];simp
  rw[Og (by simpa using e)];have:=qZ5 x S b.2;simp only[zAm];lia
theorem qs0{α:Type}[DecidableEq α](x:α):∀(S:List α),x∈S->(S.filter (λy=>decide (y≠x))).length+1<=S.length|[],h=>by simp at h|a::S,h=>by by_cases e:a=x;{rw[zCg (by simp[e])];have:=List.length_filter_le (λy=>decide (y≠x)) S;simp only[zAm];lia};rw[Og (by simpa using e)];have:=qs0 x S (by rcases zAj.mp h with z|z;exact absurd z.symm e;exact z);simp only[zAm];lia
theorem qB9{g:Nat->Option Int}:∀(L:List Nat)(S:List Int),S.Nodup->(∀k∈S,∃i∈L,g i=some k)->S.length<=L.length
 |[],S,_,h=>by cases S with|nil=>simp|cons k _=>obtain⟨i,f,_⟩:=h k (by simp);simp at f
 |i::L,S,hn,h=>by
  cases d:g i with
  |none=>
   have:=qB9 L S hn λk a=>by obtain⟨j,c,e⟩:=h k a;rcases zAj.mp c with z|z;{rw[z,d] at e;cases e};exact⟨j,z,e⟩
   simp only[zAm];lia
  |some x=>
   have l:=qB9 L (S.filter (λy=>decide (y≠x))) (hn.filter _) λk a=>by obtain⟨a,b⟩:=zAt.mp a;obtain⟨j,c,e⟩:=h k a;rcases zAj.mp c with z|z;{rw[z,d] at e;rw[(P8 e)] at b;simp at b};exact⟨j,z,e⟩
   have m:=qZ5 x S hn;simp only[zAm];lia
theorem qX6{g:Nat->Option Int}:∀(L:List Nat)(S:List Int),L.Nodup->(∀i∈L,∃k∈S,g i=some k)->(∀i∈L,∀j∈L,∀k,g i=some k->g j=some k->i=j)->L.length<=S.length|[],S,_,_,_=>by simp|i::L,S,c,h,inj=>by obtain⟨x,f,l⟩:=h i (by simp);have c:=zC0.mp c;have p:=qX6 L (S.filter (λy=>decide (y≠x))) c.2 (λj d=>by obtain⟨k,m,e⟩:=h j (zA6 _ d);refine⟨k,zAt.mpr ⟨m,?_⟩,e⟩;simp only[ne_eq,zB5];intro z;subst z;have:=inj i (by simp) j (zA6 _ d) k l e;exact c.1 (this ▸ d)) λa n b o=>inj a (zA6 _ n) b (zA6 _ o);have q:=qs0 x S f;simp only[zAm];lia
def Holds(n:Nat)(g:Nat->Option Int)(S:List Int):Prop:=S.Nodup/\∀k,k∈S↔∃i,i<n/\g i=some k
theorem qaq0(O:Ord n hm g)(O':Ord n hm g')(C':Kz n hm g')(J:Holds n g S)(w:Holds n g' S)(p:s<n)(Z:Hu n hm g s):Hu n hm g' s:=by
 obtain⟨K,F,Z'⟩:=O'.zero C';intro j z B q;refine zC2 λv=>?_;have R:∀m,(∃t,t<n/\Ab n t s<=m/\Hu n hm g' t)->∃t,t<n/\Hu n hm g' t/\∀u,u<n->Ab n u s<Ab n t s->¬Hu n hm g' u:=by intro m;induction m with|zero=>rintro⟨t,l,T,q⟩;exact⟨t,l,q,λu _ h=>absurd h ⋯⟩|succ m U=>rintro⟨t,l,T,q⟩;by_cases L:∃u,u<n/\Ab n u s<=m/\Hu n hm g' u;{exact U L};exact⟨t,l,q,λu V h W=>L ⟨u,V,⋯,W⟩⟩
 obtain⟨t,l,Zt,near⟩:=R (Ab n K s) ⟨K,F,zA3 _,Z'⟩;let d:Nat->Bool:=λr=>decide (Ab n r s<Ab n t s)
 have arcOf:∀r,d r=true↔Ab n r s<Ab n t s:=λr=>decide_eq_true_iff;have o:=O'.home z;have M:=Zt j z B q;have Dz:Ab n (hm z) s<Ab n t s:=by have G:=Ky o p l (zAc v M);have e2:=qj3 l o;lia
 have Dj:¬Ab n j s<Ab n t s:=by have G:=Ky o p l (zAc v M);have e2:=Ky o p B v;lia
 have X:z∈S.filter (λk=>d (hm k)):=zAt.mpr ⟨(w.2 z).mpr ⟨j,B,q⟩,(arcOf _).mpr Dz⟩;have p1:(S.filter (λk=>d (hm k))).length<=((N7 n).filter d).length:=by refine qB9 (g:=g) _ _ (J.1.filter _) λk H=>?_;obtain⟨H,N⟩:=zAt.mp H;obtain⟨i,c,P⟩:=(J.2 k).mp H;have N:=(arcOf _).mp N;have Y:=Z i k c P;have f:=O.home k;refine⟨i,zAt.mpr ⟨zAo.mpr c,(arcOf _).mpr ?_⟩,P⟩;have G:=Gh f c p Y;lia
 have p2:((N7 n).filter d).length<=((S.filter (λk=>d (hm k))).filter (λy=>decide (y≠z))).length:=by
  refine qX6 (g:=g') _ _ (List.nodup_range.filter _) (λi c=>?_) λa ha b hb k=>O'.inj a b k (zAo.mp (zAt.mp ha).1) (zAo.mp (zAt.mp hb).1);obtain⟨c,C⟩:=zAt.mp c;have c:=zAo.mp c;have C:=(arcOf _).mp C;have nz:=near i c C;obtain⟨k,D⟩:∃k,g' i=some k:=by cases e:g' i with|some k=>exact⟨k,rfl⟩|none=>refine absurd (λj' y I hy=>zC2 λA=>?_) nz;obtain⟨x,Q,_⟩:=O'.path' I c hy A;rw[e] at Q;cases Q
  have ki:=Zt i k c D;have f:=O'.home k;refine⟨k,zAt.mpr ⟨zAt.mpr ⟨(w.2 k).mpr ⟨i,c,D⟩,(arcOf _).mpr ?_⟩,?_⟩,D⟩;{have l1:=qj3 l f;rcases Nat.lt_or_ge (Ab n (hm k) s) (Ab n (hm k) t) with E|E;{have:=Ky f p l E;lia};have G:=Gh f l p E;have e2:=Gh f c p (zAg ki E);lia};simp only[ne_eq,zB5];intro e;subst e;have:=O'.inj i j k c B D q;subst this;exact Dj C
 have p3:=qs0 z _ X;lia
theorem qap8(O:Ord n hm g)(O':Ord n hm g')(z:Holds n g S)(l:Holds n g' S)(t:s<n)(Z:Hu n hm g s)(Z':Hu n hm g' s)(c:j<n)(A:∀i,i<n->Ab n (next n s) i<Ab n (next n s) j->g i=g' i)(m:g j=some x):g' j=some x:=by
 have a:=qm3 t;have pos:∀{f:Nat->Option Int},Hu n hm f s->∀{i k},i<n->f i=some k->Ab n (next n s) (hm k)<=Ab n (next n s) i:=λ{f} Zf {i k} h D=>by have u:=Zf i k h D;have b:=O.home k;have P:=qbe9 t;have Q:=qj3 b a;have E:=Gh a b t ⋯;refine zC2 λF=>?_;have e2:=Ky a h b F;lia
 have o:∀{i k},i<n->Ab n (next n s) (hm k)<=Ab n (next n s) j->Ab n (next n s) j<Ab n (next n s) i->Ab n (hm k) j<Ab n (hm k) i:=λ{i k} h u G=>by have b:=O.home k;have E:=Gh a b c u;have e2:=Gh a b h (zAg u (zBc G));lia
 obtain⟨p,d,q⟩:=(l.2 x).mp ((z.2 x).mpr ⟨j,c,m⟩);have H:=pos Z c m;by_cases I:Ab n (next n s) p<Ab n (next n s) j;{have e:=A p d I;rw[q] at e;have:=O.inj p j x d c e m;subst this;exact q};by_cases J:Ab n (next n s) p=Ab n (next n s) j;{have e:=qj8 a d c J;subst e;exact q};exfalso;obtain⟨y,v,B⟩:=O'.path' d c q (o d H ⋯);obtain⟨i,h,r⟩:=(z.2 y).mp ((l.2 y).mpr ⟨j,c,v⟩);have K:=pos Z' c v;by_cases L:Ab n (next n s) i<Ab n (next n s) j;{have e:=A i h L;rw[r] at e;have:=O'.inj i j y h c e.symm v;subst this;lia};by_cases M:Ab n (next n s) i=Ab n (next n s) j;{have e:=qj8 a h c M;subst e;rw[m] at r;cases r;exact qax6 B};obtain⟨w,C,N⟩:=O.path' h c r (o h K ⋯);rw[m] at C;cases C;exact qQ3 B N
theorem qaG5(O:Ord n hm g)(O':Ord n hm g')(C:Kz n hm g)(C':Kz n hm g')(d:Holds n g S)(a:Holds n g' S):∀j,j<n->g j=g' j:=by
 obtain⟨s,f,Z⟩:=O.zero C;have Z':=qaq0 O O' C' d a f Z;have main:∀m j,j<n->Ab n (next n s) j<m->g j=g' j:=by intro m;induction m with|zero=>intro j _ h;exact absurd h ⋯|succ m l=>intro j c p;have b:∀i,i<n->Ab n (next n s) i<Ab n (next n s) j->g i=g' i:=λi k h=>l i k ⋯;cases e:g j with|some x=>exact(qap8 O O' d a f Z Z' c b e).symm|none=>cases o:g' j with|none=>rfl|some y=>have:=qap8 O' O a d f Z' Z c (λi k h=>(b i k h).symm) o;rw[e] at this;cases this
 exact λj c=>main _ j c (Nat.lt_succ_self _)
noncomputable def set(g:Nat->Option Int)(r:Nat)(c:Int):Nat->Option Int:=λj=>if j=r then some c else g j
theorem qc3:set g r c r=some c:=by unfold set;rw[if_pos rfl]
theorem qe2(h:j≠r):set g r c j=g j:=by unfold set;rw[if_neg h]
structure Walk(n:Nat)(wr:Bool)(hm:Int->Nat)(T:List Int)(k:Int)(e:Nat)(g:Nat->Option Int)(c:Int)(r:Nat):Prop where
 o:Ord n hm g
 nin:∀i,i<n->g i≠some c
 hr:r<n
 pth:∀j,j<n->Ab n (hm c) j<Ab n (hm c) r->∃x,g j=some x/\ahead n hm j x c
 he:e<n
 ge:g e=none
 lim:Ab n (hm k) r<=Ab n (hm k) e
 all:∀x,x∈T↔(x=c∨∃i,i<n/\g i=some x)
 ln:wr=false->hm k<=e/\hm c<=r/\∀i x,i<n->g i=some x->hm x<=i
section
variable{n:Nat}{wr:Bool}{hm:Int->Nat}{T:List Int}{k:Int}{e:Nat}{g:Nat->Option Int}{c:Int}{r:Nat}
theorem Walk.lt(W:Walk n wr hm T k e g c r)(a:g r=some y):Ab n (hm k) r<Ab n (hm k) e:=by
 have b:=W.lim;have:r≠e:=λz=>by have:=W.ge;rw[<-z,a] at this;cases this
 have d:Ab n (hm k) r≠Ab n (hm k) e:=λz=>this (qj8 (W.o.home k) W.hr W.he z);lia
theorem Walk.nx(W:Walk n wr hm T k e g c r)(a:g r=some y):Ab n (hm k) (next n r)=Ab n (hm k) r+1:=by have b:=W.lt a;have d:=qj3 W.he (W.o.home k);exact qm1 (W.o.home k) W.hr ⋯
theorem way(a:hm x<n)(c:j<n)(b:e<n)(d:g e=none)(f:∀i,i<n->Ab n (hm x) i<=Ab n (hm x) j->∃y,g i=some y):Ab n (hm x) j+1<n:=by have k:=qj3 c a;have l:=qj3 b a;by_cases h:Ab n (hm x) e<=Ab n (hm x) j;{obtain⟨y,q⟩:=f e b h;rw[d] at q;cases q};lia
theorem Walk.on(W:Walk n wr hm T k e g c r)(a:g r=some y)(h:¬ahead n hm r c y):Walk n wr hm T k e g c (next n r):=by
 have v:=W.nx a;have A:=W.lt a;have b:=W.o.home c;have l:c≠y:=λz=>W.nin r W.hr (by rw[z];exact a);have w:Ab n (hm c) r+1<n:=way (g:=g) b W.hr W.he W.ge λi d m=>by by_cases q:Ab n (hm c) i=Ab n (hm c) r;{rw[qj8 b d W.hr q];exact⟨y,a⟩};obtain⟨x,p,_⟩:=W.pth i d ⋯;exact⟨x,p⟩
 have B:=qm1 b W.hr w;refine⟨W.o,W.nin,qm3 W.hr,λj f m=>?_,W.he,W.ge,⋯,W.all,λs=>?_⟩;{by_cases q:Ab n (hm c) j=Ab n (hm c) r;{rw[qj8 b f W.hr q];exact⟨y,a,qax5 l h⟩};exact W.pth j f ⋯};obtain⟨t,C,u⟩:=W.ln s;refine⟨t,?_,u⟩;have D:=dor n (hm k) r;have E:=dor n (hm k) e;have F:=nor n r;have:=W.hr;have:=W.he;have:=W.o.home k;lia
theorem Walk.swap(W:Walk n wr hm T k e g c r)(l:g r=some y)(h:ahead n hm r c y):Walk n wr hm T k e (set g r c) y (next n r):=by
 have J:=W.nx l;have K:=W.lt l;have D:=W.o.home c;have m:=W.o.home y;have E:c≠y:=λz=>W.nin r W.hr (by rw[z];exact l);have F:e≠r:=λz=>by have:=W.ge;rw[z,l] at this;cases this
 have w:=way (g:=g) m W.hr W.he W.ge λi f u=>by by_cases q:Ab n (hm y) i=Ab n (hm y) r;{rw[qj8 m f W.hr q];exact⟨y,l⟩};obtain⟨x,s,_⟩:=W.o.path' W.hr f l ⋯;exact⟨x,s⟩
 have L:=qm1 m W.hr w;refine⟨⟨W.o.home,λi j x f t a p=>?_,λi x f a u=>?_⟩,λi f a=>?_,qm3 W.hr,λj t u=>?_,W.he,by rw[qe2 F];exact W.ge,⋯,λx=>?_,λG=>?_⟩;{by_cases b:i=r;{by_cases e2:j=r;{rw[b,e2]};rw[b,qc3] at a;rw[qe2 e2] at p;cases a;exact absurd p (W.nin j t)};rw[qe2 b] at a;by_cases e2:j=r;{rw[e2,qc3] at p;cases p;exact absurd a (W.nin i f)};rw[qe2 e2] at p;exact W.o.inj i j x f t a p}
 .have H:=qp5 f;by_cases b:i=r
  .subst b;rw[qc3] at a;cases a;have d:=qe5 D f u;obtain⟨x,s,A⟩:=W.pth (prev n i) H ⋯;have:prev n i≠i:=λz=>by rw[z] at d;lia
   exact⟨x,by rw[qe2 this];exact s,A⟩
  rw[qe2 b] at a;obtain⟨z,v,B⟩:=W.o.ord i x f a u;by_cases e2:prev n i=r;{rw[e2] at v B ⊢;rw[l] at v;cases v;exact⟨c,qc3,qx3 h B⟩};exact⟨z,by rw[qe2 e2];exact v,B⟩
 {by_cases b:i=r;{rw[b,qc3] at a;exact E (P8 a)};rw[qe2 b] at a;exact b (W.o.inj i r y f W.hr a l)};{by_cases q:Ab n (hm y) j=Ab n (hm y) r;{rw[qj8 m t W.hr q];exact⟨c,qc3,h⟩};obtain⟨x,s,A⟩:=W.o.path' W.hr t l ⋯;have:j≠r:=λz=>q (by rw[z]);exact⟨x,by rw[qe2 this];exact s,A⟩};{rw[W.all x];constructor;{rintro (z|⟨i,f,a⟩);{exact .inr ⟨r,W.hr,by rw[z];exact qc3⟩};by_cases b:i=r;{rw[b,l] at a;exact .inl (P8 a).symm};exact .inr ⟨i,f,by rw[qe2 b];exact a⟩};rintro (z|⟨i,f,a⟩);{exact .inr ⟨r,W.hr,by rw[z];exact l⟩};by_cases b:i=r;{rw[b,qc3] at a;exact .inl (P8 a).symm};rw[qe2 b] at a;exact .inr ⟨i,f,a⟩};obtain⟨I,M,C⟩:=W.ln G;have N:=C r y W.hr l;refine⟨I,?_,λi x f a=>?_⟩;{have O:=dor n (hm k) r;have P:=dor n (hm k) e;have Q:=nor n r;have:=W.hr;have:=W.he;have:=W.o.home k;lia};by_cases b:i=r;{rw[b,qc3] at a;cases a;lia};rw[qe2 b] at a;exact C i x f a
structure Kept(n:Nat)(wr:Bool)(hm:Int->Nat)(g:Nat->Option Int)(S:List Int):Prop where
 o:Ord n hm g
 c:Kz n hm g
 h:Holds n g S
 ln:wr=false->∀i x,i<n->g i=some x->hm x<=i
theorem Walk.done(W:Walk n wr hm T k e g c r)(v:T.Nodup)(q:g r=none):Kept n wr hm (set g r c) T:=by
 have w:=W.o.home c;have h:=qm3 W.hr;refine⟨⟨W.o.home,λi j x f t a l=>?_,λi x f a p=>?_⟩,⟨next n r,h,λx u=>?_⟩,⟨v,λx=>?_⟩,λy=>?_⟩;{by_cases b:i=r;{by_cases e2:j=r;{rw[b,e2]};rw[b,qc3] at a;rw[qe2 e2] at l;cases a;exact absurd l (W.nin j t)};rw[qe2 b] at a;by_cases e2:j=r;{rw[e2,qc3] at l;cases l;exact absurd a (W.nin i f)};rw[qe2 e2] at l;exact W.o.inj i j x f t a l}
 .have A:=qp5 f;by_cases b:i=r
  .subst b;rw[qc3] at a;cases a;have d:=qe5 w f p;obtain⟨x,s,B⟩:=W.pth (prev n i) A ⋯;have:prev n i≠i:=λz=>by rw[z] at d;lia
   exact⟨x,by rw[qe2 this];exact s,B⟩
  rw[qe2 b] at a;obtain⟨z,m,C⟩:=W.o.ord i x f a p;by_cases e2:prev n i=r;{rw[e2,q] at m;cases m};exact⟨z,by rw[qe2 e2];exact m,C⟩
 .have s:=W.o.home x;by_cases b:next n r=r
  {have:=nor n r;have:=W.hr;lia};rw[qe2 b] at u;by_cases p:0<Ab n (hm x) (next n r);{obtain⟨z,m,_⟩:=W.o.ord _ x h u p;rw[ql8 W.hr,q] at m;cases m};exact((qc2 s h).mp ⋯).symm
 {rw[W.all x];constructor;{rintro (z|⟨i,f,a⟩);{exact⟨r,W.hr,by rw[z];exact qc3⟩};exact⟨i,f,by rw[qe2 (λz=>by rw[z,q] at a;cases a)];exact a⟩};rintro⟨i,f,a⟩;by_cases b:i=r;{rw[b,qc3] at a;exact .inl (P8 a).symm};rw[qe2 b] at a;exact .inr ⟨i,f,a⟩};obtain⟨E,F,D⟩:=W.ln y;intro i x f a;by_cases b:i=r;{rw[b,qc3] at a;cases a;lia};rw[qe2 b] at a;exact D i x f a
def Jq(n:Nat)(wr:Bool)(hm:Int->Nat)(g:Nat->Option Int)(k:Int)(e:Nat):Prop:=e<n/\g e=none/\(wr=false->hm k<=e)
theorem Kept.start(K:Kept n wr hm g S)(c:¬k∈S)(F:Jq n wr hm g k e):Walk n wr hm (S++[k]) k e g k (hm k):=by have a:=K.o.home k;have z:=(qc2 a a).mpr rfl;refine⟨K.o,λi d f=>c ((K.h.2 k).mpr ⟨i,d,f⟩),a,λj _ l=>⋯,F.1,F.2.1,⋯,λx=>?_,λb=>⟨F.2.2 b,zA3 _,K.ln b⟩⟩;rw[zAf,zAd,K.h.2 x];exact⟨Or.symm,Or.symm⟩
def Crowd(n:Nat)(wr:Bool)(hm:Int->Nat)(T:List Int)(q:Nat):Prop:=q<n/\if wr=true then q=0/\n<T.length else n-q<(T.filter (λk=>decide (q<=hm k))).length
theorem qR3(h:i∈(N7 (n-q)).map (q + ·)):q<=i/\i<n:=by obtain⟨j,a,rfl⟩:=zB8.mp h;have:=zAo.mp a;lia
theorem qaH6(h:q<=i)(h':i<n):i∈(N7 (n-q)).map (q + ·):=zB8.mpr ⟨i-q,zAo.mpr ⋯,⋯⟩
theorem qag2:((N7 m).map (q + ·)).Nodup:=by rw[List.nodup_iff_pairwise_ne,zBx];exact(List.nodup_iff_pairwise_ne.mp Ol).imp λh=>⋯
theorem Kept.no_crowd(K:Kept n wr hm g S)(q:Nat):¬Crowd n wr hm S q:=by
 rintro⟨d,h⟩;cases wr with
 |true=>
  rw[if_pos rfl] at h;have:=qB9 (g:=g) (N7 n) S K.h.1 λk a=>by obtain⟨i,b,c⟩:=(K.h.2 k).mp a;exact⟨i,zAo.mpr b,c⟩
  rw[zBa] at this;lia
 |false=>
  rw[if_neg ∅] at h;have:=qB9 (g:=g) ((N7 (n-q)).map (q + ·)) (S.filter (λk=>decide (q<=hm k))) (K.h.1.filter _) λk a=>by obtain⟨a,d⟩:=zAt.mp a;obtain⟨i,b,c⟩:=(K.h.2 k).mp a;have:=K.ln rfl i k b c;have d:=zAh d;exact⟨i,qaH6 ⋯ b,c⟩
  rw[zAe,zBa] at this;lia
theorem Kept.crowd(K:Kept n wr hm g S)(u:∀e,¬Jq n wr hm g k e):∃q,Crowd n wr hm (S++[k]) q:=by
 have v:=K.o.home k;have full:∀e,e<n->(wr=false->hm k<=e)->∃x,g e=some x:=λe f s=>by cases h:g e with|some x=>exact⟨x,rfl⟩|none=>exact absurd ⟨f,h,s⟩ (u e)
 cases wr with
 |true=>refine⟨0,⋯,?_⟩;rw[if_pos rfl];refine⟨rfl,?_⟩;have:=qX6 (g:=g) (N7 n) S Ol (λi b=>by obtain⟨x,c⟩:=full i (zAo.mp b) (λz=>by cases z);exact⟨x,(K.h.2 x).mpr ⟨i,zAo.mp b,c⟩,c⟩) λi b j p x=>K.o.inj i j x (zAo.mp b) (zAo.mp p);rw[zBa] at this;rw[zAb];simp only[zAm,zCo];lia|false=>
  have w:∀m,m<=hm k->(∀e,m<=e->e<n->∃x,g e=some x)->∃q,q<=hm k/\(∀e,q<=e->e<n->∃x,g e=some x)/\(q=0∨g (q-1)=none):=by intro m;induction m with|zero=>exact λd a=>⟨0,d,a,.inl rfl⟩|succ m A=>intro d a;cases h:g m with|none=>exact⟨m+1,d,a,.inr h⟩|some x=>refine A ⋯ λe f r=>?_;by_cases q:e=m;{rw[q];exact⟨x,h⟩};exact a e ⋯ r
  obtain⟨q,B,C,l⟩:=w (hm k) (zA3 _) λe f r=>full e r λ_=>f;refine⟨q,⋯,?_⟩;rw[if_neg ∅];have:=qX6 (g:=g) ((N7 (n-q)).map (q + ·)) (S.filter (λk=>decide (q<=hm k))) qag2 (λi b=>by obtain⟨d,a⟩:=qR3 b;obtain⟨x,c⟩:=C i d a;refine⟨x,zAt.mpr ⟨(K.h.2 x).mpr ⟨i,a,c⟩,zAi ?_⟩,c⟩;have D:=K.o.home x;have s:=K.ln rfl i x a c;refine zC2 λE=>?_;rcases l with l|l;{lia};obtain⟨y,t,_⟩:=K.o.path' (i:=q-1) a ⋯ c (by have G:=dor n (hm x) (q-1);have H:=dor n (hm x) i;lia);rw[l] at t;cases t) λi b j p x=>K.o.inj i j x (qR3 b).2 (qR3 p).2;rw[zAe,zBa] at this;have F:([k].filter (λk=>decide (q<=hm k))).length=1:=by simp[B]
  rw[List.filter_append,zAb,F];lia
theorem Crowd.mono{S T:List Int}(h:Crowd n wr hm S q)(a:S.Sublist T):Crowd n wr hm T q:=by obtain⟨b,h⟩:=h;refine⟨b,?_⟩;cases wr with|true=>rw[if_pos rfl] at h ⊢;have:=a.length_le;exact⟨h.1,⋯⟩|false=>rw[if_neg ∅] at h ⊢;have:=(a.filter (λk=>decide (q<=hm k))).length_le;lia
theorem Crowd.perm{S T:List Int}(h:Crowd n wr hm S q)(a:S.Perm T):Crowd n wr hm T q:=by obtain⟨b,h⟩:=h;refine⟨b,?_⟩;rw[<-a.length_eq,<-(a.filter _).length_eq];exact h
theorem Kept.none(a:0<n)(b:∀k,hm k<n):Kept n wr hm (λ_=>none) []:=⟨⟨b,(λ_ _ _ _ _ h=>by cases h),λ_ _ _ h=>by cases h⟩,⟨0,a,λ_ h=>by cases h⟩,⟨O0,λk=>⟨λh=>by simp at h,λ⟨_,_,h⟩=>by cases h⟩⟩,λ_ _ _ _ h=>by cases h⟩
theorem Kept.same(K:Kept n wr hm g S)(K':Kept n wr hm g' S')(a:∀k,k∈S↔k∈S'):∀j,j<n->g j=g' j:=qaG5 K.o K'.o K.c K'.c K.h ⟨K.h.1,λk=>(a k).trans (K'.h.2 k)⟩
end
noncomputable def rot(n s t:Nat):Nat:=if s+t<n then s+t else s+t-n
theorem qT8(a:s<n)(b:t<n):rot n s t<n:=by unfold rot;split<;>lia
theorem qs2(a:s<n)(b:t<n):Ab n s (rot n s t)=t:=by have d:=dor n s (rot n s t);unfold rot at d ⊢;split at d<;>split<;>lia
theorem qq7(a:s<n)(hi:i<n):rot n s (Ab n s i)=i:=by have d:=dor n s i;unfold rot;split<;>lia
theorem qay5(a:s<n)(b:t<n):(s+t)%n=rot n s t:=by unfold rot;split;{exact zCi (by assumption)};rw[Nat.mod_eq_sub_mod ⋯];exact zCi ⋯
def As(n:Nat)(g:Nat->Option Int)(r J:Nat):Nat->Option Int:=λi=>if Ab n r i<J then g (next n i) else if Ab n r i=J then none else g i
structure Sh(n:Nat)(hm:Int->Nat)(g:Nat->Option Int)(r J:Nat):Prop where
 hJ:J<n
 mv:∀t,1<=t->t<=J->∃x,g (rot n r t)=some x/\0<Ab n (hm x) (rot n r t)
section
variable{n:Nat}{wr:Bool}{hm:Int->Nat}{g:Nat->Option Int}{r J:Nat}{k:Int}{S:List Int}
theorem qai3(a:r<n):rot n r 0=r:=by unfold rot;rw[if_pos ⋯];rfl
theorem qC7(a:r<n)(b:t+1<n):next n (rot n r t)=rot n r (t+1):=by
 unfold rot next
 split<;>split<;>split<;>lia
theorem qx4(a:r<n)(b:J+1=n):next n (rot n r J)=r:=by
 unfold rot next
 split<;>split<;>lia
theorem Sh.start(a:r<n):Sh n hm g r 0:=⟨⋯,λt b c=>⋯⟩
theorem Sh.step(h:Sh n hm g r J)(a:J+1<n)(b:g (rot n r (J+1))=some x)(c:0<Ab n (hm x) (rot n r (J+1))):Sh n hm g r (J+1):=⟨a,λt d f=>by
 by_cases e:t=J+1
 . subst e;exact⟨x,b,c⟩
 exact h.mv t d ⋯⟩
theorem qz8(a:r<n)(hi:i<n):As n g r 0 i=if i=r then none else g i:=by unfold As;rw[if_neg ⋯];by_cases e:i=r;{rw[if_pos e,if_pos ((qc2 a hi).mpr e)]};rw[if_neg e,if_neg λz=>e ((qc2 a hi).mp z)]
theorem qM9(a:r<n)(b:J<n):As n g r J (rot n r J)=none:=by unfold As;rw[qs2 a b,if_neg ⋯,if_pos rfl]
theorem qz9(a:r<n)(b:J+1<n):As n g r J (rot n r (J+1))=g (rot n r (J+1)):=by unfold As;rw[qs2 a b,if_neg ⋯,if_neg ⋯]
theorem qG1(a:r<n)(b:0<J):As n g r J r=g (next n r):=by unfold As;rw[(qc2 a a).mpr rfl,if_pos b]
theorem qah3(a:r<n)(d:J+1<n)(hi:i<n):As n g r (J+1) i=if i=rot n r (J+1) then none else if i=rot n r J then g (rot n r (J+1)) else As n g r J i:=by have j:=qs2 a d;have e2:=qs2 a (show J<n by lia);by_cases b:i=rot n r (J+1);{rw[if_pos b,b];exact qM9 a d};rw[if_neg b];have f:Ab n r i≠J+1:=λz=>b (by rw[<-z,qq7 a hi]);by_cases c:i=rot n r J;{rw[if_pos c,c];unfold As;rw[e2,if_pos ⋯,qC7 a d]};rw[if_neg c];have h:Ab n r i≠J:=λz=>c (by rw[<-z,qq7 a hi]);unfold As;by_cases e:Ab n r i<J;{rw[if_pos e,if_pos ⋯]};rw[if_neg e,if_neg ⋯,if_neg f,if_neg h]
theorem Sh.round(h:Sh n hm g r J)(O:Ord n hm g)(C:Kz n hm g)(d:r<n)(j:g r=some k)(u:J+1=n)(l:g (next n r)=some x)(v:0<J):Ab n (hm x) r=0:=by
 obtain⟨i,a,m⟩:=C;have f:i=r:=by by_cases e:i=r;{exact e};have w:=qj3 a d;have A:Ab n r i≠0:=λz=>e ((qc2 d a).mp z);obtain⟨y,b,c⟩:=h.mv (Ab n r i) ⋯ ⋯;rw[qq7 d a] at b c;have:=(qc2 (O.home y) a).mpr (m y b).symm;lia
 subst f;have s:=(qc2 (O.home k) a).mpr (m k j).symm;have o:next n i=rot n i 1:=by have:=qC7 (t:=0) a ⋯;rwa[qai3 a] at this
 obtain⟨y,b,c⟩:=h.mv 1 (zA3 _) ⋯;rw[<-o,l] at b;cases b;rw[<-o] at c;obtain⟨z,p,q⟩:=O.ord (next n i) x (qm3 a) l c;rw[ql8 a,j] at p;cases p;rw[ql8 a] at q;unfold ahead at q;lia
def Stop(n:Nat)(wr:Bool)(hm:Int->Nat)(g:Nat->Option Int)(r J:Nat):Prop:=(wr=false/\rot n r J+1=n)∨∀x,As n g r J (next n (rot n r J))=some x->Ab n (hm x) (next n (rot n r J))=0
theorem Kept.taken(K:Kept n wr hm g S)(m:r<n)(E:g r=some k)(h:Sh n hm g r J)(st:Stop n wr hm g r J):Kept n wr hm (As n g r J) (S.filter λx=>decide (x≠k)):=by
 have N:=h.hJ;have O:=K.o;have F:∀i x,i<n->Ab n r i<J->g (next n i)=some x->Ab n r (next n i)=Ab n r i+1/\0<Ab n (hm x) (next n i)/\Ab n (hm x) i+1=Ab n (hm x) (next n i):=λi x f H l=>by have e:=qm1 m f ⋯;obtain⟨y,u,C⟩:=h.mv (Ab n r i+1) ⋯ ⋯;rw[<-e,qq7 m (qm3 f)] at u C;rw[l] at u;cases u;have:=qe5 (O.home x) (qm3 f) C;rw[ql8 f] at this;exact⟨e,C,⋯⟩
 have w:∀i x,i<n->As n g r J i=some x->(Ab n r i<J/\g (next n i)=some x)∨(J<Ab n r i/\g i=some x):=λi x f l=>by unfold As at l;split at l;{exact .inl ⟨by assumption,l⟩};split at l;{cases l};exact .inr ⟨⋯,l⟩
 have A:∀i x,i<n->As n g r J i=some x->∃j,j<n/\g j=some x/\j≠r/\(j=next n i/\Ab n r i<J∨j=i/\J<Ab n r i):=λi x f l=>by rcases w i x f l with⟨s,q⟩|⟨s,q⟩;{refine⟨next n i,qm3 f,q,λz=>?_,.inl ⟨rfl,s⟩⟩;have e:=qm1 m f ⋯;rw[z,(qc2 m m).mpr rfl] at e;lia};refine⟨i,f,q,λz=>?_,.inr ⟨rfl,s⟩⟩;rw[z,(qc2 m m).mpr rfl] at s;lia
 refine⟨⟨O.home,λi j x f t s q=>?_,λi x f l H=>?_⟩,?_,⟨K.h.1.filter _,λx=>?_⟩,λI i x f l=>?_⟩;{obtain⟨a,v,U,na,V⟩:=A i x f s;obtain⟨b,L,W,nb,X⟩:=A j x t q;have:=O.inj a b x v L U W;subst this;rcases V with⟨D,P⟩|⟨D,P⟩<;>rcases X with⟨e2,Q⟩|⟨e2,Q⟩;{have:=congrArg (prev n) (D.symm.trans e2);rwa[ql8 f,ql8 t] at this};{have e:=qm1 m f ⋯;rw[<-D,e2] at e;lia};{have e:=qm1 m t ⋯;rw[<-e2,D] at e;lia};rw[<-D,<-e2]}
 .rcases w i x f l with⟨s,q⟩|⟨s,q⟩
  .obtain⟨e,C,Y⟩:=F i x f s q;obtain⟨y,u,v⟩:=O.ord (next n i) x (qm3 f) q C;rw[ql8 f] at u v;have G:0<Ab n (hm y) i:=by unfold ahead at v;lia
   have D:=qe5 (O.home x) f H;have e2:=qe5 (O.home y) f G;have Z:=qp5 f;by_cases e0:Ab n r i=0
   .have:=(qc2 m f).mp e0;subst this;have hlast:Ab n i (prev n i)=n-1:=by have d:=dor n i (prev n i);have p:=por n i;lia
    by_cases M:J+1=n;{have:=h.round O K.c f E M q ⋯;lia};rw[E] at u;cases u;obtain⟨z,hz,L⟩:=O.ord i k f E G;refine⟨z,?_,?_⟩;{unfold As;rw[hlast,if_neg ⋯,if_neg ⋯];exact hz};refine qx3 L ?_;unfold ahead at v ⊢;lia
   have R:=qe5 m f ⋯;refine⟨y,?_,?_⟩;{unfold As;rw[R,if_pos ⋯,qK1 f];exact u};unfold ahead at v ⊢;lia
  obtain⟨y,u,v⟩:=O.ord i x f q H;refine⟨y,?_,v⟩;have R:=qe5 m f ⋯;by_cases T:Ab n r (prev n i)=J
  .exfalso;have ei:prev n i=rot n r J:=by rw[<-T,qq7 m (qp5 f)]
   have en:next n (rot n r J)=i:=by rw[<-ei,qK1 f]
   rcases st with⟨I,hl⟩|st
   .have:i=0:=by have p:=nor n (rot n r J);lia
    subst this;have:=K.ln I 0 x f q;have d:=dor n (hm x) 0;lia
   rw[en] at st;have:=st x l;lia
  unfold As;rw[if_neg ⋯,if_neg T];exact u
 {exact⟨rot n r J,qT8 m N,λx l=>by rw[qM9 m N] at l;cases l⟩};{rw[zAt,K.h.2 x,zB5];constructor;{rintro⟨⟨j,t,B⟩,ne⟩;have jr:j≠r:=λz=>ne (by rw[z,E] at B;exact(P8 B).symm);have d0:Ab n r j≠0:=λz=>jr ((qc2 m t).mp z);by_cases H:Ab n r j<=J;{have e:=qe5 m t ⋯;refine⟨prev n j,qp5 t,?_⟩;unfold As;rw[e,if_pos ⋯,qK1 t];exact B};refine⟨j,t,?_⟩;unfold As;rw[if_neg ⋯,if_neg ⋯];exact B};rintro⟨i,f,l⟩;obtain⟨j,t,B,nj,_⟩:=A i x f l;refine⟨⟨j,t,B⟩,λz=>?_⟩;subst z;exact nj (O.inj j r x t m B E)};rcases w i x f l with⟨s,q⟩|⟨s,q⟩;{obtain⟨e,C,Y⟩:=F i x f s q;have:=K.ln I (next n i) x (qm3 f) q;have nn:=nor n i;have P:=dor n (hm x) (next n i);have Q:=dor n (hm x) i;lia};exact K.ln I i x f q
end
def L7(hm:Int->Nat)(x y:Int):Prop:=hm x<hm y∨(hm x=hm y/\x<y)
structure Fill(n:Nat)(hm:Int->Nat)(g:Nat->Option Int)(S:List Int)(top:Nat):Prop where
 k:Kept n false hm g S
 free:∀i,top<=i->i<n->g i=none
 last:0<top->∃x,g (top-1)=some x/\x∈S
 le:top<=n
theorem Fill.start(a:0<n)(b:∀k,hm k<n):Fill n hm (λ_=>none) [] 0:=⟨Kept.none a b,λ_ _ _=>rfl,λh=>absurd h ⋯,⋯⟩
section
variable{n:Nat}{hm:Int->Nat}{g:Nat->Option Int}{S:List Int}{top:Nat}{k:Int}
theorem Fill.put(F:Fill n hm g S top)(l:¬k∈S)(C:∀x∈S,L7 hm x k)(m:max top (hm k)<n):Fill n hm (set g (max top (hm k)) k) (S++[k]) (max top (hm k)+1):=by
 generalize J:max top (hm k)=r at m ⊢;have p:top<=r:=⋯;have q:hm k<=r:=⋯;have D:g r=none:=F.free r p m;have below:∀i x,i<n->g i=some x->i<top:=λi x b a=>by by_cases h:top<=i;{rw[F.free i h b] at a;cases a};lia
 have s:∀i x,i<n->set g r k i=some x->hm x<=i:=λi x b a=>by by_cases e:i=r;{subst e;rw[qc3] at a;cases a;exact q};rw[qe2 e] at a;exact F.k.ln rfl i x b a
 have mem:∀i x,i<n->g i=some x->x∈S:=λi x b a=>(F.k.h.2 x).mpr ⟨i,b,a⟩;refine⟨⟨⟨F.k.o.home,λi j x b z a d=>?_,λi x b a t=>?_⟩,⟨0,⋯,λx E=>?_⟩,⟨?_,λx=>⟨λc=>?_,λ⟨i,b,a⟩=>?_⟩⟩,λ_ i x b a=>s i x b a⟩,λi b G=>?_,λ_=>⟨k,by rw[Nat.add_sub_cancel,qc3],zAw _ (zAd.mpr rfl)⟩,⋯⟩;{by_cases u:i=r;{by_cases e2:j=r;{rw[u,e2]};subst u;rw[qc3] at a;cases a;rw[qe2 e2] at d;exact absurd (mem j _ z d) l};rw[qe2 u] at a;by_cases e2:j=r;{subst e2;rw[qc3] at d;cases d;exact absurd (mem i _ b a) l};rw[qe2 e2] at d;exact F.k.o.inj i j x b z a d}
 .have c:=s i x b a;have K:i≠0:=λe=>by have:=(qc2 (F.k.o.home x) b).mpr ⋯;lia
  have A:prev n i=i-1:=by rcases por n i with h|h<;>lia
  by_cases e:i=r
  .subst e;rw[qc3] at a;cases a;have H:hm k<i:=by unfold Ab at t;split at t<;>lia
   have B:top=i:=⋯;obtain⟨y,f,v⟩:=F.last ⋯;have w:hm y<=i-1:=F.k.ln rfl (i-1) y ⋯ (by rw[<-B];exact f);refine⟨y,by rw[A,qe2 ⋯,<-B];exact f,?_⟩;rw[A];unfold ahead Ab;rw[if_pos ⋯,if_pos w];rcases C y v with h|h;{exact .inl ⋯};exact .inr ⟨⋯,h.2⟩
  rw[qe2 e] at a;have L:=below i x b a;obtain⟨y,f,I⟩:=F.k.o.ord i x b a t;exact⟨y,by rw[qe2 ⋯];exact f,I⟩
 {have:=s 0 x ⋯ E;lia};{refine zBs.mpr ⟨F.k.h.1,(by simp),λx c y v e=>?_⟩;rw[zAd.mp v] at e;exact l (e ▸ c)};{rcases zAf.mp c with c|c;{obtain⟨i,b,a⟩:=(F.k.h.2 x).mp c;exact⟨i,b,by rw[qe2 λe=>by rw[e,D] at a;cases a];exact a⟩};rw[zAd.mp c];exact⟨r,m,qc3⟩};{by_cases e:i=r;{subst e;rw[qc3] at a;cases a;exact zAw _ (zAd.mpr rfl)};rw[qe2 e] at a;exact zC7 _ (mem i x b a)};rw[qe2 ⋯];exact F.free i ⋯ G
theorem Fill.room(F:Fill n hm g S top)(i:∀x∈S,L7 hm x k)(j:∀q,¬Crowd n false hm (S++[k]) q):max top (hm k)<n:=by
 have u:=F.k.o.home k;have l:=F.le;by_cases h:top<n;{lia};have v:top=n:=⋯;obtain⟨q,c⟩:=F.k.crowd (k:=k) λe ⟨m,b,a⟩=>by
  have a:=a rfl;obtain⟨y,d,p⟩:=F.last ⋯;have f:=F.k.ln rfl (top-1) y ⋯ d;have r:hm y<=hm k:=by rcases i y p with h|h<;>lia
  by_cases s:e=top-1;{rw[s,d] at b;cases b};obtain⟨x,t,_⟩:=F.k.o.path' ⋯ m d (show Ab n (hm y) e<Ab n (hm y) (top-1) by unfold Ab;rw[if_pos ⋯,if_pos f];lia);rw[t] at b;cases b
 exact absurd c (j q)
end
noncomputable def Hv(hm:Int->Nat)(T:List Int)(r:Nat):Nat:=(T.filter λk=>decide (hm k=r)).length
noncomputable def Hd(hm:Int->Nat)(T:List Int)(q r:Nat):Nat:=(T.filter λk=>decide (q<=hm k/\hm k<r)).length
theorem qaa6{hm:Int->Nat}{q r:Nat}(h:q<=r):∀T:List Int,Hd hm T q (r+1)=Hd hm T q r+Hv hm T r|[]=>rfl|k::T=>by have a:=qaa6 (hm:=hm) h T;unfold Hd Hv at a ⊢;simp only[List.filter_cons,zB5];split<;>split<;>split<;>(try simp only[zAm])<;>lia
theorem qaw7(T:List Int):Hd hm T r r=0:=by unfold Hd;rw[List.length_eq_zero_iff,List.filter_eq_nil_iff];intro k _ h;have:=zAh h;lia
section
variable{n:Nat}{hm:Int->Nat}{g:Nat->Option Int}{S:List Int}{k:Int}
theorem Kept.len(KP:Kept n wr hm g S):S.length<=n:=by
 have:=qB9 (N7 n) S KP.h.1 λk a=>by obtain⟨i,b,e⟩:=(KP.h.2 k).mp a;exact⟨i,zAo.mpr b,e⟩
 rwa[zBa] at this
end
noncomputable def onC(c:Nat->Nat):Nat->Int|0=>0|r+1=>if onC c r+(c r:Int)-1>0 then onC c r+(c r:Int)-1 else 0
noncomputable def sumC(c:Nat->Nat)(q:Nat):Nat->Nat|0=>0|m+1=>sumC c q m+c (q+m)
section
variable{c:Nat->Nat}
theorem qN5:∀r:Nat,0<=onC c r|0=>Int.le_refl _|r+1=>by unfold onC;split<;>lia
theorem qaG7{q:Nat}:∀m:Nat,(sumC c q m:Int)-(m:Int)<=onC c (q+m)|0=>by have:=qN5 (c:=c) q;show ((0:Nat):Int)-_<=_;rw[Nat.add_zero];lia|m+1=>by have:=qaG7 (q:=q) m;show ((sumC c q m+c (q+m):Nat):Int)-_<=onC c (q+m+1);unfold onC;split<;>lia
theorem qaG8:∀r:Nat,onC c r=0∨∃q m,q+m=r/\0<m/\onC c r=(sumC c q m:Int)-(m:Int)|0=>.inl rfl|r+1=>by by_cases h:onC c r+(c r:Int)-1>0;{right;have e:onC c (r+1)=onC c r+(c r:Int)-1:=if_pos h;rcases qaG8 r with b|⟨q,m,a,d,f⟩;{exact⟨r,1,rfl,⋯,by rw[e];show _=((0+c (r+0):Nat):Int)-_;rw[Nat.add_zero];lia⟩};exact⟨q,m+1,⋯,⋯,by rw[e];show _=((sumC c q m+c (q+m):Nat):Int)-_;rw[a];lia⟩};exact .inl (if_neg h)
theorem qag4{q m:Nat}:∀l:Nat,sumC c q (m+l)=sumC c q m+sumC c (q+m) l|0=>rfl|l+1=>by show sumC c q (m+l)+c (q+(m+l))=sumC c q m+(sumC c (q+m) l+c (q+m+l));rw[qag4 l,show q+(m+l)=q+m+l by lia];lia
end
section
variable{n b:Nat}{hm:Int->Nat}{T:List Int}
def cR(n:Nat)(hm:Int->Nat)(T:List Int):Nat->Nat:=λt=>Hv hm T (t%n)
theorem qbf5:cR n hm T (n+t)=cR n hm T t:=by unfold cR;rw[Nat.add_mod_left]
theorem qay4{q:Nat}:∀m,sumC (cR n hm T) (n+q) m=sumC (cR n hm T) q m|0=>rfl|m+1=>by show sumC _ (n+q) m+cR n hm T (n+q+m)=_;rw[qay4 m,Nat.add_assoc,qbf5];rfl
theorem qI0{s q:Nat}(a:b<n)(c:s%n=b)(d:∀k,hm k<n):∀m,q+m<=n->sumC (cR n hm T) (s+q) m=Hd (λk=>Ab n b (hm k)) T q (q+m)
 |0,_=>by rw[Nat.add_zero,qaw7];rfl|m+1,h=>by
  show sumC _ (s+q) m+cR n hm T (s+q+m)=_;rw[qI0 a c d m ⋯,show q+(m+1)=q+m+1 by lia,qaa6 ⋯];congr 1;unfold cR Hv;congr 1;refine Oh λk _=>zBv.mpr ?_;have e:(s+q+m)%n=rot n b (q+m):=by rw[Nat.add_assoc,Nat.add_mod,c,zCi (show q+m<n by lia),qay5 a ⋯]
  rw[e];constructor;{intro z;show Ab n b (hm k)=_;rw[z,qs2 a ⋯]};intro z;rw[<-show Ab n b (hm k)=_ from z,qq7 a (d k)]
theorem qaL3(a:∀k,hm k<n):Hd hm T 0 n=T.length:=by unfold Hd;rw[List.filter_eq_self.mpr λk _=>zAi ⟨zBi _,a k⟩]
theorem qaM9(a:0<n)(b:∀k,hm k<n):sumC (cR n hm T) 0 n=T.length:=by have:=qI0 (T:=T) (q:=0) a (Nat.zero_mod n) b n ⋯;rw[Nat.add_zero,zAl] at this;rw[this];refine(qaL3 λk=>qj3 (b k) a)
theorem qat0(f:0<n)(a:∀k,hm k<n):0<onC (cR n hm T) n↔∃q,Crowd n false hm T q:=by
 have e:∀q,q<=n->sumC (cR n hm T) q (n-q)=(T.filter λk=>decide (q<=hm k)).length:=λq d=>by have:=qI0 (T:=T) (s:=0) (q:=q) (b:=0) f (Nat.zero_mod n) a (n-q) ⋯;rw[zAl,show q+(n-q)=n by lia] at this;rw[this];unfold Hd;congr 2;exact funext λk=>zBv.mpr (by have:=a k;have i:Ab n 0 (hm k)=hm k:=if_pos (zBi _);dsimp only;lia)
 constructor;{intro h;rcases qaG8 (c:=cR n hm T) n with j|⟨q,m,d,g,l⟩;{lia};refine⟨q,⋯,?_⟩;rw[if_neg ∅,<-e q ⋯,show n-q=m by lia];lia};rintro⟨q,d,h⟩;rw[if_neg ∅,<-e q ⋯] at h;have:=qaG7 (c:=cR n hm T) (q:=q) (n-q);rw[show q+(n-q)=n by lia] at this;lia
theorem qaG6(i:0<n)(j:∀k,hm k<n)(w:T.length<=n):∃r,r<n/\onC (cR n hm T) (n+r+1)=0:=by
 by_cases h:∃r,r<n/\onC (cR n hm T) (n+r+1)=0;{exact h};exfalso;have pos:∀r,r<n->0<onC (cR n hm T) (n+r+1):=λr g=>by have:=qN5 (c:=cR n hm T) (n+r+1);have:onC (cR n hm T) (n+r+1)≠0:=λe=>h ⟨r,g,e⟩;lia
 have a:∀r,r<=n->onC (cR n hm T) (n+r)=onC (cR n hm T) n+(sumC (cR n hm T) n r:Int)-(r:Int):=λr=>by
  induction r with
  |zero=>intro _;show _=_+((0:Nat):Int)-_;rw[Nat.add_zero];lia|succ r l=>
   intro g;have d:=pos r ⋯;have x:=l ⋯;have e:onC (cR n hm T) (n+r+1)=if onC (cR n hm T) (n+r)+(cR n hm T (n+r):Int)-1>0 then onC (cR n hm T) (n+r)+(cR n hm T (n+r):Int)-1 else 0:=rfl
   show onC (cR n hm T) (n+r+1)=_+((sumC (cR n hm T) n r+cR n hm T (n+r):Nat):Int)-_;rw[e] at d ⊢;split at d;{rw[if_pos (by assumption)];lia};lia
 have sa:=qaM9 (T:=T) i j;have b:∀m,sumC (cR n hm T) n m=sumC (cR n hm T) 0 m:=λm=>qay4 (q:=0) m;have e2:=a n (zA3 _);have o:=pos (n-1) ⋯;rw[show n+(n-1)+1=n+n by lia] at o;rw[b] at e2;rcases qaG8 (c:=cR n hm T) n with y|⟨q,m,p,s,d⟩;{lia};have t:=a q ⋯;rw[b] at t;have u:=qag4 (c:=cR n hm T) (q:=0) (m:=q) m;rw[zAl,p] at u;by_cases f:q=0;{subst f;have:sumC (cR n hm T) 0 0=0:=rfl;lia};have v:=pos (q-1) ⋯;rw[show n+(q-1)+1=n+q by lia] at v;lia
theorem qN9(f:r<n)(a:∀k,hm k<n)(d:onC (cR n hm T) (n+r+1)=0):∀q,¬Crowd n false (λk=>Ab n ((r+1)%n) (hm k)) T q:=by
 rintro q ⟨h,c⟩;have b:(r+1)%n<n:=Nat.mod_lt _ ⋯;rw[if_neg ∅] at c;have e:=qI0 (T:=T) (s:=r+1) (q:=q) b rfl a (n-q) ⋯;have g:=qaG7 (c:=cR n hm T) (q:=r+1+q) (n-q);rw[show r+1+q+(n-q)=n+r+1 by lia,d,e,show q+(n-q)=n by lia] at g;have e2:Hd (λk=>Ab n ((r+1)%n) (hm k)) T q n=(T.filter λk=>decide (q<=Ab n ((r+1)%n) (hm k))).length:=by unfold Hd;congr 2;exact funext λk=>zBv.mpr (by have:=qj3 (a k) b;dsimp only;lia)
 have c:=e2 ▸ c;generalize Hd _ T q n=m at *
 lia
theorem Kept.turn(c:b<n)(p:∀k,hm k<n)(K:Kept n false (λk=>Ab n b (hm k)) g S):Kept n true hm (λi=>g (Ab n b i)) S:=by
 have f:∀i,i<n->Ab n b i<n:=λi a=>qj3 a c;have l:∀i x,i<n->g (Ab n b i)=some x->Ab n b (hm x)+Ab n (hm x) i=Ab n b i:=λi x a d=>Gh c (p x) a (K.ln rfl _ x (f i a) d);refine⟨⟨p,λi j x a m d u=>qj8 c a m (K.o.inj _ _ x (f i a) (f j m) d u),λi x a d v=>?_⟩,⟨b,c,λx w=>?_⟩,⟨K.h.1,λx=>⟨λA=>?_,λ⟨i,a,d⟩=>(K.h.2 x).mpr ⟨_,f i a,d⟩⟩⟩,λh=>nomatch h⟩
 .have f1:=l i x a d;have q:=K.ln rfl _ x (f i a) d;have B:Ab n (Ab n b (hm x)) (Ab n b i)=Ab n (hm x) i:=by unfold Ab at q ⊢;rw[if_pos q];unfold Ab at f1;lia
  obtain⟨y,r,s⟩:=K.o.ord _ x (f i a) d (by rw[B];exact v);have C:prev n (Ab n b i)=Ab n b (prev n i):=by rw[qe5 c a ⋯];rcases por n (Ab n b i) with h|h<;>lia
  rw[C] at r s;have t:=qp5 a;have f2:=l (prev n i) y t r;have D:=K.ln rfl _ y (f _ t) r;have f3:Ab n b (hm x)+Ab n (hm x) (prev n i)=Ab n b (prev n i):=Gh c (p x) t (by rw[qe5 c a ⋯];lia);refine⟨y,r,?_⟩;have E:Ab n (Ab n b (hm y)) (Ab n b (prev n i))=Ab n (hm y) (prev n i):=by have:Ab n (Ab n b (hm y)) (Ab n b (prev n i))=Ab n b (prev n i)-Ab n b (hm y):=if_pos D;lia
  have F:Ab n (Ab n b (hm x)) (Ab n b (prev n i))=Ab n (hm x) (prev n i):=by have:Ab n (Ab n b (hm x)) (Ab n b (prev n i))=Ab n b (prev n i)-Ab n b (hm x):=if_pos ⋯;lia
  unfold ahead at s ⊢;rwa[E,F] at s
 {have q:=K.ln rfl _ x (f b c) w;have z:Ab n b b=0:=(qc2 c c).mpr rfl;rw[z] at q;exact(qc2 c (p x)).mp ⋯};obtain⟨j,m,e⟩:=(K.h.2 x).mp A;exact⟨rot n b j,qT8 c m,by show g (Ab n b (rot n b j))=_;rw[qs2 c m];exact e⟩
end
theorem Kept.of_perm(K:Kept n wr hm g S)(p:S.Perm T):Kept n wr hm g T:=⟨K.1,K.2,⟨p.nodup_iff.mp K.h.1,λk=>p.mem_iff.symm.trans (K.h.2 k)⟩,K.4⟩
theorem J1:Ab n 0 i=i:=if_pos (zBi _)
theorem qaH5(b:a<n)(c:s<=n):((a:Int)-(s:Int))%(n:Int)=(Ab n (s%n) a:Nat):=by by_cases e:s=n;{subst e;rw[Nat.mod_self,J1,Int.sub_emod_right];exact zCb ⋯ ⋯};rw[zCi (show s<n by lia)];unfold Ab;split;{rw[zCb ⋯ ⋯];lia};rw[<-Int.add_emod_right,zCb ⋯ ⋯];lia
end Row
namespace My
open PySem L2
variable{H:Hp}
noncomputable def L8:V->Bool|.int _=>true|_=>false
noncomputable def qax7(l m:Int):V->Bool|.int i=>decide (l<=i)&&decide (i<=m)|_=>false
def numV:V->Bool:=qax7 0 1000000000000000000
theorem qaI4(h:Bf H x=some t):Ht t "int"=(L8 x||(match x with | .bl _=>true|_=>false)):=by cases x with|ref b=>unfold Bf at h;dsimp only at h;split at h<;>cases h<;>rfl|_=>cases h<;>rfl
theorem qau1(h:Bf H x=some t):Ht t "bool"=(match x with | .bl _=>true|_=>false):=by cases x with|ref b=>unfold Bf at h;dsimp only at h;split at h<;>cases h<;>rfl|_=>cases h<;>rfl
noncomputable def bagL(x y z:Int)(L:γ):HO:=.l [.int x,.int y,.int z,.ref L]
structure BagAt(H:Hp)(p:γ)(x y z:Int)(L:γ)(ns:List Int):Prop where
 at_:H p=some (bagL x y z L)
 li:H L=some (.l (ns.map V.int))
 x0:0<=x
 y0:0<=y
 y1:y<2147483647
 z0:0<=z
 nn:∀n∈ns,0<=n
def Bag(H:Hp)(p L:γ):Prop:=∃x y z ns,BagAt H p x y z L ns
theorem qbf9{ns:List Int}:HO.l (ns.map V.int)≠bagL x y z L:=by
 intro e;have e:ns.map V.int=[.int x,.int y,.int z,.ref L]:=by injection e
 have e:=congrArg (·[3]?) e;rw[zB9] at e;cases h:ns[3]? <;> rw[h] at e<;>cases e
theorem BagAt.ne(B:BagAt H p x y z L ns):L≠p:=ne_of B.li B.at_ qbf9
def qaY6(K:P'):Sp:=λvs H Q _=>∃(l:γ)(ns:List Int),vs=[.ref l]/\SqL K H l (ns.map V.int)/\ns.length<=63/\∀p L H',H p=none->H L=none->Same H H'->Bag H' p L->Q (.ref p) H'
def Ka(K:P'):Sp:=λvs H Q _=>∃(l:γ)(ns:List Int),vs=[.ref l]/\SqL K H l (ns.map V.int)/\ns.length<=63/\∀H',Q (.bl true) H'
abbrev Pr:=List (Int×Int)
def Am(n:Int):Prop:=0<=n/\n<=1000000000000000000
theorem qaR3:numV (.int n)=true↔Am n:=by show (decide (0<=n)&&decide (n<=1000000000000000000))=true↔_;rw[zBb,zB5,zB5];exact Iff.rfl
structure qG0(ps:Pr):Prop where
 len:ps.length<=64
 nd:(ps.map (·.1)).Nodup
 nums:∀p∈ps,Am p.1/\Am p.2
noncomputable def qd4(n:Int)(ps:Pr)(k:Int):Int:=((ps.lookup k).getD k)%n
def Fo(n:Int)(wr:Bool)(ps:Pr)(k r:Int):Option Int:=if wr then some ((r-qd4 n ps k)%n) else if 0<=r-qd4 n ps k then some (r-qd4 n ps k) else none
def qH6(n:Int)(wr:Bool)(ps:Pr)(r a other:Int):Bool:=match Fo n wr ps a r,Fo n wr ps other r with|none,_=>false|some _,none=>true|some x,some y=>decide (y<x)||(decide (x=y)&&decide (a<other))
theorem qaA8(h:1<=n)(ps:Pr)(k:Int):0<=qd4 n ps k/\qd4 n ps k<n:=⟨Int.emod_nonneg _ ⋯,zCl _ ⋯⟩
theorem qaI8(k:Int)(ks:List Int):inV (.int k) (ks.map V.int)=decide (k∈ks):=by unfold inV;rw[List.any_map,Bool.eq_iff_iff,List.any_eq_true,zB5];constructor;{rintro⟨x,a,e⟩;rw[<-zBm.mp (e)];exact a};intro h;exact⟨k,h,zB1 k⟩
end My
namespace My
open PySem L2
open Row
variable{n:Int}{ps:Pr}{r:Nat}
def Q0(n:Int)(ps:Pr)(k:Int):Nat:=(qd4 n ps k).toNat
theorem G3(h:1<=n)(k:Int):Q0 n ps k<n.toNat:=by have:=qaA8 h ps k;unfold Q0;lia
theorem qO8(h:1<=n)(k:Int):((Q0 n ps k:Nat):Int)=qd4 n ps k:=by have:=qaA8 h ps k;unfold Q0;lia
theorem qaw1(a:1<=n)(b:h<n.toNat)(c:r<n.toNat):((r:Int)-(h:Int))%n=(Ab n.toNat h r:Nat):=by
 rcases dor n.toNat h r with⟨h1,h2⟩|⟨h1,h2⟩;{rw[zCb ⋯ ⋯];lia};have e:((r:Int)-(h:Int))%n=((r:Int)-(h:Int)+n)%n:=by rw[Int.add_emod_right]
 rw[e,zCb ⋯ ⋯];have:=h2 ⋯;lia
theorem qP6(a:1<=n)(c:r<n.toNat)(d:wr=false->Q0 n ps k<=r):Fo n wr ps k (r:Int)=some ((Ab n.toNat (Q0 n ps k) r:Nat):Int):=by have e:=G3 (ps:=ps) a k;have b:=qO8 (ps:=ps) a k;unfold Fo;cases wr with|true=>rw[if_pos rfl,<-b,qaw1 a e c]|false=>have:=d rfl;rw[if_neg ∅,if_pos ⋯,<-b];have:=dor n.toNat (Q0 n ps k) r;congr 1;lia
theorem qM2(a:1<=n)(b:r<n.toNat)(c:wr=false->Q0 n ps x<=r)(d:wr=false->Q0 n ps y<=r):qH6 n wr ps (r:Int) x y=true↔ahead n.toNat (Q0 n ps) r x y:=by unfold qH6 ahead;rw[qP6 a b c,qP6 a b d];show (decide _||(decide _&&decide _))=true↔_;simp only[Bool.or_eq_true,zBb,zB5];lia
theorem qaH2(a:1<=n)(b:r<n.toNat):((r:Int)+1)%n=(Row.next n.toNat r:Nat):=by rcases nor n.toNat r with⟨h,e⟩|⟨h,e⟩;{rw[e,show ((r:Int)+1)=n by lia];simp};rw[e,zCb ⋯ ⋯];rfl
end My
namespace LV
open PySem L2
variable{Ao:List γ}{N:List Str}{P:List V'->Prop}{Q:VK}{base:Heap}{cd:Nu}{cm z:Bool}{i j n:Nat}{kvs:List (Key×V)}{lo:Int}{mg:Str->Option V'}{op:CmpOp}{v w:V}{vs:List V}{α:Type}{a':St}
inductive D where
 |non|bl (b:Bool)|int (i:Int)|str (x:Str)|ty (n:String)|adr (a:γ)
 |q (ds:List D)|l (z:Bool) (ds:List D)|dct (z:Bool) (kvs:List (Key×D))|ins (z:Bool) (C:γ) (fs:List (Str×D))
 |scr (ns:List Int)
 |exn (C:γ) (fs:List (Str×D))
 |hole (v:V)|u
mutual
def D.imm:D->Bool|.q ds=>D.imms ds|.l z _=>z|.dct z _=>z|.ins z _ _=>z|_=>true
def D.imms:List D->Bool|[]=>true|d::r=>d.imm&&D.imms r
end
mutual
def D.fz:D->D|.q ds=>.q (D.fzs ds)|.l _ ds=>.l true (D.fzs ds)|.dct _ kvs=>.dct true (D.fzk kvs)|.ins _ C fs=>.ins true C (D.fzf fs)|.exn C fs=>.exn C (D.fzf fs)|.non=>.non | .bl b=>.bl b | .int i=>.int i | .str x=>.str x | .ty n=>.ty n | .adr a=>.adr a | .scr ns=>.scr ns | .hole v=>.hole v | .u=>.u
def D.fzs:List D->List D|[]=>[]|d::r=>d.fz::D.fzs r
def D.fzk:List (Key×D)->List (Key×D)|[]=>[]|(k,d)::r=>(k,d.fz)::D.fzk r
def D.fzf:List (Str×D)->List (Str×D)|[]=>[]|(k,d)::r=>(k,d.fz)::D.fzf r
end
mutual
inductive Q8(F:γ->Prop)(H:Hp):V->D->List γ->Prop
 |non:Q8 F H .non .non []
 |bl (b:Bool):Q8 F H (.bl b) (.bl b) []
 |int (i:Int):Q8 F H (.int i) (.int i) []
 |str (x:Str):Q8 F H (.str x) (.str x) []
 |ty (n:String):Q8 F H (.ty n) (.ty n) []
 |adr (a:γ):Q8 F H (.ref a) (.adr a) []
 |q {a:γ} {vs:List V} {ds:List D} {A:List γ} (h:H a=some (.q vs)) (r:Q2 F H vs ds A):Q8 F H (.ref a) (.q ds) A
 |l {a:γ} {vs:List V} {ds:List D} {A:List γ} (h:H a=some (.l vs)) (r:Q2 F H vs ds A):Q8 F H (.ref a) (.l false ds) (a::A)
 |lstZ {a:γ} {vs:List V} {ds:List D} (h:H a=some (.l vs)) (f:F a) (r:Q2 F H vs ds []):Q8 F H (.ref a) (.l true ds) []
 |dct {a:γ} {kvs:List (Key×V)} {kds:List (Key×D)} {A:List γ} (h:H a=some (.dK kvs)) (e:kvs.map (·.1)=kds.map (·.1)) (r:Q2 F H (kvs.map (·.2)) (kds.map (·.2)) A):Q8 F H (.ref a) (.dct false kds) (a::A)
 |dctZ {a:γ} {kvs:List (Key×V)} {kds:List (Key×D)} (h:H a=some (.dK kvs)) (f:F a) (e:kvs.map (·.1)=kds.map (·.1)) (r:Q2 F H (kvs.map (·.2)) (kds.map (·.2)) []):Q8 F H (.ref a) (.dct true kds) []
 |ins {a C dx:γ} {fvs:List (Str×V)} {fds:List (Str×D)} {A:List γ} (h:H a=some (.ins C dx fvs)) (e:fvs.map (·.1)=fds.map (·.1)) (r:Q2 F H (fvs.map (·.2)) (fds.map (·.2)) A):Q8 F H (.ref a) (.ins false C fds) (a::A)
 |insZ {a C dx:γ} {fvs:List (Str×V)} {fds:List (Str×D)} (h:H a=some (.ins C dx fvs)) (f:F a) (e:fvs.map (·.1)=fds.map (·.1)) (r:Q2 F H (fvs.map (·.2)) (fds.map (·.2)) []):Q8 F H (.ref a) (.ins true C fds) []
 |scr {a:γ} {o:Obj} {ns:List Int} (h:H a=some (.frz o (.l (ns.map V.int)))):Q8 F H (.ref a) (.scr ns) []
 |exn {a C dx:γ} {fvs:List (Str×V)} {fds:List (Str×D)} (h:H a=some (Bm a C (some dx) false)) (g:H dx=some (XD dx fvs)) (e:fvs.map (·.1)=fds.map (·.1)) (r:Q2 F H (fvs.map (·.2)) (fds.map (·.2)) []):Q8 F H (.ref a) (.exn C fds) []
 |hole (v:V):Q8 F H v (.hole v) []
 |u (v:V):Q8 F H v .u []
inductive Q2(F:γ->Prop)(H:Hp):List V->List D->List γ->Prop
 |nil:Q2 F H [] [] []
 |cons {v:V} {d:D} {A:List γ} {vs:List V} {ds:List D} {B:List γ} (h:Q8 F H v d A) (t:Q2 F H vs ds B):Q2 F H (v::vs) (d::ds) (A++B)
end
noncomputable def Gq:HO->Bool|.l _=>true|.dK _=>true|.ins _ _ _=>true|_=>false
section
variable{F F':γ->Prop}{H H':Hp}
def Cel(H:Hp)(A:List γ):Prop:=∀b∈A,∃o,H b=some o/\Gq o=true
theorem Cel.cons(e:H a=some o)(m:Gq o=true)(h:Cel H A):Cel H (a::A):=λb c=>(zAj.mp c).elim (λq=>q ▸ ⟨_,e,m⟩) (h b)
theorem Cel.app(h:Cel H A)(g:Cel H B):Cel H (A++B):=λb a=>(zAf.mp a).elim (h b) (g b)
theorem Q8.cells{v:V}{d:D}{A:List γ}(r:Q8 F H v d A):Cel H A:=by induction r using Q8.rec with|q e r i=>exact i|l e r i=>exact Cel.cons e rfl i|dct e _ r i=>exact Cel.cons e rfl i|ins e _ r i=>exact Cel.cons e rfl i|cons _ _ i j=>exact Cel.app i j|_=>nofun
theorem Q2.cells{vs:List V}{ds:List D}{A:List γ}(r:Q2 F H vs ds A):Cel H A:=by induction r using Q2.rec (motive_1:=λ_ _ _ _=>True) with|cons h _ i j=>exact Cel.app h.cells j|nil=>nofun|_=>trivial
structure Kp(F:γ->Prop)(H:Hp)(W F':γ->Prop)(H':Hp):Prop where
 fr:∀b o,H b=some o->¬W b->H' b=some o
 wm:∀b,W b->∃o,H b=some o/\Gq o=true
 wf:∀b,W b->¬F b
 mF:∀b,F b->F' b
theorem Kp.q{W:γ->Prop}(k:Kp F H W F' H'){a:γ}{vs:List V}(h:H a=some (.q vs)):H' a=some (.q vs):=by refine k.fr a _ h λw=>?_;obtain⟨o,e,m⟩:=k.wm a w;rw[h] at e;cases e;cases m
theorem Kp.imm(k:Kp F H W F' H')(h:H a=some o)(n:Gq o=false):H' a=some o:=by refine k.fr a _ h λw=>?_;obtain⟨o,e,m⟩:=k.wm a w;rw[h] at e;cases e;rw[n] at m;cases m
theorem Kp.frz(k:Kp F H W F' H')(h:H a=some (.frz o u)):H' a=some (.frz o u):=by refine k.fr a _ h λw=>?_;obtain⟨o,e,m⟩:=k.wm a w;rw[h] at e;cases e;cases m
theorem Q8.keep{W:γ->Prop}(k:Kp F H W F' H'){v:V}{d:D}{A:List γ}(r:Q8 F H v d A):(∀b∈A,¬W b)->Q8 F' H' v d A:=by induction r using Q8.rec (motive_2:=λa c A _=>(∀b∈A,¬W b)->Q2 F' H' a c A) with|q e r i=>exact λh=>.q (k.q e) (i h)|l e r i=>exact λh=>.l (k.fr _ _ e (zB3.mp h).1) (i (zB3.mp h).2)|lstZ e f r i=>exact λh=>.lstZ (k.fr _ _ e λw=>k.wf _ w f) (k.mF _ f) (i h)|dct e q r i=>exact λh=>.dct (k.fr _ _ e (zB3.mp h).1) q (i (zB3.mp h).2)|dctZ e f q r i=>exact λh=>.dctZ (k.fr _ _ e λw=>k.wf _ w f) (k.mF _ f) q (i h)|ins e q r i=>exact λh=>.ins (k.fr _ _ e (zB3.mp h).1) q (i (zB3.mp h).2)|insZ e f q r i=>exact λh=>.insZ (k.fr _ _ e λw=>k.wf _ w f) (k.mF _ f) q (i h)|scr e=>exact λ_=>.scr (k.frz e)|exn e g q r i=>exact λh=>.exn (k.imm e rfl) (k.imm g rfl) q (i h)|cons _ _ i j h=>exact Q2.cons (i (zBr.mp h).1) (j (zBr.mp h).2)|nil=>constructor|_=>intro;constructor
theorem Q2.keep{W:γ->Prop}(k:Kp F H W F' H'){vs:List V}{ds:List D}{A:List γ}(r:Q2 F H vs ds A):(∀b∈A,¬W b)->Q2 F' H' vs ds A:=by induction r using Q2.rec (motive_1:=λ_ _ _ _=>True) with|nil=>exact λ_=>Q2.nil|cons r _ i j=>exact λh=>Q2.cons (r.keep k (zBr.mp h).1) (j (zBr.mp h).2)|_=>trivial
theorem Kp.same(s:Same H H'):Kp F H (λ_=>False) F H':=⟨λb o e _=>s b o e,λ_ w=>w.elim,λ_ w=>w.elim,λ_ f=>f⟩
theorem Q8.same(r:Q8 F H v d A)(s:Same H H'):Q8 F H' v d A:=r.keep (Kp.same s) λ_ _=>id
theorem Q2.same(r:Q2 F H vs ds A)(s:Same H H'):Q2 F H' vs ds A:=r.keep (Kp.same s) λ_ _=>id
theorem Kp.more(m:∀b,F b->F' b):Kp F H (λ_=>False) F' H:=⟨λb o e _=>e,λ_ w=>w.elim,λ_ w=>w.elim,m⟩
mutual
theorem Q8.imm{v:V}{d:D}{A:List γ}(r:Q8 F H v d A)(h:d.imm=true):A=[]:=by cases r with|q e r=>exact r.imms h|l=>cases h|dct=>cases h|ins=>cases h|_=>rfl
theorem Q2.imms{vs:List V}{ds:List D}{A:List γ}(r:Q2 F H vs ds A)(h:D.imms ds=true):A=[]:=by cases r with|nil=>rfl|cons r t=>have h:=zAp.mp h;rw[r.imm h.1,t.imms h.2];rfl
end
theorem qZ1(kds:List (Key×D)):(D.fzk kds).map (·.1)=kds.map (·.1)/\(D.fzk kds).map (·.2)=D.fzs (kds.map (·.2)):=by induction kds with|nil=>exact⟨rfl,rfl⟩|cons p r a=>obtain⟨k,d⟩:=p;simp only[D.fzk,D.fzs,zAy,a.1,a.2,and_self]
theorem qH2(kds:List (Str×D)):(D.fzf kds).map (·.1)=kds.map (·.1)/\(D.fzf kds).map (·.2)=D.fzs (kds.map (·.2)):=by induction kds with|nil=>exact⟨rfl,rfl⟩|cons p r a=>obtain⟨k,d⟩:=p;simp only[D.fzf,D.fzs,zAy,a.1,a.2,and_self]
theorem Q8.fz{v:V}{d:D}{A:List γ}(r:Q8 F H v d A)(m:∀b,F b->F' b):(∀b∈A,F' b)->Q8 F' H v d.fz []:=by induction r using Q8.rec (motive_2:=λa c A _=>(∀b∈A,F' b)->Q2 F' H a (D.fzs c) []) with|q e r i=>exact λh=>.q e (i h)|l e r i=>exact λh=>.lstZ e (zB3.mp h).1 (i (zB3.mp h).2)|lstZ e f r i=>exact λh=>.lstZ e (m _ f) (i h)|dct e q r i=>exact λh=>.dctZ e (zB3.mp h).1 (q.trans (qZ1 _).1.symm) ((qZ1 _).2 ▸ i (zB3.mp h).2)|dctZ e f q r i=>exact λh=>.dctZ e (m _ f) (q.trans (qZ1 _).1.symm) ((qZ1 _).2 ▸ i h)|ins e q r i=>exact λh=>.insZ e (zB3.mp h).1 (q.trans (qH2 _).1.symm) ((qH2 _).2 ▸ i (zB3.mp h).2)|insZ e f q r i=>exact λh=>.insZ e (m _ f) (q.trans (qH2 _).1.symm) ((qH2 _).2 ▸ i h)|scr e=>exact λ_=>.scr e|exn e g q r i=>exact λh=>.exn e g (q.trans (qH2 _).1.symm) ((qH2 _).2 ▸ i h)|nil=>exact Q2.nil|cons _ _ i j h=>exact Q2.cons (i (zBr.mp h).1) (j (zBr.mp h).2)|_=>intro;constructor
end
theorem ec:∀{us:List V'},us.length=n+1->∃a vs,us=a::vs/\vs.length=n|a::vs,h=>⟨a,vs,rfl,Nat.succ.inj h⟩
theorem ec0(h:P [])(us:List V')(e:us.length=0):P us:=List.length_eq_zero_iff.mp e ▸ h
theorem ec1(h:∀x us,us.length=n->P (x::us))(us:List V')(e:us.length=n+1):P us:=by obtain⟨x,a,rfl,b⟩:=ec e;exact h x a b
theorem ec2(h:∀us,us.length=n->P us)(us:List V')(e:us.length+1=n+1):P us:=h us (Nat.succ.inj e)
inductive Locs(F:γ->Prop)(H:Hp):List (Option V)->List D->List γ->Prop
 |nil:Locs F H [] [] []
 |no {a:List (Option V)} {ds:List D} {A:List γ} (t:Locs F H a ds A):Locs F H (none::a) (.u::ds) A
 |so {v:V} {d:D} {B:List γ} {a:List (Option V)} {ds:List D} {A:List γ} (h:Q8 F H v d B) (t:Locs F H a ds A):Locs F H (some v::a) (d::ds) (B++A)
section
variable{F F':γ->Prop}{H H':Hp}
theorem Locs.cells{n:List (Option V)}(r:Locs F H n ds A):∀b∈A,∃o,H b=some o/\Gq o=true:=by induction r with|nil=>intro b h;cases h|no t c=>exact c|so h t c=>intro b a;rcases zAf.mp a with a|a;{exact h.cells b a};exact c b a
theorem Locs.keep(k:Kp F H W F' H'){n:List (Option V)}(r:Locs F H n ds A):(∀b∈A,¬W b)->Locs F' H' n ds A:=by induction r with|nil=>exact λ_=>.nil|no t a=>exact λh=>.no (a h)|so h t a=>exact λq=>.so (h.keep k λb c=>q b (zAf.mpr (.inl c))) (a λb c=>q b (zAf.mpr (.inr c)))
theorem Locs.same{n:List (Option V)}(r:Locs F H n ds A)(s:Same H H'):Locs F H' n ds A:=r.keep (Kp.same s) λ_ _=>id
theorem Locs.len{n:List (Option V)}(r:Locs F H n ds A):n.length=ds.length:=by induction r with|nil=>rfl|no t a=>simp[a]|so h t a=>simp[a]
theorem Locs.append{n:List (Option V)}(r:Locs F H n ds A)(t:Locs F H p es B):Locs F H (n++p) (ds++es) (A++B):=by induction r with|nil=>exact t|no _ a=>exact .no a|so h _ a=>rw[zAs];exact .so h a
inductive Kb(F:γ->Prop)(H:Hp):Option V->D->List γ->Prop
 |no:Kb F H none .u []
 |so {v:V} {d:D} {B:List γ} (h:Q8 F H v d B):Kb F H (some v) d B
theorem Locs.cons{n:List (Option V)}(h:Kb F H o d B)(t:Locs F H n ds A):Locs F H (o::n) (d::ds) (B++A):=by cases h with|no=>exact .no t|so h=>exact .so h t
theorem Locs.split:∀{ds:List D}{n:List (Option V)}{A:List γ}{i:Nat}{d:D},Locs F H n ds A->ds[i]?=some d->∃σ1 o σ2 ds1 a A1 B A2,n=σ1++o::σ2/\ds=ds1++d::a/\σ1.length=i/\ds1.length=i/\A=A1++(B++A2)/\Locs F H σ1 ds1 A1/\Kb F H o d B/\Locs F H σ2 a A2:=by
 intro ds;induction ds with
 |nil=>intro n A i d _ h;simp at h|cons e r m=>
  intro n A i d L h;cases i with
  |zero=>
   have:e=d:=by simpa using h
   subst this;cases L with|no t=>exact⟨[],none,_,[],_,[],[],_,rfl,rfl,rfl,rfl,rfl,.nil,.no,t⟩|so q t=>exact⟨[],some _,_,[],_,[],_,_,rfl,rfl,rfl,rfl,rfl,.nil,.so q,t⟩
  |succ i=>
   have h:r[i]?=some d:=by simpa using h
   cases L with|no t=>obtain⟨σ1,o,σ2,ds1,a,A1,B,A2,b,e2,c,f,g,j,k,l⟩:=m t h;exact⟨none::σ1,o,σ2,_::ds1,a,A1,B,A2,by rw[b];rfl,by rw[e2];rfl,by simp[c],by simp[f],g,.no j,k,l⟩|@so v _ B0 _ _ A0 q t=>obtain⟨σ1,o,σ2,ds1,a,A1,B,A2,b,e2,c,f,g,j,k,l⟩:=m t h;exact⟨some v::σ1,o,σ2,_::ds1,a,B0++A1,B,A2,by rw[b];rfl,by rw[e2];rfl,by simp[c],by simp[f],by rw[g,zAs],.so q j,k,l⟩
end
theorem qs7{x:α}(h:a.length=i):(a++x::b).set i y=a++y::b:=by subst h;rw[O1 _ _ (zA3 _),Nat.sub_self];rfl
theorem qH1{x:α}(h:a.length=i):(a++x::b)[i]?=some x:=by subst h;simp
structure Ok(F:γ->Prop)(H:Hp)(A:List γ):Prop where
 sep:∀b,A.count b<=1
 fro:∀b,F b->A.count b=0
 ex:∀b,F b->∃o,H b=some o
structure Ra(F:γ->Prop)(H:Hp)(A:List γ)(F':γ->Prop)(H':Hp)(A':List γ):Prop where
 fr:∀b o,H b=some o->A.count b=0->H' b=some o
 sub:∀b o,H b=some o->A.count b=0->A'.count b=0
 mono:∀b,F b->F' b
 fnew:∀b o,H b=some o->A.count b=0->F' b->F b
section
variable{F k l:γ->Prop}{H i m:Hp}{A j A2 T:List γ}
theorem Ra.refl:Ra F H A F H A:=⟨λ_ _ e _=>e,λ_ _ _ e=>e,λ_ f=>f,λ_ _ _ _ f=>f⟩
theorem Ra.trans(s:Ra F H A k i j)(t:Ra k i j l m A2):Ra F H A l m A2:=⟨λb o e q=>t.fr b o (s.fr b o e q) (s.sub b o e q),λb o e q=>t.sub b o (s.fr b o e q) (s.sub b o e q),λb f=>t.mono b (s.mono b f),λb o e q f=>s.fnew b o e q (t.fnew b o (s.fr b o e q) (s.sub b o e q) f)⟩
theorem Ra.same(s:Same H i):Ra F H A F i A:=⟨λb o e _=>s b o e,λ_ _ _ e=>e,λ_ f=>f,λ_ _ _ _ f=>f⟩
theorem qb0{b:γ}{A:List γ}:b∈A↔A.count b≠0:=by rw[<-List.count_pos_iff];lia
theorem Ra.kp(s:Ra F H A k i j)(o:Ok F H A)(c:∀b∈A,∃o,H b=some o/\Gq o=true):Kp F H (λb=>A.count b≠0) k i:=⟨λb u e w=>s.fr b u e ⋯,λb w=>c b (qb0.mpr w),λb w f=>w (o.fro b f),s.mono⟩
theorem Ok.left(o:Ok F H (T++A)):Ok F H T:=⟨λb=>by have:=o.sep b;rw[zA0] at this;lia,λb f=>by have:=o.fro b f;rw[zA0] at this;lia,o.ex⟩
theorem Ok.right(o:Ok F H (T++A)):Ok F H A:=⟨λb=>by have:=o.sep b;rw[zA0] at this;lia,λb f=>by have:=o.fro b f;rw[zA0] at this;lia,o.ex⟩
theorem Ok.count(o:Ok F H A)(h:∀b,j.count b<=A.count b):Ok F H j:=⟨λb=>zAg (h b) (o.sep b),λb f=>by have:=o.fro b f;have:=h b;lia,o.ex⟩
theorem Ra.frame(s:Ra F H A k i j)(o:Ok F H (T++A))(c:∀b∈T,∃o,H b=some o/\Gq o=true)(d:Ok k i j):Ok k i (T++j)/\Ra F H (T++A) k i (T++j):=by
 have a:∀b,T.count b≠0->∃u,H b=some u/\A.count b=0:=λb h=>by obtain⟨u,e,_⟩:=c b (qb0.mpr h);have:=o.sep b;rw[zA0] at this;exact⟨u,e,⋯⟩
 refine⟨⟨λb=>?_,λb f=>?_,d.ex⟩,λb u e q=>?_,λb u e q=>?_,s.mono,λb u e q f=>?_⟩;{rw[zA0];by_cases h:T.count b=0;{have:=d.sep b;lia};obtain⟨u,e,q⟩:=a b h;have g:=s.sub b u e q;have:=o.sep b;rw[zA0] at this;lia};{rw[zA0,d.fro b f];by_cases h:T.count b=0;{lia};obtain⟨u,e,q⟩:=a b h;have:=o.fro b (s.fnew b u e q f);rw[zA0] at this;lia};{rw[zA0] at q;exact s.fr b u e ⋯};{rw[zA0] at q ⊢;have:=s.sub b u e ⋯;lia};rw[zA0] at q;exact s.fnew b u e ⋯ f
theorem Ra.count(s:Ra F H A k i j)(h:∀b,A2.count b<=j.count b):Ra F H A k i A2:=⟨s.fr,λb o e q=>by have:=s.sub b o e q;have:=h b;lia,s.mono,s.fnew⟩
theorem Ra.pre(s:Ra F H A k i j)(h:∀b,A.count b=A2.count b):Ra F H A2 k i j:=⟨λb o e q=>s.fr b o e (by rw[h];exact q),λb o e q=>s.sub b o e (by rw[h];exact q),s.mono,λb o e q f=>s.fnew b o e (by rw[h];exact q) f⟩
end
structure New(H:Hp)(B:List γ):Prop where
 one:∀b,B.count b<=1
 new:∀b o,H b=some o->B.count b=0
section
variable{F:γ->Prop}{H H':Hp}{A B:List γ}
theorem New.nil:New H []:=⟨λb=>by simp,λb o _=>by simp⟩
theorem New.ok(n:New H B)(o:Ok F H A)(c:∀b∈A,∃o,H b=some o/\Gq o=true)(s:Same H H'):Ok F H' (B++A):=by refine⟨λb=>?_,λb f=>?_,λb f=>?_⟩;{rw[zA0];have a:=n.one b;have d:=o.sep b;by_cases h:A.count b=0;{lia};obtain⟨u,e,_⟩:=c b (qb0.mpr h);have:=n.new b u e;lia};{rw[zA0,o.fro b f];obtain⟨u,e⟩:=o.ex b f;rw[n.new b u e]};obtain⟨u,e⟩:=o.ex b f;exact⟨u,s b u e⟩
theorem New.append(n:New H B)(s:Same H H1)(c:∀b∈B,∃o,H1 b=some o/\Gq o=true)(a:New H1 B1):New H (B++B1):=by refine⟨λb=>?_,λb o e=>?_⟩;{rw[zA0];have d:=n.one b;have f:=a.one b;by_cases h:B.count b=0;{lia};obtain⟨u,e,_⟩:=c b (qb0.mpr h);have:=a.new b u e;lia};rw[zA0,n.new b o e,a.new b o (s b o e)]
theorem Ok.same(o:Ok F H A)(s:Same H H'):Ok F H' A:=⟨o.sep,o.fro,λb f=>let ⟨u,e⟩:=o.ex b f;⟨u,s b u e⟩⟩
theorem New.stp(n:New H B)(s:Same H H'):Ra F H A F H' (B++A):=⟨λb o e _=>s b o e,λb o e q=>by rw[zA0,n.new b o e,q],λ_ f=>f,λ_ _ _ _ f=>f⟩
end
structure Exn where
 C:γ
 fs:List (Str×D)
def RepX(F:γ->Prop)(H:Hp)(e:γ)(x:Exn):Prop:=∃b,H e=some (Bm e x.C b false)/\(x.fs=[]∨∃dx a,b=some dx/\H dx=some (XD dx a)/\a.map (·.1)=x.fs.map (·.1)/\Q2 F H (a.map (·.2)) (x.fs.map (·.2)) [])
abbrev Ds:=List D
abbrev DK:=D->Ds->Prop
abbrev XKd:=Exn->Ds->Prop
abbrev VT:=Ds->DK->XKd->Prop
abbrev VTT:=Ds->(Bool->Ds->Prop)->XKd->Prop
abbrev VTA:=Ds->(Ds->Ds->Prop)->XKd->Prop
abbrev FV:=Ds->Option D
structure Vc where
 E:St->XK
 W:Nat->Bool
 av:List (Option V)
 gv:List (Option V)
structure Rb(c:Vc)(F:γ->Prop)(H:Hp)(a:St)(ds:Ds)(A:List γ):Prop where
 loc:Locs F H (a++c.gv) ds A
 ok:Ok F H A
 len:c.av.length=(a++c.gv).length
 ag:∀i,c.W i=true->(a++c.gv)[i]?=c.av[i]?
theorem Rb.same(S:Rb c F H a ds A)(s:Same H H'):Rb c F H' a ds A:=⟨S.loc.same s,S.ok.same s,S.len,S.ag⟩
def Xc(c:Vc)(xe:XKd)(F:γ->Prop)(H:Hp)(A:List γ):Prop:=∀x a b' e H' F' A',xe x a->RepX F' H' e x->Rb c F' H' b' a A'->Ra F H A F' H' A'->c.E b' (.ref e) none H'
theorem Xc.step(x:Xc c xe F H A)(s:Ra F H A F1 H1 A1):Xc c xe F1 H1 A1:=λy a b' e H' F' A' h r S t=>x y a b' e H' F' A' h r S (s.trans t)
def kE(c:Vc)(b:St)(F:γ->Prop)(H:Hp)(A:List γ)(Q:VK):DK:=λd a=>∀v H' F' T A',Q8 F' H' v d T->Rb c F' H' b a A'->Ok F' H' (T++A')->Ra F H A F' H' (T++A')->Q v H'
inductive LiftE(c:Vc)(t:VT)(a:St)(H:Hp)(Q:VK):Prop
 |mk (F:γ->Prop) (ds:Ds) (A:List γ) (xe:XKd) (S:Rb c F H a ds A) (x:Xc c xe F H A) (q:t ds (kE c a F H A Q) xe):LiftE c t a H Q
def Bj(c:Vc)(t:VT):TE:=LiftE c t
inductive LiftV(c:Vc)(own:Bool)(f:FV)(a:St)(H:Hp)(Q:VK):Prop
 |mk (F:γ->Prop) (ds:Ds) (A:List γ) (d:D) (S:Rb c F H a ds A) (e:f ds=some d) (q:∀v H' B,Q8 F H' v d B->Same H H'->(own=true->New H B)->Q v H'):LiftV c own f a H Q
def liftV(c:Vc)(own:Bool)(f:FV):TE:=LiftV c own f
inductive qaX2(c:Vc)(own:Bool)(f:Ds->Option Ds)(a:St)(H:Hp)(Q:List V->Hp->Prop):Prop
 |mk (F:γ->Prop) (ds:Ds) (A:List γ) (xs:Ds) (S:Rb c F H a ds A) (e:f ds=some xs) (q:∀vs H' B,Q2 F H' vs xs B->Same H H'->(own=true->New H B)->Q vs H'):qaX2 c own f a H Q
def qaR9(c:Vc)(own:Bool)(f:Ds->Option Ds):TA:=qaX2 c own f
inductive qaX4(c:Vc)(t:VTA)(a:St)(H:Hp)(Q:List V->Hp->Prop):Prop
 |mk (F:γ->Prop) (ds:Ds) (A:List γ) (xe:XKd) (S:Rb c F H a ds A) (x:Xc c xe F H A) (q:t ds (λxs ds'=>∀vs H' F' T A',Q2 F' H' vs xs T->Rb c F' H' a ds' A'->Ra F H A F' H' A'->Q vs H') xe):qaX4 c t a H Q
def qaH9(c:Vc)(t:VTA):TA:=qaX4 c t
inductive LiftT(c:Vc)(t:VTT)(a:St)(H:Hp)(Q:Bool->Hp->Prop):Prop
 |mk (F:γ->Prop) (ds:Ds) (A:List γ) (xe:XKd) (S:Rb c F H a ds A) (x:Xc c xe F H A) (q:t ds (λb ds'=>∀H' F' A',Rb c F' H' a ds' A'->Ra F H A F' H' A'->Q b H') xe):LiftT c t a H Q
def G4(c:Vc)(t:VTT):TT:=LiftT c t
structure VE(c:Vc)(X:Cx)(e:Nu)(t:VT):Prop where
 h:PE X e (Bj c t)
 m:∀ds (Q Q':DK) (xe xe':XKd),(∀d ds',Q d ds'->Q' d ds')->(∀x ds',xe x ds'->xe' x ds')->t ds Q xe->t ds Q' xe'
structure VV(c:Vc)(X:Cx)(e:Nu)(own:Bool)(f:FV):Prop where
 h:PE X e (liftV c own f)
structure VVs(c:Vc)(X:Cx)(es:List Nu)(own:Bool)(f:Ds->Option Ds):Prop where
 h:PA X es (qaR9 c own f)
structure VOs(c:Vc)(X:Cx)(es:List Nu)(t:VTA):Prop where
 h:PA X es (qaH9 c t)
 m:∀ds (Q Q':Ds->Ds->Prop) (xe xe':XKd),(∀d ds',Q d ds'->Q' d ds')->(∀x ds',xe x ds'->xe' x ds')->t ds Q xe->t ds Q' xe'
structure VTe(c:Vc)(X:Cx)(e:Nu)(t:VTT):Prop where
 h:PT X e (G4 c t)
 m:∀ds (Q Q':Bool->Ds->Prop) (xe xe':XKd),(∀d ds',Q d ds'->Q' d ds')->(∀x ds',xe x ds'->xe' x ds')->t ds Q xe->t ds Q' xe'
theorem PE.mono(h:PE X e t)(i:∀a H Q,t' a H Q->t a H Q):PE X e t':=λFm s a H Q I q=>h Fm s a H Q I (i a H Q q)
theorem PT.mono(h:PT X e t)(i:∀a H Q,t' a H Q->t a H Q):PT X e t':=λFm s a H Q I q=>h Fm s a H Q I (i a H Q q)
theorem PW.mono(h:PW X e t)(i:∀a H Q,t' a H Q->t a H Q):PW X e t':=λw Fm s a H Q I q=>h w Fm s a H Q I (i a H Q q)
theorem PA.mono(h:PA X es t)(i:∀a H Q,t' a H Q->t a H Q):PA X es t':=λp Fm s a H Q I q=>h p Fm s a H Q I (i a H Q q)
theorem PS.mono(h:PS X st t)(i:∀D a H,t' D a H->t D a H):PS X st t':=λFm s a H D I q=>h Fm s a H D I (i D a H q)
theorem PSs.mono(h:PSs X st t)(i:∀D a H,t' D a H->t D a H):PSs X st t':=λFm s a H D I q=>h Fm s a H D I (i D a H q)
def orF{α:Type}(o:Option α)(k:α->Prop):Prop:=match o with|some a=>k a|none=>False
theorem qa5(h:∀a,k a->b a):orF o k->orF o b:=by cases o with|none=>exact id|some a=>exact h a
theorem qa7:orF o k↔∃a,o=some a/\k a:=by cases o with|none=>exact⟨λh=>h.elim,λ⟨_,e,_⟩=>by cases e⟩|some a=>exact⟨λh=>⟨a,rfl,h⟩,λ⟨b,e,h⟩=>by cases e;exact h⟩
section
variable{c:Vc}{X:Cx}{e:Nu}{F:γ->Prop}{H H':Hp}{t:St}{ds:Ds}{A:List γ}
theorem Rb.new(S:Rb c F H t ds A)(n:New H B)(s:Same H H'):Ok F H' (B++A):=n.ok S.ok S.loc.cells s
def Bq(f:FV):VT:=λds Q _=>orF (f ds) λd=>Q d ds
def Fw(f:FV):VT:=λds Q _=>orF (f ds) λd=>d.imm=true/\Q d ds
theorem qa3(h:VV c X e true f):VE c X e (Bq f):=by refine⟨PE.mono h.h λt H Q a=>?_,λb Q Q' g i j _=>qa5 λd=>j d b⟩;obtain⟨F,b,A,g,S,x,q⟩:=a;obtain⟨d,e,q⟩:=qa7.mp q;exact⟨F,b,A,d,S,e,λv H' B r s n=>q v H' F B A r (S.same s) (S.new (n rfl) s) ((n rfl).stp s)⟩
theorem qb9(h:VV c X e own f):VE c X e (Fw f):=by refine⟨PE.mono h.h λt H Q a=>?_,λb Q Q' g i j _=>qa5 λd=>P7 (j d b)⟩;obtain⟨F,b,A,g,S,x,q⟩:=a;obtain⟨d,e,k,q⟩:=qa7.mp q;refine⟨F,b,A,d,S,e,λv H' B r s _=>?_⟩;have:=r.imm k;subst this;exact q v H' F [] A r (S.same s) (S.ok.same s) (.same s)
theorem Je(h:PE X e (tC v))(r:∀F H,Q8 F H v d []):VV c X e true (λ_=>some d):=⟨PE.mono h λt H Q ⟨F,a,A,b,S,e,q⟩=>by cases e;exact q v H [] (r F H) (λ_ _ z=>z) λ_=>New.nil⟩
noncomputable def D.known:D->Bool|.u=>false|.hole _=>false|_=>true
def rdN(i:Nat):FV:=λds=>match ds[i]? with|some d=>if d.known=true then some d else none|none=>none
theorem qn3:rdN i ds=some d↔ds[i]?=some d/\d.known=true:=by unfold rdN;cases h:ds[i]? with|none=>simp|some x=>dsimp only;split;{rename_i hk;constructor;{intro e;cases e;exact⟨rfl,hk⟩};rintro⟨e,_⟩;exact e};rename_i hk;constructor;{intro e;cases e};rintro⟨e,a⟩;cases e;exact absurd a hk
theorem Rb.at(S:Rb c F H t ds A)(hi:i<t.length)(h:ds[i]?=some d)(a:d.known=true):∃v B,t[i]?=some (some v)/\Q8 F H v d B/\∀b,B.count b<=A.count b:=by
 obtain⟨σ1,o,σ2,e,f,A1,B,A2,g,e2,j,m,k,n,l,p⟩:=S.loc.split h;cases l with
 |no=>cases a|@so v _ _ r=>
  refine⟨v,B,?_,r,λb=>by rw[k];simp only[zA0];lia⟩;have:(t++c.gv)[i]?=some (some v):=by rw[g];exact qH1 j
  rwa[zAu hi] at this
theorem qaM0(h:PE X (.Name x pos) (Hs i))(hi:∀Fm t H s,Q9 X Fm t H s->i<t.length):VV c X (.Name x pos) false (rdN i):=by refine⟨λFm s t H Q I a=>?_⟩;obtain⟨F,g,A,d,S,e,q⟩:=a;refine h Fm s t H Q I ?_;obtain⟨e,b⟩:=qn3.mp e;obtain⟨v,B,f,r,_⟩:=S.at (hi Fm t H s I) e b;exact⟨v,f,q v H B r (λ_ _ z=>z) λz=>by cases z⟩
theorem qn6{X:Cx}{x:Str}(a:X.N[i]?=some x):∀Fm t H s,Q9 X Fm t H s->i<t.length:=λFm t H s I=>by
 rw[I.len];exact(zA4.mp a).1
end
def Sub(H:Hp)(B B':List γ):Prop:=∀b,B'.count b<=B.count b∨(B'.count b<=1/\H b=none)
theorem Sub.new(s:Sub H1 B B')(n:New H B)(q:Same H H1):New H B':=by refine⟨λb=>?_,λb o e=>?_⟩;{rcases s b with h|⟨h,_⟩;{have:=n.one b;lia};exact h};rcases s b with h|⟨_,h⟩;{have:=n.new b o e;lia};rw[q b o e] at h;cases h
def OpS(nw:Bool)(r:List V->Hp->VK->Prop)(g:Ds->Option D):Prop:=∀F H vs xs B d (Q:VK),Q2 F H vs xs B->g xs=some d->(∀v H' B',Q8 F H' v d B'->Same H H'->(if nw=true then New H B' else Sub H B B')->Q v H')->r vs H Q
def A8(nw:Bool)(r:R2)(g:D->D->Option D):Prop:=∀F H v w x y B d (Q:VK),Q2 F H [v,w] [x,y] B->g x y=some d->(∀v H' B',Q8 F H' v d B'->Same H H'->(if nw=true then New H B' else Sub H B B')->Q v H')->r v w H Q
noncomputable def f2(g:D->D->Option D)(fa fb:FV):FV:=λds=>(fa ds).bind λx=>(fb ds).bind λy=>g x y
theorem qaK1:f2 g fa fb ds=some d↔∃x y,fa ds=some x/\fb ds=some y/\g x y=some d:=by unfold f2;cases a:fa ds with|none=>simp|some x=>cases b:fb ds with|none=>simp|some y=>simp
noncomputable def f1(g:D->Option D)(fa:FV):FV:=λds=>(fa ds).bind g
theorem qav4:f1 g fa ds=some d↔∃x,fa ds=some x/\g x=some d:=by unfold f1;cases a:fa ds with|none=>simp|some x=>simp
theorem Hw(r:Q8 F H v d A)(s:Q8 F H w e B):Q2 F H [v,w] [d,e] (A++(B++[])):=.cons r (.cons s .nil)
section
variable{c:Vc}{X:Cx}{a b:Nu}{W Z U:Bool}{fa fb:FV}{r:R2}{g:D->D->Option D}{O R:VT}
theorem op_vv(h:A8 U r g):∀N H Q,liftV c (U||(W&&Z)) (f2 g fa fb) N H Q->tOp r (liftV c W fa) (liftV c Z fb) N H Q:=by rintro N H Q ⟨F,k,A,d,S,e,q⟩;obtain⟨x,y,m,n,p⟩:=qaK1.mp e;refine⟨F,k,A,x,S,m,λv H1 B1 l a s=>⟨F,k,A,y,S.same a,n,λw H2 B2 t i z=>?_⟩⟩;refine h F H2 v w x y _ d Q (Hw (l.same i) t) p λu H3 B3 B C f=>?_;refine q u H3 B3 B ((a.trans i).trans C) λj=>?_;cases U with|true=>rw[if_pos rfl] at f;exact⟨f.one,λb o e=>f.new b o (i b o (a b o e))⟩|false=>rw[if_neg ∅] at f;have j:=zAp.mp j;have:=(s j.1).append a l.cells (z j.2);exact f.new (by rw[zAa];exact this) (a.trans i)
def t2(g:D->D->Option D)(O R:VT):VT:=λds Q xe=>O ds (λx ds1=>R ds1 (λy a=>orF (g x y) λd=>Q d a) xe) xe
theorem qay2(j:VE c X a O)(k:VE c X b R):∀ds (Q Q':DK) (xe f:XKd),(∀d e,Q d e->Q' d e)->(∀x e,xe x e->f x e)->t2 g O R ds Q xe->t2 g O R ds Q' f:=λds Q Q' xe f l i=>j.m _ _ _ _ _ (λd n=>k.m _ _ _ _ _ (λd h=>qa5 λz=>l z h) i) i
theorem op_ee(s:VE c X a O)(i:VE c X b R)(h:A8 true r g):∀N H Q,Bj c (t2 g O R) N H Q->tOp r (Bj c O) (Bj c R) N H Q:=by
 rintro N H Q ⟨F,t,A,o,S,x,q⟩;refine⟨F,t,A,o,S,x,s.m _ _ _ _ _ (λp j q v H1 F1 T A1 y S1 B C=>?_) (λ_ _ z=>z) q⟩;have e:Ra F H A F1 H1 A1:=C.count λb=>by rw[zA0];lia
 refine⟨F1,j,A1,o,S1,x.step e,i.m _ _ _ _ _ (λD E q w H2 F2 T2 A2 G S2 L I=>?_) (λ_ _ z=>z) q⟩;obtain⟨d,J,q⟩:=qa7.mp q;have f:Ra F1 H1 A1 F2 H2 A2:=I.count λb=>by rw[zA0];lia
 have k:Q8 F2 H2 v p T:=y.keep (f.kp S1.ok S1.loc.cells) λb i M=>by have:=B.sep b;rw[zA0] at this;have:=qb0.mp i;lia
 refine h F2 H2 v w p D _ d Q (Hw k G) J λu H3 B3 K l n=>?_;rw[if_pos rfl] at n;exact q u H3 F2 B3 A2 K (S2.same l) (S2.new n l) ((e.trans f).trans (n.stp l))
def t2v(g:D->D->Option D)(O:VT)(fb:FV):VT:=λds Q xe=>O ds (λx ds1=>orF ((fb ds1).bind (g x)) λd=>Q d ds1) xe
theorem qaD3(h:VE c X a O):∀ds (Q Q':DK) (xe e:XKd),(∀d b,Q d b->Q' d b)->(∀x b,xe x b->e x b)->t2v g O fb ds Q xe->t2v g O fb ds Q' e:=λds Q Q' xe e i j=>h.m _ _ _ _ _ (λd f=>qa5 λz=>i z f) j
theorem op_ev(s:VE c X a O)(h:A8 true r g):∀N H Q,Bj c (t2v g O fb) N H Q->tOp r (Bj c O) (liftV c Z fb) N H Q:=by
 rintro N H Q ⟨F,t,A,B,S,x,q⟩;refine⟨F,t,A,B,S,x,s.m _ _ _ _ _ (λC j q v H1 F1 T A1 D S1 L E=>?_) (λ_ _ z=>z) q⟩;have k:Ra F H A F1 H1 A1:=E.count λb=>by rw[zA0];lia
 obtain⟨d,l,q⟩:=qa7.mp q;obtain⟨y,G,l⟩:=zA1.mp l;refine⟨F1,j,A1,y,S1,G,λw H2 B2 I n _=>?_⟩;refine h F1 H2 v w C y _ d Q (Hw (D.same n) I) l λu H3 B3 J K p=>?_;rw[if_pos rfl] at p;have f:=n.trans K;have i:New H1 B3:=⟨p.one,λb o e=>p.new b o (n b o e)⟩;exact q u H3 F1 B3 A1 J (S1.same f) (S1.new i f) (k.trans (i.stp f))
def OpS1(U:Bool)(r:V->Hp->VK->Prop)(g:D->Option D):Prop:=∀F H v x B d (Q:VK),Q8 F H v x B->g x=some d->(∀v H' B',Q8 F H' v d B'->Same H H'->(if U=true then New H B' else Sub H B B')->Q v H')->r v H Q
def t1(g:D->Option D)(O:VT):VT:=λds Q xe=>O ds (λx ds1=>orF (g x) λd=>Q d ds1) xe
variable{Y:V->Hp->VK->Prop}{g1:D->Option D}
theorem op_v(h:OpS1 U Y g1):∀N H Q,liftV c (U||W) (f1 g1 fa) N H Q->liftV c W fa N H (λx H1=>Y x H1 Q):=by rintro N H Q ⟨F,g,A,d,S,e,q⟩;obtain⟨x,i,j⟩:=qav4.mp e;refine⟨F,g,A,x,S,i,λv H1 B1 Y f k=>?_⟩;refine h F H1 v x _ d Q Y j λu H3 B3 l m a=>?_;refine q u H3 B3 l (f.trans m) λn=>?_;cases U with|true=>rw[if_pos rfl] at a;exact⟨a.one,λb o e=>a.new b o (f b o e)⟩|false=>rw[if_neg ∅] at a;exact a.new (k n) f
end
theorem qY3(d:Ok F1 H1 (T++A1))(c:Ra F H A F1 H1 (T++A1))(j:∀b∈A1,∃o,H1 b=some o/\Gq o=true)(i:Same H1 H3)(g:Sub H1 T B):Ok F1 H3 (B++A1)/\Ra F H A F1 H3 (B++A1):=by refine⟨⟨λb=>?_,λb f=>?_,λb f=>let ⟨u,e⟩:=d.ex b f;⟨u,i b u e⟩⟩,λb o e q=>i b o (c.fr b o e q),λb o e q=>?_,c.mono,c.fnew⟩;{have:=d.sep b;rw[zA0] at this ⊢;rcases g b with h|⟨h,a⟩;{lia};by_cases k:A1.count b=0;{lia};obtain⟨o,e,_⟩:=j b (qb0.mpr k);rw[e] at a;cases a};{have:=d.fro b f;rw[zA0] at this ⊢;rcases g b with h|⟨h,a⟩;{lia};obtain⟨o,e⟩:=d.ex b f;rw[e] at a;cases a};have:=c.sub b o e q;rw[zA0] at this ⊢;rcases g b with h|⟨h,a⟩;{lia};rw[c.fr b o e q] at a;cases a
section
variable{c:Vc}{X:Cx}{a b:Nu}{oa ob Z:Bool}{fa fb:FV}{r:R2}{g:D->D->Option D}{U Y:VT}
theorem qbb4(D:VE c X a U)(e:VE c X b Y)(h:A8 false r g):∀R H Q,Bj c (t2 g U Y) R H Q->tOp r (Bj c U) (Bj c Y) R H Q:=by
 rintro R H Q ⟨F,E,A,l,S,x,q⟩;refine⟨F,E,A,l,S,x,D.m _ _ _ _ _ (λn f q v H1 F1 T A1 o S1 p s=>?_) (λ_ _ z=>z) q⟩;have i:Ra F H A F1 H1 A1:=s.count λb=>by rw[zA0];lia
 refine⟨F1,f,A1,l,S1,x.step i,e.m _ _ _ _ _ (λG I q w H2 F2 T2 A2 J S2 K t=>?_) (λ_ _ z=>z) q⟩;obtain⟨d,L,q⟩:=qa7.mp q;have j:Q8 F2 H2 v n T:=o.keep (t.kp S1.ok S1.loc.cells) λb e P=>by have:=p.sep b;rw[zA0] at this;have:=qb0.mp e;lia
 obtain⟨y,B⟩:=t.frame p o.cells K;refine h F2 H2 v w n G _ d Q (Hw j J) L λu H3 B3 M C k=>?_;rw[if_neg ∅] at k;rw[<-zAs] at y B;obtain⟨N,O⟩:=qY3 y (s.trans B) S2.loc.cells C (by rw[zAa] at k;exact k);exact q u H3 F2 B3 A2 M (S2.same C) N O
def L9(g:D->D->Option D)(U:VT)(fb:FV):VT:=λds Q xe=>U ds (λx ds1=>orF (fb ds1) λy=>y.imm=true/\orF (g x y) λd=>Q d ds1) xe
theorem qaq7(h:VE c X a U):∀ds (Q Q':DK) (xe e:XKd),(∀d b,Q d b->Q' d b)->(∀x b,xe x b->e x b)->L9 g U fb ds Q xe->L9 g U fb ds Q' e:=λds Q Q' xe e i j=>h.m _ _ _ _ _ (λd f=>qa5 λy=>P7 (qa5 λz=>i z f)) j
theorem qbb3(p:VE c X a U)(h:A8 false r g):∀R H Q,Bj c (L9 g U fb) R H Q->tOp r (Bj c U) (liftV c ob fb) R H Q:=by rintro R H Q ⟨F,s,A,t,S,x,q⟩;refine⟨F,s,A,t,S,x,p.m _ _ _ _ _ (λB i q v H1 F1 T A1 C S1 D E=>?_) (λ_ _ z=>z) q⟩;obtain⟨y,G,I,q⟩:=qa7.mp q;obtain⟨d,J,q⟩:=qa7.mp q;refine⟨F1,i,A1,y,S1,G,λw H2 B2 k j _=>?_⟩;have:=k.imm I;subst this;refine h F1 H2 v w B y _ d Q (Hw (C.same j) k) J λu H3 B3 K L l=>?_;rw[if_neg ∅,zAa,zAa] at l;have f:=j.trans L;have M:Sub H1 T B3:=λb=>(l b).imp id λ⟨N,n⟩=>⟨N,by cases e:H1 b with|none=>rfl|some o=>rw[j b o e] at n;cases n⟩;obtain⟨O,P⟩:=qY3 D E S1.loc.cells f M;exact q u H3 F1 B3 A1 K (S1.same f) O P
theorem qa6:VVs c X [] true (λ_=>some []):=⟨PA.mono qk1 λR H Q ⟨F,a,A,b,S,e,q⟩=>by cases e;exact q [] H [] .nil (λ_ _ z=>z) λ_=>New.nil⟩
noncomputable def A5(fa:FV)(fr:Ds->Option Ds):Ds->Option Ds:=λds=>(fa ds).bind λx=>(fr ds).bind λxs=>some (x::xs)
theorem qav3{fa:FV}{fr:Ds->Option Ds}{ds xs:Ds}:A5 fa fr ds=some xs↔∃x r,fa ds=some x/\fr ds=some r/\xs=x::r:=by unfold A5;cases a:fa ds with|none=>simp|some x=>cases b:fr ds with|none=>simp|some y=>simp[eq_comm]
theorem qa2(j:VV c X e oa fa)(k:VVs c X es own fr)(l:M6 (e::es) X.env=(false,eval e X.env)::M6 es X.env):VVs c X (e::es) (oa&&own) (A5 fa fr):=by refine⟨PA.mono (qc6 j.h k.h l) λR H Q b=>?_⟩;obtain⟨F,f,A,t,S,e,q⟩:=b;obtain⟨x,r,m,e2,rfl⟩:=qav3.mp e;refine⟨F,f,A,x,S,m,λv H1 B1 g d n=>⟨F,f,A,r,S.same d,e2,λo H2 B2 p i s=>?_⟩⟩;refine q (v::o) H2 (B1++B2) (.cons (g.same i) p) (d.trans i) λa=>?_;have a:=zAp.mp a;exact(n a.1).append d g.cells (s a.2)
variable{rc:List V->Hp->VK->Prop}{W:Ds->Option D}
theorem qaQ7(h:OpS Z rc W):∀R H Q,liftV c (Z||own) (λds=>(f ds).bind W) R H Q->tCB rc (qaR9 c own f) R H Q:=by rintro R H Q ⟨F,ds,A,d,S,e,q⟩;obtain⟨i,j,e2⟩:=zA1.mp e;refine⟨F,ds,A,i,S,j,λk H1 B1 l g m=>h F H1 k i B1 d Q l e2 λu H3 B3 n p a=>q u H3 B3 n (g.trans p) λr=>?_⟩;cases Z with|true=>rw[if_pos rfl] at a;exact⟨a.one,λb o e=>a.new b o (g b o e)⟩|false=>rw[if_neg ∅] at a;exact a.new (m r) g
def tcO(W:Ds->Option D)(t:VTA):VT:=λds Q xe=>t ds (λxs ds1=>orF (W xs) λd=>Q d ds1) xe
theorem qaD0(f:VOs c X es t):∀ds (Q Q':DK) (xe b:XKd),(∀d a,Q d a->Q' d a)->(∀x a,xe x a->b x a)->tcO W t ds Q xe->tcO W t ds Q' b:=λds Q Q' xe b g h=>f.m _ _ _ _ _ (λd e=>qa5 λz=>g z e) h
theorem opc_o(e:VOs c X es t)(h:OpS true rc W):∀R H Q,Bj c (tcO W t) R H Q->tCB rc (qaH9 c t) R H Q:=by rintro R H Q ⟨F,f,A,g,S,x,q⟩;refine⟨F,f,A,g,S,x,e.m _ _ _ _ _ (λi j q k H1 F1 T A1 l S1 n=>?_) (λ_ _ z=>z) q⟩;obtain⟨d,o,q⟩:=qa7.mp q;refine h F1 H1 k i T d Q l o λu H3 B3 p a b=>?_;rw[if_pos rfl] at b;exact q u H3 F1 B3 A1 p (S1.same a) (S1.new b a) (n.trans (b.stp a))
end
def D.kids:D->List D|.q ds=>ds|.l false ds=>ds|.dct false kvs=>kvs.map (·.2)|.ins false _ fs=>fs.map (·.2)|_=>[]
noncomputable def K4{a:Type}:List (a×D)->Nat->D->List (a×D)|[],_,_=>[]|(k,_)::r,0,x=>(k,x)::r|p::r,n+1,x=>p::K4 r n x
theorem qS6{c:Type}:∀(l:List (c×D))(n:Nat)(x:D),(K4 l n x).map (·.1)=l.map (·.1)/\(K4 l n x).map (·.2)=(l.map (·.2)).set n x|[],_,_=>⟨rfl,rfl⟩|(k,_)::r,0,x=>⟨rfl,rfl⟩|p::r,n+1,x=>by obtain⟨a,b⟩:=qS6 r n x;simp only[K4,zAy,a,b,List.set_cons_succ,and_self]
def D.setK:D->Nat->D->D|.q ds,n,x=>.q (ds.set n x)|.l z ds,n,x=>.l z (ds.set n x)|.dct z kvs,n,x=>.dct z (K4 kvs n x)|.ins z C fs,n,x=>.ins z C (K4 fs n x)|d,_,_=>d
def Lnk(H:Hp)(u:V)(n:Nat)(w:V):Prop:=∃a,u=.ref a/\((∃vs,H a=some (.q vs)/\vs[n]?=some w)∨(∃vs,H a=some (.l vs)/\vs[n]?=some w)∨(∃kvs,H a=some (.dK kvs)/\(kvs.map (·.2))[n]?=some w)∨∃C dx fs,H a=some (.ins C dx fs)/\(fs.map (·.2))[n]?=some w)
section
variable{F F':γ->Prop}{H H':Hp}
theorem Q2.split:∀{ds:List D}{vs:List V}{A:List γ}{i:Nat}{d:D},Q2 F H vs ds A->ds[i]?=some d->∃b v c ds1 a A1 B A2,vs=b++v::c/\ds=ds1++d::a/\b.length=i/\ds1.length=i/\A=A1++(B++A2)/\Q2 F H b ds1 A1/\Q8 F H v d B/\Q2 F H c a A2:=by
 intro ds;induction ds with
 |nil=>intro K A i d _ h;simp at h|cons e r f=>
  intro K A i d L h;cases i with
  |zero=>
   have:e=d:=by simpa using h
   subst this;cases L with|cons q t=>exact⟨[],_,_,[],_,[],_,_,rfl,rfl,rfl,rfl,rfl,.nil,q,t⟩
  |succ i=>
   have h:r[i]?=some d:=by simpa using h
   cases L with|@cons v _ B0 _ _ A0 q t=>obtain⟨σ1,o,σ2,ds1,a,A1,B,A2,g,e2,j,k,l,m,n,p⟩:=f t h;exact⟨v::σ1,o,σ2,_::ds1,a,B0++A1,B,A2,by rw[g];rfl,by rw[e2];rfl,by simp[j],by simp[k],by rw[l,zAs],.cons q m,n,p⟩
theorem Q2.append(r:Q2 F H vs ds A)(t:Q2 F H a es B):Q2 F H (vs++a) (ds++es) (A++B):=by induction vs generalizing ds A with|nil=>cases r;exact t|cons v vs b=>cases r with|cons h c=>rw[zAs];exact .cons h (b c)
theorem Q2.kid(r:Q2 F H vs ds A)(h:ds[n]?=some d):∃(w:V)(B C:List γ),vs[n]?=some w/\Q8 F H w d B/\(∀b,A.count b=B.count b+C.count b)/\∀{F':γ->Prop}{H':Hp}{W:γ->Prop}(d':D)(B':List γ),Kp F H W F' H'->(∀b∈C,¬W b)->Q8 F' H' w d' B'->∃A':List γ,Q2 F' H' vs (ds.set n d') A'/\∀b,A'.count b=B'.count b+C.count b:=by obtain⟨f,v,g,i,j,A1,B,A2,c,e2,l,m,o,p,q,s⟩:=r.split h;refine⟨v,B,A1++A2,by rw[c];exact qH1 l,q,λb=>by rw[o];simp only[zA0];lia,λ{F' H' W} d' B' k e t=>⟨A1++(B'++A2),?_,λb=>by simp only[zA0];lia⟩⟩;rw[c,e2,qs7 m];exact(p.keep k λb a=>e b (zAf.mpr (.inl a))).append (.cons t (s.keep k λb a=>e b (zAf.mpr (.inr a))))
theorem Q8.kid(r:Q8 F H p d0 A)(h:d0.kids[n]?=some d):∃(w:V)(B C:List γ),Lnk H p n w/\Q8 F H w d B/\(∀b,A.count b=B.count b+C.count b)/\∀{F':γ->Prop}{H':Hp}{W:γ->Prop}(d':D)(B':List γ),Kp F H W F' H'->(∀b∈C,¬W b)->Q8 F' H' w d' B'->∃A':List γ,Q8 F' H' p (d0.setK n d') A'/\∀b,A'.count b=B'.count b+C.count b:=by cases r with|@q a vs ds _ e r=>obtain⟨w,B,C,f,g,i,j⟩:=r.kid h;refine⟨w,B,C,⟨a,rfl,.inl ⟨vs,e,f⟩⟩,g,i,λ{F' H' W} d' B' k c l=>?_⟩;obtain⟨A',m,q2⟩:=j d' B' k c l;exact⟨A',.q (k.q e) m,q2⟩|@l a vs ds A e r=>obtain⟨w,B,C,f,g,i,j⟩:=r.kid h;refine⟨w,B,a::C,⟨a,rfl,.inr (.inl ⟨vs,e,f⟩)⟩,g,λb=>by rw[zAq,zAq,i];lia,λ{F' H' W} d' B' k c l=>?_⟩;obtain⟨A',m,q2⟩:=j d' B' k (λb o=>c b (zA6 _ o)) l;exact⟨a::A',.l (k.fr a _ e (c a zA7)) m,λb=>by rw[zAq,zAq,q2];lia⟩|@dct a kvs kds A e q r=>obtain⟨w,B,C,f,g,i,j⟩:=r.kid h;refine⟨w,B,a::C,⟨a,rfl,.inr (.inr (.inl ⟨kvs,e,f⟩))⟩,g,λb=>by rw[zAq,zAq,i];lia,λ{F' H' W} d' B' k c l=>?_⟩;obtain⟨A',m,q2⟩:=j d' B' k (λb o=>c b (zA6 _ o)) l;obtain⟨s,t⟩:=qS6 kds n d';exact⟨a::A',.dct (k.fr a _ e (c a zA7)) (q.trans s.symm) (by rw[t];exact m),λb=>by rw[zAq,zAq,q2];lia⟩|@ins a C0 dx fvs fds A e q r=>obtain⟨w,B,C,f,g,i,j⟩:=r.kid (n:=n) h;refine⟨w,B,a::C,⟨a,rfl,.inr (.inr (.inr ⟨C0,dx,fvs,e,f⟩))⟩,g,λb=>by rw[zAq,zAq,i];lia,λ{F' H' W} d' B' k c l=>?_⟩;obtain⟨A',m,q2⟩:=j d' B' k (λb o=>c b (zA6 _ o)) l;obtain⟨s,t⟩:=qS6 fds n d';exact⟨a::A',.ins (k.fr a _ e (c a zA7)) (q.trans s.symm) (by rw[t];exact m),λb=>by rw[zAq,zAq,q2];lia⟩|_=>cases (show (none:Option D)=some _ from h)
def D.getP:D->List Nat->Option D|d,[]=>some d|d,n::p=>match d.kids[n]? with|some e=>e.getP p|none=>none
def D.setP:D->List Nat->D->D|_,[],x=>x|d,n::p,x=>match d.kids[n]? with|some e=>d.setK n (e.setP p x)|none=>d
def Walk(H:Hp):V->List Nat->V->Prop|u,[],w=>u=w|u,n::p,w=>∃v,Lnk H u n v/\Walk H v p w
theorem Q8.path:∀{p:List Nat}{a:V}{d0 d:D}{A:List γ},Q8 F H a d0 A->d0.getP p=some d->∃(w:V)(B C:List γ),Walk H a p w/\Q8 F H w d B/\(∀b,A.count b=B.count b+C.count b)/\∀{F':γ->Prop}{H':Hp}{W:γ->Prop}(d':D)(B':List γ),Kp F H W F' H'->(∀b∈C,¬W b)->Q8 F' H' w d' B'->∃A':List γ,Q8 F' H' a (d0.setP p d') A'/\∀b,A'.count b=B'.count b+C.count b:=by intro p;induction p with|nil=>intro a d0 d A r h;cases h;exact⟨a,A,[],rfl,r,λb=>by simp,λ{F' H' W} d' B' k f g=>⟨B',g,λb=>by simp⟩⟩|cons n p j=>intro a d0 d A r h;unfold D.getP at h;cases c:d0.kids[n]? with|none=>rw[c] at h;cases h|some e=>rw[c] at h;obtain⟨l,B1,C1,m,o,q,s⟩:=r.kid c;obtain⟨w,B,C,t,u,v,x⟩:=j o h;refine⟨w,B,C++C1,⟨l,m,t⟩,u,λb=>by rw[q,v,zA0];lia,λ{F' H' W} d' B' k f g=>?_⟩;obtain⟨A1,y,q2⟩:=x d' B' k (λb i=>f b (zAf.mpr (.inl i))) g;obtain⟨A2,z,E⟩:=s (e.setP p d') A1 k (λb i=>f b (zAf.mpr (.inr i))) y;refine⟨A2,?_,λb=>by rw[E,q2,zA0];lia⟩;unfold D.setP;rw[c];exact z
def Bb(ds:Ds)(i:Nat)(p:List Nat):Option D:=match ds[i]? with|some d=>d.getP p|none=>none
def Bn(ds:Ds)(i:Nat)(p:List Nat)(x:D):Ds:=match ds[i]? with|some d=>ds.set i (d.setP p x)|none=>ds
theorem qan4(h:D.getP .u p=some d):p=[]/\d=.u:=by cases p with|nil=>cases h;exact⟨rfl,rfl⟩|cons n p=>cases (show (none:Option D)=some _ from h)
theorem Locs.place(L:Locs F H K ds A)(h:Bb ds i p=some d)(g:d≠.u):∃(u w:V)(B C:List γ),K[i]?=some (some u)/\Walk H u p w/\Q8 F H w d B/\(∀b,A.count b=B.count b+C.count b)/\∀{F':γ->Prop}{H':Hp}{W:γ->Prop}(d':D)(B':List γ),Kp F H W F' H'->(∀b∈C,¬W b)->Q8 F' H' w d' B'->∃A':List γ,Locs F' H' K (Bn ds i p d') A'/\∀b,A'.count b=B'.count b+C.count b:=by unfold Bb at h;cases c:ds[i]? with|none=>rw[c] at h;cases h|some J=>rw[c] at h;obtain⟨σ1,o,σ2,j,l,A1,B0,A2,f,e2,m,n,q,s,t,v⟩:=L.split c;cases t with|no=>exact absurd (qan4 h).2 g|@so u _ _ r=>obtain⟨w,B,C,x,y,z,E⟩:=r.path h;refine⟨u,w,B,A1++(C++A2),by rw[f];exact qH1 m,x,y,λb=>by rw[q];simp only[zA0,z];lia,λ{F' H' W} d' B' k e G=>?_⟩;obtain⟨A',I,q2⟩:=E d' B' k (λb a=>e b (zAf.mpr (.inr (zAf.mpr (.inl a))))) G;refine⟨A1++(A'++A2),?_,λb=>by simp only[zA0,q2];lia⟩;unfold Bn;rw[c,f];dsimp only;rw[e2,qs7 n];exact(s.keep k λb a=>e b (zAf.mpr (.inl a))).append (.so I (v.keep k λb a=>e b (zAf.mpr (.inr (zAf.mpr (.inr a))))))
theorem Lnk.fn(h:Lnk H u n v)(h':Lnk H u n w):v=w:=by obtain⟨a,rfl,h⟩:=h;obtain⟨b,e,h'⟩:=h';cases e;rcases h with⟨vs,e,h⟩|⟨vs,e,h⟩|⟨vs,e,h⟩|⟨C,dx,vs,e,h⟩<;>rcases h' with⟨vs',e',h'⟩|⟨vs',e',h'⟩|⟨vs',e',h'⟩|⟨C',dx',vs',e',h'⟩<;>rw[e] at e'<;>cases e'<;>rw[h] at h'<;>exact P8 h'
theorem Walk.fn:∀{p:List Nat}{u v w:V},Walk H u p v->Walk H u p w->v=w|[],_,_,_,h,h'=>h.symm.trans h'|n::p,_,_,_,⟨x,h1,h2⟩,⟨y,h3,h4⟩=>by cases h1.fn h3;exact Walk.fn h2 h4
theorem Lnk.same(h:Lnk H u n v)(s:Same H H'):Lnk H' u n v:=by obtain⟨a,rfl,h⟩:=h;refine⟨a,rfl,?_⟩;rcases h with⟨vs,e,h⟩|⟨vs,e,h⟩|⟨vs,e,h⟩|⟨C,dx,vs,e,h⟩;{exact .inl ⟨vs,s _ _ e,h⟩};{exact .inr (.inl ⟨vs,s _ _ e,h⟩)};{exact .inr (.inr (.inl ⟨vs,s _ _ e,h⟩))};exact .inr (.inr (.inr ⟨C,dx,vs,s _ _ e,h⟩))
theorem Walk.same:∀{p:List Nat}{u v:V},Walk H u p v->Same H H'->Walk H' u p v|[],_,_,h,_=>h|n::p,_,_,⟨x,h1,h2⟩,s=>⟨x,h1.same s,h2.same s⟩
end
section
variable{c:Vc}{X:Cx}{b:Nu}{V:Bool}{r:R2}{g:D->D->Option D}{U:VT}
def t2n(g:D->D->Option D)(i:Nat)(U:VT):VT:=λds Q xe=>(rdN i ds).isSome=true/\U ds (λy ds1=>orF ((rdN i ds1).bind λx=>g x y) λd=>Q d ds1) xe
theorem qaD4(h:VE c X b U):∀ds (Q Q':DK) (xe e:XKd),(∀d a,Q d a->Q' d a)->(∀x a,xe x a->e x a)->t2n g i U ds Q xe->t2n g i U ds Q' e:=λds Q Q' xe e j k=>P7 (h.m _ _ _ _ _ (λd f=>qa5 λz=>j z f) k)
theorem Rb.name(S:Rb c F H R ds A)(hi:i<R.length)(h:rdN i ds=some d):∃v B,R[i]?=some (some v)/\Q8 F H v d B/\∀b,B.count b<=A.count b:=let ⟨e,k⟩:=qn3.mp h
 S.at hi e k
theorem op_ne(o:VE c X b U)(h:A8 true r g)(hi:i<R.length)(q:Bj c (t2n g i U) R H Q):tOp r (Hs i) (Bj c U) R H Q:=by
 obtain⟨F,p,A,s,S,x,t,q⟩:=q;obtain⟨L,e⟩:=zB0.mp t;obtain⟨v,B0,n,_,_⟩:=S.name hi e;refine⟨v,n,F,p,A,s,S,x,o.m _ _ _ _ _ (λC D q w H1 F1 T A1 E S1 M G=>?_) (λ_ _ z=>z) q⟩;have f:Ra F H A F1 H1 A1:=G.count λb=>by rw[zA0];lia
 obtain⟨d,j,q⟩:=qa7.mp q;obtain⟨y,I,j⟩:=zA1.mp j;obtain⟨N,B,a,J,_⟩:=S1.name hi I;rw[n] at a;cases a;refine h F1 H1 v w y C _ d Q (Hw J E) j λu H3 B3 K k l=>?_;rw[if_pos rfl] at l;exact q u H3 F1 B3 A1 K (S1.same k) (S1.new l k) (f.trans (l.stp k))
def t2nP(g:D->D->Option D)(i:Nat)(U:VT):VT:=λds Q xe=>(rdN i ds).isSome=true/\U ds (λy ds1=>orF ((rdN i ds1).bind λx=>g x y) λd=>d.imm=true/\Q d ds1) xe
theorem qaq8(h:VE c X b U):∀ds (Q Q':DK) (xe e:XKd),(∀d a,Q d a->Q' d a)->(∀x a,xe x a->e x a)->t2nP g i U ds Q xe->t2nP g i U ds Q' e:=λds Q Q' xe e j k=>P7 (h.m _ _ _ _ _ (λd f=>qa5 λz=>P7 (j z f)) k)
theorem qba9{R:St}{H:Hp}(o:VE c X b U)(h:A8 V r g)(hi:i<R.length)(q:Bj c (t2nP g i U) R H Q):tOp r (Hs i) (Bj c U) R H Q:=by
 obtain⟨F,p,A,s,S,x,t,q⟩:=q;obtain⟨L,e⟩:=zB0.mp t;obtain⟨v,B0,l,_,_⟩:=S.name hi e;refine⟨v,l,F,p,A,s,S,x,o.m _ _ _ _ _ (λC D q w H1 F1 T A1 E S1 M G=>?_) (λ_ _ z=>z) q⟩;have f:Ra F H A F1 H1 A1:=G.count λb=>by rw[zA0];lia
 obtain⟨d,j,I,q⟩:=qa7.mp q;obtain⟨y,J,j⟩:=zA1.mp j;obtain⟨N,B,a,K,_⟩:=S1.name hi J;rw[l] at a;cases a;refine h F1 H1 v w y C _ d Q (Hw K E) j λu H3 B3 n k O=>?_;have:=n.imm I;subst this;exact q u H3 F1 [] A1 n (S1.same k) (S1.ok.same k) (f.trans (.same k))
end
section
variable{F:γ->Prop}{H:Hp}{K:P'}
theorem Q8.lst_inv(r:Q8 F H v (.l z ds) B):∃a vs A,v=.ref a/\H a=some (.l vs)/\Q2 F H vs ds A/\∀b,A.count b<=B.count b:=by cases r with|l h r=>exact⟨_,_,_,rfl,h,r,λb=>by rw[zAq];lia⟩|lstZ h f r=>exact⟨_,_,_,rfl,h,r,λb=>zA3 _⟩
theorem Q8.tup_inv(r:Q8 F H v (.q ds) B):∃a vs,v=.ref a/\H a=some (.q vs)/\Q2 F H vs ds B:=by cases r with|q h r=>exact⟨_,_,rfl,h,r⟩
theorem Q8.dct_inv(r:Q8 F H v (.dct z kds) B):∃a kvs A,v=.ref a/\H a=some (.dK kvs)/\kvs.map (·.1)=kds.map (·.1)/\Q2 F H (kvs.map (·.2)) (kds.map (·.2)) A/\∀b,A.count b<=B.count b:=by cases r with|dct h e r=>exact⟨_,_,_,rfl,h,e,r,λb=>by rw[zAq];lia⟩|dctZ h f e r=>exact⟨_,_,_,rfl,h,e,r,λb=>zA3 _⟩
theorem Q8.ins_inv(r:Q8 F H v (.ins z C c) B):∃a dx d A,v=.ref a/\H a=some (.ins C dx d)/\d.map (·.1)=c.map (·.1)/\Q2 F H (d.map (·.2)) (c.map (·.2)) A/\∀b,A.count b<=B.count b:=by cases r with|ins h e r=>exact⟨_,_,_,_,rfl,h,e,r,λb=>by rw[zAq];lia⟩|insZ h f e r=>exact⟨_,_,_,_,rfl,h,e,r,λb=>zA3 _⟩
noncomputable def D.elems:D->Option Ds|.l _ ds=>some ds|.q ds=>some ds|_=>none
theorem Q8.elems(r:Q8 F H v d B)(h:d.elems=some ds):∃a vs A,v=.ref a/\(SqL K H a vs∨SqT K H a vs)/\Q2 F H vs ds A/\∀b,A.count b<=B.count b:=by cases d with|l z c=>cases h;obtain⟨a,vs,A,e,h,r,q⟩:=r.lst_inv;exact⟨a,vs,A,e,.inl (.inl (.inl h)),r,q⟩|q c=>cases h;obtain⟨a,vs,e,h,r⟩:=r.tup_inv;exact⟨a,vs,_,e,.inr (.inl (.inl h)),r,λ_=>zA3 _⟩|_=>cases h
theorem Q2.len(r:Q2 F H vs ds A):vs.length=ds.length:=by induction vs generalizing ds A with|nil=>cases r;rfl|cons v vs a=>cases r with|cons h t=>simp[a t]
theorem qh2(a:H p=none):New H [p]:=⟨λb=>by rw[zAq];simp;split<;>lia,λb o e=>by
 have:b≠p:=λz=>by rw[z,a] at e;cases e
 simp[zAq,Ne.symm this]⟩
theorem qC8(a:H p=none)(r:Q2 F H vs ds []):Q8 F (upd H p (.l vs)) (.ref p) (.l false ds) [p]:=.l qb7 (r.same (Same.new a))
theorem qak6(a:H p=none)(r:Q2 F H vs ds A):Q8 F (upd H p (.q vs)) (.ref p) (.q ds) A:=.q qb7 (r.same (Same.new a))
theorem Q2.get(r:Q2 F H vs ds A)(h:ds[n]?=some d):∃w B,vs[n]?=some w/\Q8 F H w d B/\∀b,B.count b<=A.count b:=by obtain⟨w,B,C,a,c,e,_⟩:=r.kid h;exact⟨w,B,a,c,λb=>by have:=e b;lia⟩
theorem Q2.atI{ds:List D}{A:List γ}{i:Int}{d:D}(r:Q2 F H vs ds A)(h:L2.atI ds i=some d):∃w B,L2.atI vs i=some w/\Q8 F H w d B/\∀b,B.count b<=A.count b:=by unfold L2.atI at h ⊢;rw[r.len];cases e:ixN ds.length i with|none=>rw[e] at h;cases h|some j=>rw[e] at h;exact r.get h
theorem Q2.sub(r:Q2 F H vs ds A)(n m:Nat):∃B,Q2 F H ((vs.drop n).take m) ((ds.drop n).take m) B/\∀b,B.count b<=A.count b:=by induction n generalizing vs ds A with|zero=>(induction m generalizing vs ds A with|zero=>exact⟨[],.nil,λb=>by simp⟩|succ m a=>cases r with|nil=>exact⟨[],.nil,λb=>by simp⟩|cons h t=>obtain⟨B,c,q2⟩:=a t;exact⟨_,.cons h (by simpa using c),λb=>by simp only[zA0];have:=q2 b;lia⟩)|succ n a=>cases r with|nil=>exact⟨[],by simpa using Q2.nil,λb=>by simp⟩|cons h t=>obtain⟨B,c,q2⟩:=a t;exact⟨B,by simpa using c,λb=>by simp only[zA0];have:=q2 b;lia⟩
noncomputable def D.flat:D->Option V|.non=>some .non|.bl b=>some (.bl b)|.int i=>some (.int i)|.str x=>some (.str x)|_=>none
theorem Q8.flat(r:Q8 F H v d B)(h:d.flat=some w):v=w/\flatV v=true:=by cases r<;>cases h<;>exact⟨rfl,rfl⟩
end
noncomputable def big:Nat:=1000000
theorem qj9:big<=M7:=∅
section
variable{F:γ->Prop}{H:Hp}
theorem Q2.imms0(r:Q2 F H vs ds A)(h:D.imms ds=true):Q2 F H vs ds []:=by have:=r.imms h;subst this;exact r
theorem Q2.rep(r:Q2 F H vs ds []):∀k:Nat,Q2 F H (N8 k vs).flatten (N8 k ds).flatten []|0=>.nil|k+1=>by rw[zBt,zBt,zCa,zCa];exact r.append (B:=[]) (r.rep k)
end
noncomputable def gd(p:Prop)[Decidable p](d:D):Option D:=if p then some d else none
theorem qk6{p:Prop}[Decidable p](h:gd p d=some e):p/\d=e:=by unfold gd at h;split at h;{rename_i hp;exact⟨hp,P8 h⟩};cases h
theorem qk5{p:Prop}[Decidable p](h:p):gd p d=some d:=if_pos h
def Jf:D->D->Option D|.int i,.int j=>some (.int (i+j))|.str a,.str b=>gd (a.length+b.length<=big) (.str (a++b))|.l _ xs,.l _ ys=>gd (D.imms xs=true/\D.imms ys=true/\xs.length+ys.length<=big) (.l false (xs++ys))|_,_=>none
def rAddA:R2:=λx y H Q=>rI0 (λi j=>.int (i+j)) x y H Q∨(∃i j,x=.str i/\y=.str j/\i.length+j.length<=M7/\Q (.str (i++j)) H)∨rCat x y H Q
theorem qh1:OpR X (Nn .Add) rAddA:=qbb6.or (qak2.or qbb5)
theorem Q2.both{F:γ->Prop}{H:Hp}{x y:D}{B:List γ}(r:Q2 F H [v,w] [x,y] B):∃A A2,Q8 F H v x A/\Q8 F H w y A2:=by cases r with|cons a t=>cases t with|cons b _=>exact⟨_,_,a,b⟩
theorem Q8.int_inv{F:γ->Prop}{H:Hp}{i:Int}{A:List γ}(r:Q8 F H v (.int i) A):v=.int i:=by cases r;rfl
theorem Q8.bl_inv{F:γ->Prop}{H:Hp}{b:Bool}{A:List γ}(r:Q8 F H v (.bl b) A):v=.bl b:=by cases r;rfl
theorem Q8.str_inv{F:γ->Prop}{H:Hp}{b:Str}{A:List γ}(r:Q8 F H v (.str b) A):v=.str b:=by cases r;rfl
theorem qaJ9{x y d:D}(h:Jf x y=some d):(∃i j,x=.int i/\y=.int j/\d=.int (i+j))∨(∃a b,x=.str a/\y=.str b/\a.length+b.length<=big/\d=.str (a++b))∨∃z z' xs ys,x=.l z xs/\y=.l z' ys/\(D.imms xs=true/\D.imms ys=true/\xs.length+ys.length<=big)/\d=.l false (xs++ys):=by unfold Jf at h;split at h;{exact .inl ⟨_,_,rfl,rfl,(P8 h).symm⟩};{exact .inr (.inl ⟨_,_,rfl,rfl,(qk6 h).1,(qk6 h).2.symm⟩)};{exact .inr (.inr ⟨_,_,_,_,rfl,rfl,(qk6 h).1,(qk6 h).2.symm⟩)};cases h
theorem qh0:A8 true rAddA Jf:=by intro F H v w x y B d Q r h q;obtain⟨A,A2,c,e⟩:=r.both;rcases qaJ9 h with⟨i,j,rfl,rfl,rfl⟩|⟨a,b,rfl,rfl,hl,rfl⟩|⟨z,z2,xs,ys,rfl,rfl,hl,rfl⟩;{exact .inl ⟨i,j,c.int_inv,e.int_inv,q _ H [] (.int _) (λ_ _ z=>z) New.nil⟩};{exact .inr (.inl ⟨a,b,c.str_inv,e.str_inv,zAg hl qj9,q _ H [] (.str _) (λ_ _ z=>z) New.nil⟩)};obtain⟨a,k,_,l,m,g,_⟩:=c.lst_inv;obtain⟨b,n,_,e2,o,q2,_⟩:=e.lst_inv;refine .inr (.inr ⟨a,b,k,n,l,e2,m,o,by rw[g.len,q2.len];exact zAg hl.2.2 qj9,λp f=>?_⟩);exact q _ _ [p] (qC8 f ((g.imms0 hl.1).append (q2.imms0 hl.2.1))) (Same.new f) (qh2 f)
noncomputable def small(i:Int):Bool:=decide (-(2 ^ 64)<i)&&decide (i<2 ^ 64)
theorem qX1{i:Int}(h:small i=true):-(2 ^ 64)<i/\i<2 ^ 64:=by have:=zAp.mp h;exact⟨zAh this.1,zAh this.2⟩
def Jg:D->D->Option D|.int i,.int j=>gd ((small i||small j)=true) (.int (i*j))|.l _ xs,.int k=>gd (D.imms xs=true/\xs.length*k.toNat<=big/\k<1000000/\-1000000<k) (.l false (N8 k.toNat xs).flatten)|_,_=>none
def rMulA:R2:=λx y H Q=>rI CMul (λi j=>.int (i*j)) x y H Q∨rRep x y H Q
theorem qC2:OpR X (Nn .Mult) rMulA:=qbb0.or qba7
theorem qaJ5{x y d:D}(h:Jg x y=some d):(∃i j,x=.int i/\y=.int j/\(small i||small j)=true/\d=.int (i*j))∨∃z xs k,x=.l z xs/\y=.int k/\(D.imms xs=true/\xs.length*k.toNat<=big/\k<1000000/\-1000000<k)/\d=.l false (N8 k.toNat xs).flatten:=by unfold Jg at h;split at h;{exact .inl ⟨_,_,rfl,rfl,(qk6 h).1,(qk6 h).2.symm⟩};{exact .inr ⟨_,_,_,rfl,rfl,(qk6 h).1,(qk6 h).2.symm⟩};cases h
theorem qC1:A8 true rMulA Jg:=by intro F H v w x y B d Q r h q;obtain⟨A,A2,c,e⟩:=r.both;rcases qaJ5 h with⟨i,j,rfl,rfl,hl,rfl⟩|⟨z,xs,k,rfl,rfl,hl,rfl⟩;{exact .inl ⟨i,j,c.int_inv,e.int_inv,(Bool.or_eq_true_iff.mp hl).imp qX1 qX1,q _ H [] (.int _) (λ_ _ z=>z) New.nil⟩};obtain⟨a,g,_,l,m,f,_⟩:=c.lst_inv;refine .inr ⟨a,k,g,l,e.int_inv,m,⋯,⋯,by rw[f.len];exact zAg hl.2.1 qj9,λp b=>?_⟩;exact q _ _ [p] (qC8 b ((f.imms0 hl.1).rep _)) (Same.new b) (qh2 b)
def gI(p:Int->Int->Bool)(f:Int->Int->D):D->D->Option D|.int i,.int j=>gd (p i j=true) (f i j)|_,_=>none
theorem qaU9{p:Int->Int->Bool}{f:Int->Int->D}{x y d:D}(h:gI p f x y=some d):∃i j,x=.int i/\y=.int j/\p i j=true/\d=f i j:=by unfold gI at h;split at h;{exact⟨_,_,rfl,rfl,(qk6 h).1,(qk6 h).2.symm⟩};cases h
theorem os_I(b:∀i j,p i j=true->C i j)(c:∀F H i j,Q8 F H (a i j) (f i j) []):A8 true (rI C a) (gI p f):=by intro F H v w x y B d Q r h q;obtain⟨A,A2,e,g⟩:=r.both;obtain⟨i,j,rfl,rfl,k,rfl⟩:=qaU9 h;exact⟨i,j,e.int_inv,g.int_inv,b i j k,q _ H [] (c F H i j) (λ_ _ z=>z) New.nil⟩
theorem Jh(b:∀F H i j,Q8 F H (a i j) (f i j) []):A8 true (rI0 a) (gI (λ_ _=>true) f):=by intro F H v w x y B d Q r h q;obtain⟨i,j,c,e,_,g⟩:=os_I (λ_ _ _=>trivial) b F H v w x y B d Q r h q;exact⟨i,j,c,e,g⟩
def gSub:=gI (λ_ _=>true) λi j=>.int (i-j)
def gDiv:=gI (λ_ j=>decide (0<j)&&decide (j<2 ^ 200)) λi j=>.int (i/j)
def Ma:=gI (λ_ j=>decide (0<j)) λi j=>.int (i%j)
def gLt:=gI (λ_ _=>true) λi j=>.bl (decide (i<j))
def gLe:=gI (λ_ _=>true) λi j=>.bl (decide (i<=j))
def gGt:=gI (λ_ _=>true) λi j=>.bl (decide (j<i))
def gGe:=gI (λ_ _=>true) λi j=>.bl (decide (j<=i))
theorem qq9:A8 true (rI0 λi j=>.int (i-j)) gSub:=Jh λ_ _ _ _=>.int _
theorem qaG4:A8 true (rI CDivB λi j=>.int (i/j)) gDiv:=os_I (λi j h=>by
 have:=zAp.mp h
 exact⟨zAh this.1,zAh this.2⟩) λ_ _ _ _=>.int _
theorem qr0:A8 true (rI (λ_ j=>0<j) λi j=>.int (i%j)) Ma:=os_I (λi j h=>zAh h) λ_ _ _ _=>.int _
theorem Kc:A8 true (rI0 λi j=>.bl (decide (i<j))) gLt:=Jh λ_ _ _ _=>.bl _
theorem Mb:A8 true (rI0 λi j=>.bl (decide (i<=j))) gLe:=Jh λ_ _ _ _=>.bl _
theorem Fp:A8 true (rI0 λi j=>.bl (decide (j<i))) gGt:=Jh λ_ _ _ _=>.bl _
theorem Kd:A8 true (rI0 λi j=>.bl (decide (j<=i))) gGe:=Jh λ_ _ _ _=>.bl _
noncomputable def D.isN:D->Option Bool|.non=>some true|.u=>none|.hole _=>none|_=>some false
theorem Q8.isN(r:Q8 F H v d B)(h:d.isN=some b):decide (v=.non)=b:=by cases r<;>cases h<;>rfl
def gIs:D->D->Option D|x,.non=>x.isN.map .bl|.bl a,.bl b=>some (.bl (a==b))|_,_=>none
def rIs:R2:=λx y H Q=>(y=.non/\Q (.bl (decide (x=.non))) H)∨(∃b c,x=.bl b/\y=.bl c/\Q (.bl (b==c)) H)
theorem qaU8{x y d:D}(h:gIs x y=some d):(y=.non/\∃b,x.isN=some b/\d=.bl b)∨∃a b,x=.bl a/\y=.bl b/\d=.bl (a==b):=by unfold gIs at h;split at h;{obtain⟨b,e,h⟩:=zA8.mp h;exact .inl ⟨rfl,b,e,h.symm⟩};{exact .inr ⟨_,_,rfl,rfl,(P8 h).symm⟩};cases h
theorem Q8.non_inv{F:γ->Prop}{H:Hp}{A:List γ}(r:Q8 F H v .non A):v=.non:=zAh (r.isN rfl)
theorem Gr:A8 true rIs gIs:=by intro F H v w x y B d Q r h q;obtain⟨A,A2,c,f⟩:=r.both;rcases qaU8 h with⟨rfl,b,e,rfl⟩|⟨a,b,rfl,rfl,rfl⟩;{refine .inl ⟨f.non_inv,?_⟩;rw[c.isN e];exact q _ H [] (.bl _) (λ_ _ z=>z) New.nil};exact .inr ⟨a,b,c.bl_inv,f.bl_inv,q _ H [] (.bl _) (λ_ _ z=>z) New.nil⟩
theorem Gs:OpR X (M8 .Is) rIs:=qbb1.or qbb2
theorem qaQ9:OpR X (M8 .IsNot) (λx y H Q=>∃b c,x=.bl b/\y=.bl c/\Q (.bl (b != c)) H):=by intro Fm s f H x y v u Q I a d ⟨b,c,e,e2,q⟩;subst e;subst e2;cases a;cases d;exact PyProof.Rows.isnot_bool ⟨.bl (b != c),H,I,rfl,q⟩
def gIsn:D->D->Option D|x,.non=>x.isN.map λb=>.bl (!b)|.bl a,.bl b=>some (.bl (a != b))|_,_=>none
def rIsn:R2:=λx y H Q=>(y=.non/\Q (.bl (!decide (x=.non))) H)∨(∃b c,x=.bl b/\y=.bl c/\Q (.bl (b != c)) H)
theorem qaJ6{x y d:D}(h:gIsn x y=some d):(y=.non/\∃b,x.isN=some b/\d=.bl !b)∨∃a b,x=.bl a/\y=.bl b/\d=.bl (a != b):=by unfold gIsn at h;split at h;{obtain⟨b,e,h⟩:=zA8.mp h;exact .inl ⟨rfl,b,e,h.symm⟩};{exact .inr ⟨_,_,rfl,rfl,(P8 h).symm⟩};cases h
theorem qp0:A8 true rIsn gIsn:=by intro F H v w x y B d Q r h q;obtain⟨A,A2,c,f⟩:=r.both;rcases qaJ6 h with⟨rfl,b,e,rfl⟩|⟨a,b,rfl,rfl,rfl⟩;{refine .inl ⟨f.non_inv,?_⟩;rw[c.isN e];exact q _ H [] (.bl _) (λ_ _ z=>z) New.nil};exact .inr ⟨a,b,c.bl_inv,f.bl_inv,q _ H [] (.bl _) (λ_ _ z=>z) New.nil⟩
theorem qj6:OpR X (M8 .IsNot) rIsn:=qaQ8.or qaQ9
noncomputable def Fv(f:D->D->Option Bool):List D->List D->Option Bool|[],[]=>some true|x::xs,y::ys=>(f x y).bind λa=>(Fv f xs ys).bind λb=>some (a&&b)|_,_=>some false
def eqF(x y:D):Option Bool:=match x.flat,y.flat with|some v,some w=>some (eqV v w)|_,_=>none
def eqZ(x y:D):Option Bool:=eqF x y
def eqN:Nat->D->D->Option Bool|0,x,y=>eqZ x y|n+1,.l _ xs,.l _ ys=>Fv (eqN n) xs ys|n+1,.q xs,.q ys=>Fv (eqN n) xs ys|_,x,y=>eqZ x y
theorem qD9{f:D->D->Option Bool}:∀{xs ys:List D}{b:Bool},Fv f xs ys=some b->∃e:Nat->Bool,(∀i x y,xs[i]?=some x->ys[i]?=some y->f x y=some (e i))/\b=((N7 (min xs.length ys.length)).all e&&xs.length==ys.length)
 |[],[],b,h=>by cases h;exact⟨λ_=>true,λi x y h=>by simp at h,by simp⟩|[],y::ys,b,h=>by cases h;exact⟨λ_=>true,λi x y h=>by simp at h,by simp⟩|x::xs,[],b,h=>by cases h;exact⟨λ_=>true,λi x y _ h=>by simp at h,by simp⟩|x::xs,y::ys,b,h=>by
  obtain⟨a,k,h⟩:=zA1.mp h;obtain⟨o,l,h⟩:=zA1.mp h;cases h;obtain⟨e,m,q2⟩:=qD9 l;refine⟨λi=>match i with|0=>a|i+1=>e i,λi c d g j=>?_,?_⟩
  .cases i with
   |zero=>
    have n:x=c:=by simpa using g
    have e2:y=d:=by simpa using j
    subst n;subst e2;exact k
   |succ i=>exact m i c d (by simpa using g) (by simpa using j)
  rw[q2,zAm,zAm,Nat.add_min_add_right,List.range_succ_eq_map,Of,Pt];have:(xs.length+1==ys.length+1)=(xs.length==ys.length):=by by_cases h:xs.length=ys.length;{simp[h]};simp[h]
  rw[this,<-Bool.and_assoc];rfl
section
variable{F:γ->Prop}{H:Hp}
theorem Q8.eqF(r1:Q8 F H v x A)(c:Q8 F H w y B)(h:LV.eqF x y=some b):flatV v=true/\flatV w=true/\eqV v w=b:=by unfold LV.eqF at h;cases a:x.flat with|none=>rw[a] at h;cases h|some d=>cases e2:y.flat with|none=>rw[a,e2] at h;cases h|some e=>rw[a,e2] at h;obtain⟨rfl,f1⟩:=r1.flat a;obtain⟨rfl,f2⟩:=c.flat e2;exact⟨f1,f2,P8 h⟩
theorem qaa0(n:Nat)(x y:D):(eqN (n+1) x y=LV.eqZ x y)∨(∃z xs z' ys,x=.l z xs/\y=.l z' ys)∨∃xs ys,x=.q xs/\y=.q ys:=by cases x with|l z xs=>(cases y with|l z' ys=>exact .inr (.inl ⟨_,_,_,_,rfl,rfl⟩)|_=>exact .inl rfl)|q xs=>(cases y with|q ys=>exact .inr (.inr ⟨_,_,rfl,rfl⟩)|_=>exact .inl rfl)|_=>exact .inl rfl
theorem qV9(x y:D):eqN 0 x y=LV.eqZ x y:=rfl
theorem qaa1(f:∀{v:V}{x y:D}{A B:List γ}{b:Bool},Q8 F H v x A->Q8 F H v y B->eqN n x y=some b->b=true):∀{vs:List V}{xs ys:List D}{A B:List γ}{b:Bool},Q2 F H vs xs A->Q2 F H vs ys B->Fv (eqN n) xs ys=some b->b=true:=by
 intro vs;induction vs with
 |nil=>intro xs ys A B b c d h;cases c;cases d;cases h;rfl|cons v vs e=>
  intro xs ys A B b c d h;cases c with|cons p1 t1=>cases d with|cons g t2=>
  obtain⟨a,i,h⟩:=zA1.mp h;obtain⟨k,j,h⟩:=zA1.mp h;cases h;rw[f p1 g i,e t1 t2 j];rfl
theorem qao2:∀{n:Nat}{v:V}{x y:D}{A B:List γ}{b:Bool},Q8 F H v x A->Q8 F H v y B->eqN n x y=some b->b=true:=by intro n;induction n with|zero=>intro v x y A B b c d h;rw[qV9] at h;obtain⟨f1,f2,rfl⟩:=c.eqF d h;exact qD7 f1|succ n k=>intro v x y A B b c d h;rcases qaa0 n x y with e|⟨z,l,q,m,rfl,rfl⟩|⟨l,m,rfl,rfl⟩;{rw[e] at h;obtain⟨f1,f2,rfl⟩:=c.eqF d h;exact qD7 f1};{obtain⟨a,o,_,rfl,g,i,_⟩:=c.lst_inv;obtain⟨p,j,_,e,f,q2,_⟩:=d.lst_inv;cases e;rw[g] at f;cases f;exact qaa1 k i q2 h};obtain⟨a,o,rfl,g,i⟩:=c.tup_inv;obtain⟨p,j,e,f,q2⟩:=d.tup_inv;cases e;rw[g] at f;cases f;exact qaa1 k i q2 h
theorem Q2.getV(r:Q2 F H vs ds A)(h:vs[n]?=some w):∃d B,ds[n]?=some d/\Q8 F H w d B:=by have c:=r.len;have e:=(zA4.mp h).1;obtain⟨f,B,a,b,_⟩:=r.get (n:=n) (d:=ds[n]'⋯) (by simp);rw[h] at a;cases a;exact⟨_,B,by simp,b⟩
theorem qZ8(r1:Q8 F H v x A)(a:Q8 F H w y B)(h:LV.eqZ x y=some b):EqD H n v w b:=by obtain⟨f1,f2,rfl⟩:=r1.eqF a h;exact .flat f1 f2
theorem qZ9:∀{n:Nat}{v w:V}{x y:D}{A B:List γ}{b:Bool},Q8 F H v x A->Q8 F H w y B->eqN n x y=some b->EqD H n v w b:=by
 intro n;induction n with
 |zero=>intro v w x y A B b c d h;rw[qV9] at h;exact qZ8 c d h|succ n I=>
  intro v w x y A B b c d h;rcases qaa0 n x y with e|⟨z,J,L,K,rfl,rfl⟩|⟨J,K,rfl,rfl⟩;{rw[e] at h;exact qZ8 c d h}
  .obtain⟨a,m,_,rfl,k,g,_⟩:=c.lst_inv;obtain⟨o,r,_,rfl,l,q2,_⟩:=d.lst_inv;by_cases f:a=o;{subst f;cases qao2 (n:=n+1) c d h;exact .same a};obtain⟨e,s,rfl⟩:=qD9 h;rw[<-g.len,<-q2.len];by_cases j:m.length=r.length;{rw[j,Nat.min_self,zB1,Bool.and_true,<-j];refine .lsts f k l j λi p q t e2=>?_;obtain⟨x,_,u,C⟩:=g.getV t;obtain⟨y,_,E,G⟩:=q2.getV e2;exact I C G (s i x y u E)};have:(m.length==r.length)=false:=by simpa using j
   rw[this,Bool.and_false];exact .lens f k l j
  obtain⟨a,m,rfl,k,g⟩:=c.tup_inv;obtain⟨o,r,rfl,l,q2⟩:=d.tup_inv;by_cases f:a=o;{subst f;cases qao2 (n:=n+1) c d h;exact .same a};obtain⟨e,s,rfl⟩:=qD9 h;rw[<-g.len,<-q2.len];refine .tups f k l λi p q t e2=>?_;obtain⟨x,_,u,C⟩:=g.getV t;obtain⟨y,_,E,G⟩:=q2.getV e2;exact I C G (s i x y u E)
end
def eqT:D->D->Option Bool|.l _ xs,.l _ ys=>Fv (eqN 20) xs ys|.q xs,.q ys=>Fv (eqN 20) xs ys|x,y=>eqF x y
theorem Q8.rc(r1:Q8 F H v x A)(j:Q8 F H w y B)(h:eqT x y=some b):RcD H v w b:=by
 unfold eqT at h;split at h
 .obtain⟨a,k,_,rfl,f,c,_⟩:=r1.lst_inv;obtain⟨u,l,_,rfl,g,q2,_⟩:=j.lst_inv;obtain⟨e,m,rfl⟩:=qD9 h;rw[<-c.len,<-q2.len];by_cases d:k.length=l.length;{rw[d,Nat.min_self,zB1,Bool.and_true,<-d];refine .lsts f g d λi p q n e2=>?_;obtain⟨x,_,o,r⟩:=c.getV n;obtain⟨y,_,s,t⟩:=q2.getV e2;exact qZ9 r t (m i x y o s)};have:(k.length==l.length)=false:=by simpa using d
  rw[this,Bool.and_false];exact .lens f g d
 {obtain⟨a,k,rfl,f,c⟩:=r1.tup_inv;obtain⟨u,l,rfl,g,q2⟩:=j.tup_inv;obtain⟨e,m,rfl⟩:=qD9 h;rw[<-c.len,<-q2.len];refine .tups f g λi p q n e2=>?_;obtain⟨x,_,o,r⟩:=c.getV n;obtain⟨y,_,s,t⟩:=q2.getV e2;exact qZ9 r t (m i x y o s)};obtain⟨f1,f2,rfl⟩:=r1.eqF j h;exact .flat f1 f2
def gEq(x y:D):Option D:=(eqT x y).map .bl
def gNe(x y:D):Option D:=(eqT x y).map λb=>.bl (!b)
theorem Bk:A8 true rEqD gEq:=by intro F H v w x y B d Q r h q;obtain⟨A,A2,a,c⟩:=r.both;obtain⟨b,e,rfl⟩:=zA8.mp h;exact⟨b,a.rc c e,q _ H [] (.bl _) (λ_ _ z=>z) New.nil⟩
theorem Br:A8 true rNeD gNe:=by intro F H v w x y B d Q r h q;obtain⟨A,A2,a,c⟩:=r.both;obtain⟨b,e,rfl⟩:=zA8.mp h;exact⟨b,a.rc c e,q _ H [] (.bl _) (λ_ _ z=>z) New.nil⟩
def flats:List D->Option (List V)|[]=>some []|d::r=>d.flat.bind λv=>(flats r).bind λvs=>some (v::vs)
theorem Q2.flats:∀{vs a:List V}{ds:List D}{A:List γ},Q2 F H vs ds A->LV.flats ds=some a->vs=a/\vs.all L2.flatV=true|_,_,_,_,.nil,h=>by cases h;exact⟨rfl,rfl⟩|_,_,_,_,.cons r t,h=>by obtain⟨v,b,h⟩:=zA1.mp h;obtain⟨vs,c,h⟩:=zA1.mp h;cases h;obtain⟨rfl,f⟩:=r.flat b;obtain⟨rfl,g⟩:=t.flats c;exact⟨rfl,by rw[Of,f,g];rfl⟩
def gInB(neg:Bool)(x y:D):Option D:=x.flat.bind λv=>y.elems.bind λys=>(flats ys).bind λa=>some (.bl (if neg then !inV v a else inV v a))
theorem Ke:A8 true (rIn K neg) (gInB neg):=by intro F H v w x y B d Q r h q;obtain⟨A,A2,b,c⟩:=r.both;obtain⟨n,e,h⟩:=zA1.mp h;obtain⟨o,i,h⟩:=zA1.mp h;obtain⟨p,j,h⟩:=zA1.mp h;cases h;obtain⟨rfl,f⟩:=b.flat e;obtain⟨a,k,A3,rfl,l,m,_⟩:=c.elems (K:=K) i;obtain⟨rfl,g⟩:=m.flats j;exact⟨a,k,rfl,l,f,g,q _ H [] (.bl _) (λ_ _ z=>z) New.nil⟩
def gIx(x y:D):Option D:=match y with|.int i=>x.elems.bind λys=>atI ys i|_=>none
theorem qaU6{x y d:D}(h:gIx x y=some d):∃i ys,y=.int i/\x.elems=some ys/\atI ys i=some d:=by cases y with|int i=>obtain⟨ys,a,h⟩:=zA1.mp h;exact⟨i,ys,rfl,a,h⟩|_=>cases h
theorem Al:A8 false (rIx K) gIx:=by
 intro F H v w x y B d Q r h q;cases r with|@cons _ _ A _ _ _ l t=>cases t with|@cons _ _ A2 _ _ _ m _=>
 obtain⟨i,u,rfl,n,h⟩:=qaU6 h;obtain rfl:=m.int_inv;obtain⟨a,j,A3,rfl,c,o,p⟩:=l.elems (K:=K) n;obtain⟨f,B',k,g,s⟩:=o.atI h;have e:=q f H B' g (λ_ _ z=>z) (by rw[if_neg ∅];exact λb=>.inl (by rw[zA0];have:=s b;have:=p b;lia));rcases c with c|c;{exact .inl ⟨a,j,i,f,rfl,rfl,c,k,e⟩};exact .inr (.inl ⟨a,j,i,f,rfl,rfl,c,k,e⟩)
section
variable{F:γ->Prop}{H:Hp}
theorem Q2.one_inv(r:Q2 F H vs [x] B):∃v,vs=[v]/\Q8 F H v x B:=by cases r with|cons h t=>cases t;exact⟨_,rfl,by rw[zAa];exact h⟩
theorem Q2.two_inv(r:Q2 F H vs [x,y] B):∃v w A C,vs=[v,w]/\Q8 F H v x A/\Q8 F H w y C/\∀b,B.count b=A.count b+C.count b:=by cases r with|cons h t=>cases t with|cons a t=>cases t;exact⟨_,_,_,_,rfl,h,a,λb=>by simp[zA0]⟩
end
noncomputable def fx1(g:D->Option D):Ds->Option D|[x]=>g x|_=>none
noncomputable def fx2(g:D->D->Option D):Ds->Option D|[x,y]=>g x y|_=>none
def CS1(nw:Bool)(r:List V->Hp->VK->Prop)(g:D->Option D):Prop:=∀F H v x B d (Q:VK),Q8 F H v x B->g x=some d->(∀v H' B',Q8 F H' v d B'->Same H H'->(if nw=true then New H B' else Sub H B B')->Q v H')->r [v] H Q
theorem CS1.ops(h:CS1 nw r g):OpS nw r (fx1 g):=by intro F H c a B d Q r e q;match a,e with|[x],e=>obtain⟨v,rfl,b⟩:=r.one_inv;exact h F H v x B d Q b e q
def Hx(x:D):Option D:=match x with|.str z=>gd (z.length<=big) (.int z.length)|.dct _ kvs=>some (.int kvs.length)|x=>x.elems.map λys=>.int ys.length
def rLenA(K:P'):List V->Hp->VK->Prop:=λxs H Q=>(∃p ys,xs=[.ref p]/\(SqL K H p ys∨SqT K H p ys)/\Q (.int ys.length) H)∨(∃z,xs=[.str z]/\z.length<=M7/\Q (.int z.length) H)∨(∃a kvs,xs=[V.ref a]/\H a=some (.dK kvs)/\Q (.int kvs.length) H)
theorem qu3:CallR X (.builtin "len") (rLenA X.K):=qW3.or (qW2.or qax1)
theorem qaS4{x d:D}(h:Hx x=some d):(∃z,x=.str z/\z.length<=big/\d=.int z.length)∨(∃z kvs,x=.dct z kvs/\d=.int kvs.length)∨∃ys,x.elems=some ys/\d=.int ys.length:=by unfold Hx at h;split at h;{exact .inl ⟨_,rfl,(qk6 h).1,(qk6 h).2.symm⟩};{exact .inr (.inl ⟨_,_,rfl,(P8 h).symm⟩)};obtain⟨ys,e,h⟩:=zA8.mp h;exact .inr (.inr ⟨ys,e,h.symm⟩)
theorem qu2:CS1 true (rLenA K) Hx:=by
 intro F H v x B d Q r h q;rcases qaS4 h with⟨z,rfl,hl,rfl⟩|⟨z,kds,rfl,rfl⟩|⟨ys,e,rfl⟩;{exact .inr (.inl ⟨z,by rw[r.str_inv],zAg hl qj9,q _ H [] (.int _) (λ_ _ z=>z) New.nil⟩)}
 .obtain⟨a,b,A,rfl,c,e,f,_⟩:=r.dct_inv;refine .inr (.inr ⟨a,b,rfl,c,?_⟩);have:b.length=kds.length:=by have:=congrArg Ob e;simpa using this
  rw[this];exact q _ H [] (.int _) (λ_ _ z=>z) New.nil
 obtain⟨a,g,A,rfl,c,f,_⟩:=r.elems e;refine .inl ⟨a,g,rfl,c,?_⟩;rw[f.len];exact q _ H [] (.int _) (λ_ _ z=>z) New.nil
noncomputable def gAbs:D->Option D|.int i=>some (.int (if i<0 then -i else i))|_=>none
noncomputable def gInt:D->Option D|.int i=>some (.int i)|.bl b=>some (.int (if b then 1 else 0))|_=>none
theorem qbf3:CS1 true (λxs H Q=>(∃i,xs=[.int i]/\Q (.int i) H)∨∃k,xs=[.bl k]/\Q (.int (if k then 1 else 0)) H) gInt:=by intro F H v x B d Q r h q;cases x with|int i=>cases h;cases r;exact .inl ⟨i,rfl,q _ H [] (.int _) (λ_ _ z=>z) New.nil⟩|bl i=>cases h;cases r;exact .inr ⟨i,rfl,q _ H [] (.int _) (λ_ _ z=>z) New.nil⟩|_=>cases h
def Ie(x:D):Option D:=x.elems.bind λys=>gd (D.imms ys=true) (.l false ys)
theorem qH5:CS1 true (λxs H Q=>∃p ys,xs=[.ref p]/\(SqL K H p ys∨SqT K H p ys)/\∀l,H l=none->Q (.ref l) (upd H l (.l ys))) Ie:=by intro F H v x B d Q r h q;obtain⟨ys,e,h⟩:=zA1.mp h;obtain⟨c,rfl⟩:=qk6 h;obtain⟨a,f,A,rfl,g,i,_⟩:=r.elems e;exact⟨a,f,rfl,g,λp b=>q _ _ [p] (qC8 b (i.imms0 c)) (Same.new b) (qh2 b)⟩
noncomputable def D.intO:D->Option Int|.int k=>some k|_=>none
def pairK:D->Option (Key×D)|.q [a,x]=>a.intO.bind λk=>if x.imm=true then some (.inl k,x) else none|_=>none
def K5:List D->Option (List (Key×D))|[]=>some []|d::r=>(pairK d).bind λp=>(K5 r).bind λps=>some (p::ps)
noncomputable def Hj(kvs:List (Key×D))(k:Key)(v:D):List (Key×D):=if (kvs.any λa=>decide (a.1=k))=true then kvs.map (λa=>if a.1=k then (a.1,v) else a) else kvs++[(k,v)]
def qx5(kvs more:List (Key×D)):List (Key×D):=more.foldl (λacc a=>Hj acc a.1 a.2) kvs
abbrev KP(F:γ->Prop)(H:Hp)(kvs:List (Key×V))(kds:List (Key×D)):Prop:=Paired (λ(p:Key×V)(q:Key×D)=>p.1=q.1/\Q8 F H p.2 q.2 []) kvs kds
section
variable{F:γ->Prop}{H:Hp}
theorem KP.maps(h:KP F H kvs kds):kvs.map (·.1)=kds.map (·.1)/\Q2 F H (kvs.map (·.2)) (kds.map (·.2)) []:=by induction h with|nil=>exact⟨rfl,.nil⟩|cons a _ b=>exact⟨by rw[zAy,zAy,a.1,b.1],.cons a.2 b.2⟩
theorem KP.any(h:KP F H kvs kds)(k:Key):(kvs.any λb=>decide (b.1=k))=kds.any λb=>decide (b.1=k):=by induction h with|nil=>rfl|cons a _ c=>rw[zCf,zCf,a.1,c]
theorem KP.append(h:KP F H kvs kds)(h':KP F H kvs' kds'):KP F H (kvs++kvs') (kds++kds'):=by induction h with|nil=>exact h'|cons a _ b=>exact .cons a b
theorem KP.mapk(h:KP F H kvs kds)(r:Q8 F H v d []):KP F H (kvs.map λb=>if b.1=k then (b.1,v) else b) (kds.map λb=>if b.1=k then (b.1,d) else b):=by induction h with|nil=>exact .nil|@cons p q _ _ a _ ih=>refine .cons ?_ ih;show (if p.1=k then (p.1,v) else p).1=(if q.1=k then (q.1,d) else q).1/\Q8 F H (if p.1=k then (p.1,v) else p).2 (if q.1=k then (q.1,d) else q).2 [];rw[<-a.1];split;{exact⟨rfl,r⟩};exact a
theorem KP.put(h:KP F H kvs kds)(r:Q8 F H v d []):KP F H (putK kvs k v) (Hj kds k d):=by unfold putK Hj;rw[h.any k];split;{exact h.mapk r};exact h.append (.cons ⟨rfl,r⟩ .nil)
theorem KP.merge(h:KP F H more mored):∀{kvs:List (Key×V)}{kds:List (Key×D)},KP F H kvs kds->KP F H (qF6 kvs more) (qx5 kds mored):=by induction h with|nil=>exact λh=>h|@cons p q _ _ a _ ih=>intro kvs kds h;have:=ih (h.put (k:=p.1) a.2);rw[a.1] at this;show KP F H (qF6 (putK kvs p.1 p.2) _) (qx5 (Hj kds q.1 q.2) _);rw[a.1];exact this
theorem qaI7{x:D}{i:Int}(h:x.intO=some i):x=.int i:=by cases x with|int k=>cases h;rfl|_=>cases h
theorem qaG2(r:Q2 F H vs ds A)(h:K5 ds=some ps):∃kvs,qaC4 H vs kvs/\KP F H kvs ps:=by induction ds generalizing vs A ps with|nil=>cases r;cases h;exact⟨[],.nil,.nil⟩|cons d ds g=>cases r with|cons j t=>obtain⟨p,b,h⟩:=zA1.mp h;obtain⟨ps,l,h⟩:=zA1.mp h;cases h;obtain⟨kvs,m,q2⟩:=g t l;unfold pairK at b;split at b;{rename_i k x;obtain⟨i,n,b⟩:=zA1.mp b;obtain rfl:=qaI7 n;split at b;{rename_i hm;cases b;obtain⟨a,s,rfl,o,e⟩:=j.tup_inv;obtain⟨u,q,A1,A2,rfl,f,c,_⟩:=e.two_inv;obtain rfl:=f.int_inv;have:=c.imm hm;subst this;exact⟨(.inl i,q)::kvs,.cons ⟨a,rfl,o⟩ m,.cons ⟨rfl,c⟩ q2⟩};cases b};cases b
theorem qaR5(a:H p=none)(r:KP F H kvs kds):Q8 F (upd H p (.dK kvs)) (.ref p) (.dct false kds) [p]:=.dct qb7 r.maps.1 (r.maps.2.same (Same.new a))
end
def Kf(x:D):Option D:=match x with|.l _ ys=>(K5 ys).map λps=>.dct false (qx5 [] ps)|_=>none
theorem qaB5:CS1 true qaN9 Kf:=by intro F H v x B d Q r h q;cases x with|l z k=>obtain⟨l,e,rfl⟩:=zA8.mp h;obtain⟨a,f,A,rfl,g,i,_⟩:=r.lst_inv;obtain⟨b,j,q2⟩:=qaG2 i e;exact⟨a,f,b,rfl,g,j,λp c=>q _ _ [p] (qaR5 c (q2.merge .nil)) (Same.new c) (qh2 c)⟩|_=>cases h
noncomputable def D.kind:D->Option String|.non=>some "NoneType" | .bl _=>some "bool" | .int _=>some "int" | .str _=>some "str" | .l _ _=>some "list" | .q _=>some "tuple" | .dct _ _=>some "dict"|_=>none
theorem Q8.kind(r:Q8 F H v d B)(h:d.kind=some t):Bf H v=some t:=by cases r with|q e _=>cases h;exact qaI3 e|l e _=>cases h;exact qam2 e|lstZ e _ _=>cases h;exact qam2 e|dct e _ _=>cases h;exact qaA4 e|dctZ e _ _ _=>cases h;exact qaA4 e|_=>cases h<;>rfl
noncomputable def K6(n:String):Bool:=n=="bool" || n=="int" || n=="str" || n=="list" || n=="tuple" || n=="dict"
def gIsi(x y:D):Option D:=match y with|.ty n=>if K6 n=true then x.kind.map λt=>.bl (Ht t n) else none|_=>none
def CS2(nw:Bool)(r:List V->Hp->VK->Prop)(g:D->D->Option D):Prop:=∀F H v w x y A B d (Q:VK),Q8 F H v x A->Q8 F H w y B->g x y=some d->(∀v H' B',Q8 F H' v d B'->Same H H'->(if nw=true then New H B' else Sub H (A++B) B')->Q v H')->r [v,w] H Q
theorem CS2.ops(h:CS2 nw r g):OpS nw r (fx2 g):=by intro F H l c B d Q r e q;match c,e with|[x,y],e=>obtain⟨v,w,A,C,rfl,f,i,j⟩:=r.two_inv;refine h F H v w x y A C d Q f i e λu H' B' k s a=>q u H' B' k s ?_;cases nw with|true=>exact a|false=>rw[if_neg ∅] at a ⊢;exact λb=>(a b).imp (λz=>by rw[zA0] at z;have:=j b;lia) id
theorem qL3:CS2 true rIsi gIsi:=by intro F H v w x y A B d Q b c e q;cases y with|ty n=>cases c;have e:(if K6 n=true then x.kind.map λt=>D.bl (Ht t n) else none)=some d:=e;by_cases a:K6 n=true;{rw[if_pos a] at e;obtain⟨t,f,rfl⟩:=zA8.mp e;refine⟨v,n,t,rfl,b.kind f,?_,q _ H [] (.bl _) (λ_ _ z=>z) New.nil⟩;simp only[K6,Bool.or_eq_true,zBm] at a;simp only[zAj,zBk,or_false];rcases a with ((((h|h)|h)|h)|h)|h;{exact .inl h};{exact .inr (.inl h)};{exact .inr (.inr (.inl h))};{exact .inr (.inr (.inr (.inl h)))};{exact .inr (.inr (.inr (.inr (.inl h))))};exact .inr (.inr (.inr (.inr (.inr h))))};rw[if_neg a] at e;cases e|_=>cases e
def D.isC(C:γ)(x:D):Option D:=match x with|.ins _ C' _=>if C'=C then some (.bl true) else none|x=>x.kind.map λ_=>.bl false
def He(C:γ)(x y:D):Option D:=match y with|.adr a=>if a=C then x.isC C else none|_=>none
theorem qaT0{C:γ}{x y d:D}(h:He C x y=some d):y=.adr C/\((∃z fs,x=.ins z C fs/\d=.bl true)∨∃t,x.kind=some t/\d=.bl false):=by
 cases y with
 |adr a=>
  have h:(if a=C then x.isC C else none)=some d:=h;by_cases b:a=C
  .rw[if_pos b] at h;subst b;refine⟨rfl,?_⟩;have k:(x.kind.map λ_=>D.bl false)=some d->∃t,x.kind=some t/\d=.bl false:=λe=>by obtain⟨t,c,e⟩:=zA8.mp e;exact⟨t,c,e.symm⟩
   cases x with|ins z C' fs=>have h:(if C'=a then some (D.bl true) else none)=some d:=h;by_cases b:C'=a;{rw[if_pos b] at h;exact .inl ⟨z,fs,by rw[b],(P8 h).symm⟩};rw[if_neg b] at h;cases h|_=>exact .inr (k h)
  rw[if_neg b] at h;cases h
 |_=>cases h
theorem qaL2:CS2 true (rIsO C) (He C):=by intro F H v w x y A B d Q b c e q;obtain⟨rfl,h⟩:=qaT0 e;cases c;rcases h with⟨z,fs,rfl,rfl⟩|⟨t,ht,rfl⟩;{obtain⟨p,f,a,_,rfl,h,_,_,_⟩:=b.ins_inv;exact⟨_,rfl,.inl ⟨p,f,a,rfl,h,q _ H [] (.bl _) (λ_ _ z=>z) New.nil⟩⟩};exact⟨_,rfl,.inr ⟨t,b.kind ht,q _ H [] (.bl _) (λ_ _ z=>z) New.nil⟩⟩
def gMax2:=gI (λ_ _=>true) λi j=>.int (if j>i then j else i)
def gMin2:=gI (λ_ _=>true) λi j=>.int (if j<i then j else i)
theorem cs_I2{f:Int->Int->Int}:CS2 true (λxs H Q=>∃i j,xs=[.int i,.int j]/\Q (.int (f i j)) H) (gI (λ_ _=>true) λi j=>.int (f i j)):=by intro F H v w x y A B d Q a b e q;obtain⟨i,j,rfl,rfl,_,rfl⟩:=qaU9 e;exact⟨i,j,by rw[a.int_inv,b.int_inv],q _ H [] (.int _) (λ_ _ z=>z) New.nil⟩
theorem qao3:CS2 true (λxs H Q=>∃i j,xs=[.int i,.int j]/\Q (.int (if j>i then j else i)) H) gMax2:=cs_I2
theorem qaa2:CS2 true (λxs H Q=>∃i j,xs=[.int i,.int j]/\Q (.int (if j<i then j else i)) H) gMin2:=cs_I2
noncomputable def bools:List D->Option (List Bool)|[]=>some []|.bl b::r=>(bools r).map λbs=>b::bs|_=>none
theorem Q2.bools:∀{vs:List V}{ds:List D}{A:List γ}{bs:List Bool},Q2 F H vs ds A->LV.bools ds=some bs->vs=bs.map V.bl:=by intro vs ds;induction ds generalizing vs with|nil=>intro A bs r h;cases r;cases h;rfl|cons d ds a=>intro A bs r h;cases r with|cons c t=>cases d with|bl b=>obtain⟨e,f,rfl⟩:=zA8.mp h;cases c;rw[a t f];rfl|_=>cases h
def gAll(x:D):Option D:=match x with|.l _ ys=>(bools ys).map λbs=>.bl (bs.all id)|_=>none
theorem qaW3:CS1 true (λxs H Q=>∃(a:γ)(bs:List Bool),xs=[.ref a]/\SqL K H a (bs.map V.bl)/\Q (.bl (bs.all id)) H) gAll:=by intro F H v x B d Q r h q;cases x with|l z f=>obtain⟨bs,b,rfl⟩:=zA8.mp h;obtain⟨a,g,A,rfl,c,e,_⟩:=r.lst_inv;cases e.bools b;exact⟨a,bs,rfl,.inl (.inl c),q _ H [] (.bl _) (λ_ _ z=>z) New.nil⟩|_=>cases h
noncomputable def intsD:List D->Option (List Int)|[]=>some []|.int i::r=>(intsD r).map λis=>i::is|_=>none
theorem Q2.intsD:∀{vs:List V}{ds:List D}{A:List γ}{bs:List Int},Q2 F H vs ds A->LV.intsD ds=some bs->vs=bs.map V.int:=by intro vs ds;induction ds generalizing vs with|nil=>intro A bs r h;cases r;cases h;rfl|cons d ds a=>intro A bs r h;cases r with|cons c t=>cases d with|int b=>obtain⟨e,f,rfl⟩:=zA8.mp h;cases c;rw[a t f];rfl|_=>cases h
def Bz(xs:List D)(lo hi:Option Int):List D:=(xs.drop (HT.sIx xs.length 0 lo)).take (HT.sIx xs.length xs.length hi-HT.sIx xs.length 0 lo)
def gSl(x:D)(lo hi:Option Int):Option D:=match x with|.l _ ys=>gd (D.imms (Bz ys lo hi)=true) (.l false (Bz ys lo hi))|.scr ns=>some (.l false ((ns.drop (HT.sIx ns.length 0 lo)).take (HT.sIx ns.length ns.length hi-HT.sIx ns.length 0 lo) |>.map .int))|.q ys=>gd (D.imms (Bz ys lo hi)=true/\(Bz ys lo hi).length<ys.length) (.q (Bz ys lo hi))|_=>none
theorem qJ4{F:γ->Prop}{H:Hp}:∀ns:List Int,Q2 F H (ns.map V.int) (ns.map D.int) []|[]=>.nil|n::r=>.cons (A:=[]) (B:=[]) (.int n) (qJ4 r)
theorem os_sl{K:P'}{F:γ->Prop}{H:Hp}{x d:D}{lo hi:Option Int}{B:List γ}(r:Q8 F H v x B)(h:gSl x lo hi=some d)(f:∀ys,x≠.q ys)(q:∀v H' B',Q8 F H' v d B'->Same H H'->New H B'->Q v H'):rSlL K v lo hi H Q:=by cases x with|l z ys=>obtain⟨g,rfl⟩:=qk6 h;obtain⟨a,i,A,rfl,j,c,_⟩:=r.lst_inv;refine⟨a,i,rfl,.inl (.inl j),λp b=>q _ _ [p] (qC8 b ?_) (Same.new b) (qh2 b)⟩;obtain⟨B',k,l⟩:=c.sub (HT.sIx ys.length 0 lo) (HT.sIx ys.length ys.length hi-HT.sIx ys.length 0 lo);unfold Ja;rw[c.len];exact k.imms0 g|scr m=>(cases h;cases r with|scr e=>refine⟨_,_,rfl,.inl (.inr ⟨_,e⟩),λp b=>q _ _ [p] (qC8 b ?_) (Same.new b) (qh2 b)⟩;unfold Ja;rw[<-Pq,<-Os,zAe];exact qJ4 _)|q ys=>exact absurd rfl (f ys)|_=>cases h
def D.fld(C:γ)(f:Str):D->Option D|.ins _ C' fs=>if C'=C then fs.lookup f else none|_=>none
theorem qal7:∀{c:List (Str×V)}{a:List (Str×D)}{A:List γ}{f:Str}{d:D},c.map (·.1)=a.map (·.1)->Q2 F H (c.map (·.2)) (a.map (·.2)) A->a.lookup f=some d->∃v B,c.lookup f=some v/\Q8 F H v d B/\∀b,B.count b<=A.count b:=by
 intro c;induction c with
 |nil=>intro a A f d e r h;cases a with|nil=>cases h|cons _ _=>simp at e
 |cons p c i=>
  intro a A f d e r h;cases a with
  |nil=>simp at e|cons q a=>
   obtain⟨k,v⟩:=p;obtain⟨j,s⟩:=q;have l:k=j:=by simp at e;exact e.1
   have e2:c.map (·.1)=a.map (·.1):=by simp at e;simpa using e.2
   subst l;cases r with|@cons _ _ A1 _ _ A2 r1 t=>rw[zAv] at h ⊢;cases g:f==k with|true=>rw[g] at h;cases h;exact⟨v,A1,rfl,r1,λb=>by rw[zA0];lia⟩|false=>rw[g] at h;obtain⟨w,B,m,n,o⟩:=i e2 t h;exact⟨w,B,m,n,λb=>by rw[zA0];have:=o b;lia⟩
theorem qaQ5(c:Cls K C)(n:qd1 K C f):OpS1 false (λx H Q=>∃a C dx fs v,x=.ref a/\H a=some (.ins C dx fs)/\Cls K C/\qd1 K C f/\fs.lookup f=some v/\Q v H) (D.fld C f):=by intro F H v x B d Q r h q;cases x with|ins z C' fs=>have i:(if C'=C then fs.lookup f else none)=some d:=h;by_cases j:C'=C;{rw[if_pos j] at i;subst j;obtain⟨a,dx,k,A,rfl,l,e,m,g⟩:=r.ins_inv;obtain⟨w,B',o,p,s⟩:=qal7 e m i;refine⟨a,C',dx,k,w,rfl,l,c,n,o,q w H B' p (λ_ _ z=>z) ?_⟩;rw[if_neg ∅];exact λb=>.inl (by have:=s b;have:=g b;lia)};rw[if_neg j] at i;cases i|_=>cases h
noncomputable def D.key:D->Option Key|.int i=>some (.inl i)|.str x=>some (.inr x)|_=>none
noncomputable def Gd(kds:List (Key×D))(k:Key):Option D:=(kds.find? λa=>decide (a.1=k)).map (·.2)
theorem Q8.key(r:Q8 F H v x B)(h:x.key=some k):v=kV k:=by cases r<;>cases h<;>rfl
theorem qaM2:∀{kvs:List (Key×V)}{kds:List (Key×D)}{A:List γ}(k:Key),kvs.map (·.1)=kds.map (·.1)->Q2 F H (kvs.map (·.2)) (kds.map (·.2)) A->(Gd kds k=none/\Hb kvs k=none)∨∃v d B,Gd kds k=some d/\Hb kvs k=some v/\Q8 F H v d B/\∀b,B.count b<=A.count b:=by
 intro kvs;induction kvs with
 |nil=>intro kds A k e r;cases kds with|nil=>exact .inl ⟨rfl,rfl⟩|cons _ _=>simp at e
 |cons p kvs f=>
  intro kds A k e r;cases kds with
  |nil=>simp at e|cons q kds=>
   obtain⟨c,v⟩:=p;obtain⟨g,d⟩:=q;have i:c=g:=by simp at e;exact e.1
   have e2:kvs.map (·.1)=kds.map (·.1):=by simp at e;simpa using e.2
   subst i;cases r with
   |@cons _ _ A1 _ _ A2 r1 t=>
    by_cases a:c=k;{exact .inr ⟨v,d,A1,by simp[Gd,a],qQ8 a,r1,λb=>by rw[zA0];lia⟩};have j:Gd ((c,d)::kds) k=Gd kds k:=by simp[Gd,zBz,a]
    rw[j,qQ9 a];rcases f k e2 t with h|⟨w,l,B,m,n,o,s⟩;{exact .inl h};exact .inr ⟨w,l,B,m,n,o,λb=>by rw[zA0];have:=s b;lia⟩
section
variable{c:Vc}{X:Cx}{a b e:Nu}{M G own J:Bool}{fa fb f:FV}{r:R2}{g:D->D->Option D}{w y t:VT}{pos:Pos}
theorem vnm(i:Nat)(b:X.N[i]?=some x:=by rfl)(d:Vis X.env.scope x:=by first|exact Qx rfl|exact Qw (Qx rfl)|exact Qw (Qw rfl))(e:N' x:=by decide)(a:(x==("__classdict__" : Str))=false:=by decide):VV c X (.Name x pos) false (rdN i):=qaM0 (qo9 b d e a) (qn6 b)
noncomputable def kC(d:D):FV:=λ_=>some d
theorem Ad{i:Int}:VV c X (.Constant (.int i) j pos) true (kC (.int i)):=Je qN3 λ_ _=>.int _
theorem vbl{i:Bool}:VV c X (.Constant (.bool i) j pos) true (kC (.bl i)):=Je pe_bl λ_ _=>.bl _
theorem A9:VV c X (.Constant .none j pos) true (kC .non):=Je qaP6 λ_ _=>.non
theorem Bh{i:Str}:VV c X (.Constant (.str i) j pos) true (kC (.str i)):=Je qba2 λ_ _=>.str _
theorem vgi{x:Str}{n:Int}{k:Tok}(hm:X.mg x=some (.int n k))(a:Gl X x:=by rfl)(b:N' x:=by decide):VV c X (.Name x pos) true (kC (.int n)):=Je (qaz7 hm a b) λ_ _=>.int _
theorem vcls(C:γ)(hm:X.mg x=some (.ref C))(a:Gl X x:=by rfl)(b:N' x:=by decide):VV c X (.Name x pos) true (kC (.adr C)):=Je (qba3 C hm a b) λ_ _=>.adr _
theorem vty(n:String)(hm:X.mg x=none)(a:Gl X x:=by rfl)(b:Na x=some (.type n):=by rfl)(d:x ≠ "__name__" := by decide)(e:N' x:=by decide):VV c X (.Name x pos) true (kC (.ty n)):=Je (qas6 n hm a b d e) λ_ _=>.ty _
theorem vpow{i j:Int}(k:Int)(a:i ^ j.toNat=k:=by decide)(b:0<=j:=by decide)(h1:j<=1000000:=by decide)(h2:i.natAbs<2 ^ 64:=by decide):VV c X (.BinOp (.Constant (.int i) m p) .Pow (.Constant (.int j) n q) pos) true (kC (.int k)):=Je (qaP4 k a b h1 h2) λ_ _=>.int _
def P2(X:Cx)(e a b:Nu)(r:R2):Prop:=∀w y,PE X a w->PE X b y->PE X e (tOp r w y)
def T2(X:Cx)(e a b:Nu)(r:R2):Prop:=∀w y,PE X a w->PE X b y->PT X e (Ls (tOp r w y))
theorem Ak{op:Operator}(c:OpR X (Nn op) r):P2 X (.BinOp a op b pos) a b r:=λ_ _ d e=>pe_op c d e
theorem Ax(c:OpR X (M8 op) r)(hm:behindInMarks op b=false):P2 X (.Compare a [op] [b] pos) a b r:=λ_ _ d e=>qaP9 c d e hm
theorem Ap(c:OpR X (M8 op) r)(hm:behindInMarks op b=false):T2 X (.Compare a [op] [b] pos) a b r:=λ_ _ d e=>qaz1 c d e hm
theorem Av(c:IxR X r)(d:qap9 b:=by exact λ_ _=>rfl):P2 X (.Subscript a b pos) a b r:=λ_ _ e f=>pe_ix c e f d
theorem v2(p:P2 X e a b r)(h:A8 J r g)(d:VV c X a M fa)(f:VV c X b G fb):VV c X e (J||(M&&G)) (f2 g fa fb):=⟨PE.mono (p _ _ d.h f.h) (op_vv h)⟩
theorem e2(p:P2 X e a b r)(h:A8 true r g)(d:VE c X a w)(f:VE c X b y):VE c X e (t2 g w y):=⟨PE.mono (p _ _ d.h f.h) (op_ee d f h),qay2 d f⟩
theorem e2v(p:P2 X e a b r)(h:A8 true r g)(d:VE c X a w)(f:VV c X b G fb):VE c X e (t2v g w fb):=⟨PE.mono (p _ _ d.h f.h) (op_ev d h),qaD3 d⟩
theorem e2P(p:P2 X e a b r)(h:A8 false r g)(d:VE c X a w)(f:VE c X b y):VE c X e (t2 g w y):=⟨PE.mono (p _ _ d.h f.h) (qbb4 d f h),qay2 d f⟩
theorem e2vP(p:P2 X e a b r)(h:A8 false r g)(d:VE c X a w)(f:VV c X b G fb):VE c X e (L9 g w fb):=⟨PE.mono (p _ _ d.h f.h) (qbb3 d h),qaq7 d⟩
theorem e2n(i:Nat)(p:P2 X e (.Name x p0) b r)(h:A8 true r g)(a:VE c X b y)(f:X.N[i]?=some x:=by rfl)(j:Vis X.env.scope x:=by first|exact Qx rfl|exact Qw (Qx rfl)|exact Qw (Qw rfl))(k:N' x:=by decide)(d:(x==("__classdict__" : Str))=false:=by decide):VE c X e (t2n g i y):=⟨λFm s o H Q I q=>p _ _ (qo9 f j k d) a.h Fm s o H Q I (op_ne a h (qn6 f Fm o H s I) q),qaD4 a⟩
theorem e2nP(i:Nat){x:Str}{p0:Pos}(p:P2 X e (.Name x p0) b r)(h:A8 J r g)(a:VE c X b y)(f:X.N[i]?=some x:=by rfl)(j:Vis X.env.scope x:=by first|exact Qx rfl|exact Qw (Qx rfl)|exact Qw (Qw rfl))(k:N' x:=by decide)(d:(x==("__classdict__" : Str))=false:=by decide):VE c X e (t2nP g i y):=⟨λFm s o H Q I q=>p _ _ (qo9 f j k d) a.h Fm s o H Q I (qba9 a h (qn6 f Fm o H s I) q),qaq8 a⟩
noncomputable def D.asB:D->Option Bool|.bl b=>some b|_=>none
theorem Q8.asB(r:Q8 F H v d B)(h:d.asB=some k):v=.bl k:=by cases r<;>cases h<;>rfl
def ttV(f:FV):VTT:=λds Q _=>orF ((f ds).bind D.asB) λb=>Q b ds
def ttE(t:VT):VTT:=λds Q xe=>t ds (λd a=>orF d.asB λb=>Q b a) xe
theorem qaC8:∀o H Q,G4 c (ttV f) o H Q->liftV c own f o H (λx H'=>∃k,x=.bl k/\Q k H'):=by rintro o H Q ⟨F,a,A,h,S,x,q⟩;obtain⟨b,e,q⟩:=qa7.mp q;obtain⟨d,g,e2⟩:=zA1.mp e;exact⟨F,a,A,d,S,g,λv H' B r s _=>⟨b,r.asB e2,q H' F A (S.same s) (.same s)⟩⟩
theorem qaC9(h:VE c X e t):∀o H Q,G4 c (ttE t) o H Q->Bj c t o H (λx H'=>∃k,x=.bl k/\Q k H'):=by rintro o H Q ⟨F,a,A,f,S,x,q⟩;refine⟨F,a,A,f,S,x,h.m _ _ _ _ _ (λd g q v H1 F1 T A1 i S1 l j=>?_) (λ_ _ z=>z) q⟩;obtain⟨b,e,q⟩:=qa7.mp q;exact⟨b,i.asB e,q H1 F1 A1 S1 (j.count λb=>by rw[zA0];lia)⟩
theorem qR0:∀ds (Q Q':Bool->Ds->Prop) (xe b:XKd),(∀d a,Q d a->Q' d a)->(∀x a,xe x a->b x a)->ttV f ds Q xe->ttV f ds Q' b:=λds Q Q' xe b c _=>qa5 λd=>c d ds
theorem qR2(h:VE c X e t):∀ds (Q Q':Bool->Ds->Prop) (xe b:XKd),(∀d a,Q d a->Q' d a)->(∀x a,xe x a->b x a)->ttE t ds Q xe->ttE t ds Q' b:=λds Q Q' xe b f g=>h.m _ _ _ _ _ (λd a=>qa5 λz=>f z a) g
theorem tv(h:VV c X e own f)(a:∀whole,isTrue e X.env whole=(do let v<-whole;standAt e.pos;holding [v] (truthy v)):=by intro _;rfl):VTe c X e (ttV f):=⟨PT.mono (qaE7 h.h a) qaC8,qR0⟩
theorem te(h:VE c X e t)(a:∀whole,isTrue e X.env whole=(do let v<-whole;standAt e.pos;holding [v] (truthy v)):=by intro _;rfl):VTe c X e (ttE t):=⟨PT.mono (qaE7 h.h a) (qaC9 h),qR2 h⟩
theorem q2(p:T2 X e a b r)(h:A8 J r g)(d:VV c X a M fa)(f:VV c X b G fb):VTe c X e (ttV (f2 g fa fb)):=⟨PT.mono (p _ _ d.h f.h) λo H Q q=>op_vv h o H _ (qaC8 o H Q q),qR0⟩
theorem q2e(p:P2 X e a b r)(i:T2 X e a b r)(h:A8 true r g)(d:VE c X a w)(f:VE c X b y):VTe c X e (ttE (t2 g w y)):=⟨PT.mono (i _ _ d.h f.h) λo H Q q=>op_ee d f h o H _ (qaC9 (e2 p h d f) o H Q q),qR2 (e2 p h d f)⟩
theorem q2v(p:P2 X e a b r)(i:T2 X e a b r)(h:A8 true r g)(d:VE c X a w)(f:VV c X b G fb):VTe c X e (ttE (t2v g w fb)):=⟨PT.mono (i _ _ d.h f.h) λo H Q q=>op_ev d h o H _ (qaC9 (e2v p h d f) o H Q q),qR2 (e2v p h d f)⟩
variable{E L:VTT}{rest:List Nu}
def Gi(t:VTT):VTT:=λds Q xe=>t ds (λb a=>Q (!b) a) xe
theorem Bi(h:VTe c X a E):VTe c X (.UnaryOp .Not a pos) (Gi E):=by refine⟨PT.mono (qaO2 h.h) λo H Q ⟨F,e,A,f,S,x,q⟩=>⟨F,e,A,f,S,x,q⟩,λe Q Q' f g i j=>h.m _ _ _ _ _ (λb d=>i _ d) j⟩
structure VTw(c:Vc)(X:Cx)(e:Nu)(t:VTT):Prop where
 h:PW X e (G4 c t)
 m:∀ds (Q Q':Bool->Ds->Prop) (xe xe':XKd),(∀d ds',Q d ds'->Q' d ds')->(∀x ds',xe x ds'->xe' x ds')->t ds Q xe->t ds Q' xe'
theorem VTw.te(h:VTw c X e E):VTe c X e E:=⟨h.h.pt,h.m⟩
theorem Mc(h:VTe c X a E):VTw c X (.BoolOp .And [a] pos) E:=⟨qaO1 h.h,h.m⟩
theorem Iv(h:VTe c X a E):VTw c X (.BoolOp .Or [a] pos) E:=⟨qaZ2 h.h,h.m⟩
def ttAnd(t u:VTT):VTT:=λds Q xe=>t ds (λk ds1=>if k=true then u ds1 Q xe else Q false ds1) xe
def ttOr(t u:VTT):VTT:=λds Q xe=>t ds (λk ds1=>if k=true then Q true ds1 else u ds1 Q xe) xe
theorem qY0{k:Bool->St->Hp->(Bool->Hp->Prop)->Prop}{K:Bool->Ds->(Bool->Ds->Prop)->XKd->Prop}(h:VTe c X a E)(i:∀(b:Bool) F ds A xe o H (Q:Bool->Hp->Prop),Rb c F H o ds A->Xc c xe F H A->K b ds (λf e=>∀H' F' A',Rb c F' H' o e A'->Ra F H A F' H' A'->Q f H') xe->k b o H Q)(hm:∀(b:Bool) ds (Q Q':Bool->Ds->Prop) (xe:XKd),(∀d e,Q d e->Q' d e)->K b ds Q xe->K b ds Q' xe):∀o H Q,G4 c (λds Q xe=>E ds (λb ds1=>K b ds1 Q xe) xe) o H Q->G4 c E o H (λb H1=>k b o H1 Q):=by rintro o H Q ⟨F,ds,A,xe,S,x,q⟩;exact⟨F,ds,A,xe,S,x,h.m _ _ _ _ _ (λb ds1 q H1 F1 A1 S1 g=>(i b F1 ds1 A1 xe o H1 Q S1 (x.step g) (hm b ds1 _ _ xe (λf e q H' F' A' S' j=>q H' F' A' S' (g.trans j)) q))) (λ_ _ z=>z) q⟩
theorem tand(e:VTe c X a E)(f:VTw c X (.BoolOp .And (b::rest) pos) L):VTw c X (.BoolOp .And (a::b::rest) pos) (ttAnd E L):=by refine⟨PW.mono (qaZ3 e.h f.h) ?_,λg Q Q' i l d j=>e.m _ _ _ _ _ (λk n q=>?_) j⟩;{refine qY0 e ?_ ?_;{intro b F g A i o H Q S x q;cases b with|true=>rw[if_pos rfl] at q ⊢;exact⟨F,g,A,i,S,x,q⟩|false=>rw[if_neg ∅] at q ⊢;exact q H F A S Ra.refl};intro b g Q Q' i d;cases b with|true=>rw[if_pos rfl,if_pos rfl];exact f.m _ _ _ _ _ d λ_ _ z=>z|false=>rw[if_neg ∅,if_neg ∅];exact d _ _};cases k with|true=>rw[if_pos rfl] at q ⊢;exact f.m _ _ _ _ _ d j q|false=>rw[if_neg ∅] at q ⊢;exact d _ _ q
theorem tor(e:VTe c X a E)(f:VTw c X (.BoolOp .Or (b::rest) pos) L):VTw c X (.BoolOp .Or (a::b::rest) pos) (ttOr E L):=by refine⟨PW.mono (pw_or e.h f.h) ?_,λg Q Q' i l d j=>e.m _ _ _ _ _ (λk n q=>?_) j⟩;{refine qY0 e ?_ ?_;{intro b F g A i o H Q S x q;cases b with|false=>rw[if_neg ∅] at q ⊢;exact⟨F,g,A,i,S,x,q⟩|true=>rw[if_pos rfl] at q ⊢;exact q H F A S Ra.refl};intro b g Q Q' i d;cases b with|false=>rw[if_neg ∅,if_neg ∅];exact f.m _ _ _ _ _ d λ_ _ z=>z|true=>rw[if_pos rfl,if_pos rfl];exact d _ _};cases k with|false=>rw[if_neg ∅] at q ⊢;exact f.m _ _ _ _ _ d j q|true=>rw[if_pos rfl] at q ⊢;exact d _ _ q
end
section
variable{c:Vc}{X:Cx}{a b e:Nu}{oa ob own nw:Bool}{fa fb f:FV}{ta tb t:VT}{Y:Pos}{rest:List Nu}
def tSeqE(ta:VT)(k:D->VT):VT:=λds Q xe=>ta ds (λx ds1=>k x ds1 Q xe) xe
theorem qaH8{k:V->St->Hp->VK->Prop}(i:VE c X a ta)(hm:∀x ds (Q Q':DK) (xe f:XKd),(∀d e,Q d e->Q' d e)->(∀x e,xe x e->f x e)->K x ds Q xe->K x ds Q' f)(j:∀F H W v x T,Q8 F H v x T->∀Q,(∃ds A xe,Rb c F H W ds A/\Xc c xe F H A/\K x ds (λd e=>∀v H' F' T A',Q8 F' H' v d T->Rb c F' H' W e A'->Ok F' H' (T++A')->Ra F H A F' H' (T++A')->Q v H') xe)->k v W H Q):∀W H Q,Bj c (tSeqE ta K) W H Q->Bj c ta W H (λx H1=>k x W H1 Q):=by
 rintro W H Q ⟨F,ds,A,xe,S,x,q⟩;refine⟨F,ds,A,xe,S,x,i.m _ _ _ _ _ (λd g q v H1 F1 T A1 l S1 p n=>?_) (λ_ _ z=>z) q⟩;have h:Ra F H A F1 H1 A1:=n.count λb=>by rw[zA0];lia
 exact j F1 H1 W v d T l Q ⟨g,A1,xe,S1,x.step h,hm d g _ _ _ _ (λt e q w H' F' T' A' r S' o s=>q w H' F' T' A' r S' o (h.trans s)) (λ_ _ z=>z) q⟩
def Kh(ta tb:VT):VT:=tSeqE ta λx ds Q xe=>orF x.asB λk=>if k=true then tb ds Q xe else Q (.bl false) ds
theorem qH0{p q a b:Prop}(h1:p->a)(h2:q->b):(if k=true then p else q)->(if k=true then a else b):=by cases k with|true=>rw[if_pos rfl,if_pos rfl];exact h1|false=>rw[if_neg ∅,if_neg ∅];exact h2
theorem qap7(g:VE c X e tb):∀(x:D) ds (Q Q':DK) (xe b:XKd),(∀d a,Q d a->Q' d a)->(∀x a,xe x a->b x a)->(orF x.asB λk=>if k=true then tb ds Q xe else Q (.bl false) ds)->(orF x.asB λk=>if k=true then tb ds Q' b else Q' (.bl false) ds):=λx ds Q Q' xe b f h=>qa5 λk=>qH0 (g.m _ _ _ _ _ f h) (f _ _)
theorem Jr{op:PySem.BoolOp}(h:VE c X a ta):VE c X (.BoolOp op [a] Y) ta:=⟨qas4 h.h,h.m⟩
theorem Hf(e:VE c X a ta)(f:VE c X (.BoolOp .And (b::rest) Y) tb):VE c X (.BoolOp .And (a::b::rest) Y) (Kh ta tb):=by refine⟨PE.mono (qas8 e.h f.h) ?_,λl Q Q' g i o n=>e.m _ _ _ _ _ (λd j=>qap7 f d j Q Q' g i o n) n⟩;refine qaH8 e (qap7 f) ?_;rintro F H W v x T r Q ⟨l,A,g,S,p,q⟩;obtain⟨k,s,q⟩:=qa7.mp q;refine⟨k,r.asB s,?_⟩;cases k with|true=>rw[if_pos rfl] at q ⊢;exact⟨F,l,A,g,S,p,q⟩|false=>rw[if_neg ∅] at q ⊢;exact q _ H F [] A (.bl _) S S.ok Ra.refl
variable{qc:VTT}
def tIfE(qc:VTT)(ta tb:VT):VT:=λds Q xe=>qc ds (λk ds1=>if k=true then ta ds1 Q xe else tb ds1 Q xe) xe
theorem eif(i:VTe c X cd qc)(j:VE c X a ta)(l:VE c X b tb):VE c X (.IfExp cd a b Y) (tIfE qc ta tb):=by refine⟨PE.mono (qaj3 i.h j.h l.h) ?_,λt Q Q' f w u n=>i.m _ _ _ _ _ (λk e=>qH0 (j.m _ _ _ _ _ u n) (l.m _ _ _ _ _ u n)) n⟩;rintro W H Q ⟨F,t,A,f,S,x,q⟩;refine⟨F,t,A,f,S,x,i.m _ _ _ _ _ (λk e q H1 F1 A1 S1 g=>?_) (λ_ _ z=>z) q⟩;cases k with|true=>rw[if_pos rfl] at q ⊢;exact⟨F1,e,A1,f,S1,x.step g,j.m _ _ _ _ _ (λd p q v H' F' T A' r S' o s=>q v H' F' T A' r S' o (g.trans s)) (λ_ _ z=>z) q⟩|false=>rw[if_neg ∅] at q ⊢;exact⟨F1,e,A1,f,S1,x.step g,l.m _ _ _ _ _ (λd p q v H' F' T A' r S' o s=>q v H' F' T A' r S' o (g.trans s)) (λ_ _ z=>z) q⟩
def fAnd(fa fb:FV):FV:=λds=>(fa ds).bind λx=>x.asB.bind λk=>if k=true then fb ds else some (.bl false)
def fOr(fa fb:FV):FV:=λds=>(fa ds).bind λx=>x.asB.bind λk=>if k=true then some (.bl true) else fb ds
def fNot(fa:FV):FV:=λds=>(fa ds).bind λx=>x.asB.map λk=>.bl (!k)
theorem K7{op:PySem.BoolOp}(h:VV c X a oa fa):VV c X (.BoolOp op [a] Y) oa fa:=⟨qas4 h.h⟩
theorem Me(m:VV c X a oa fa)(n:VV c X (.BoolOp .And (b::rest) Y) ob fb):VV c X (.BoolOp .And (a::b::rest) Y) ob (fAnd fa fb):=by refine⟨PE.mono (qas8 m.h n.h) λW H Q g=>?_⟩;obtain⟨F,i,A,d,S,e,q⟩:=g;obtain⟨x,p,e⟩:=zA1.mp e;obtain⟨k,r,e⟩:=zA1.mp e;refine⟨F,i,A,x,S,p,λv H1 B1 s f y=>⟨k,s.asB r,?_⟩⟩;cases k with|true=>rw[if_pos rfl] at e ⊢;exact⟨F,i,A,d,S.same f,e,λw H2 B2 t u j=>q w H2 B2 t (f.trans u) λl=>⟨(j l).one,λb o e=>(j l).new b o (f b o e)⟩⟩|false=>rw[if_neg ∅] at e ⊢;cases e;exact q _ H1 [] (.bl _) f λ_=>New.nil
theorem vor(m:VV c X a oa fa)(n:VV c X (.BoolOp .Or (b::rest) Y) ob fb):VV c X (.BoolOp .Or (a::b::rest) Y) ob (fOr fa fb):=by refine⟨PE.mono (pe_or m.h n.h) λW H Q g=>?_⟩;obtain⟨F,i,A,d,S,e,q⟩:=g;obtain⟨x,p,e⟩:=zA1.mp e;obtain⟨k,r,e⟩:=zA1.mp e;refine⟨F,i,A,x,S,p,λv H1 B1 s f y=>⟨k,s.asB r,?_⟩⟩;cases k with|false=>rw[if_neg ∅] at e ⊢;exact⟨F,i,A,d,S.same f,e,λw H2 B2 t u j=>q w H2 B2 t (f.trans u) λl=>⟨(j l).one,λb o e=>(j l).new b o (f b o e)⟩⟩|true=>rw[if_pos rfl] at e ⊢;cases e;exact q _ H1 [] (.bl _) f λ_=>New.nil
theorem vnot(f:VV c X a oa fa):VV c X (.UnaryOp .Not a Y) true (fNot fa):=by refine⟨PE.mono (qaP5 f.h) λW H Q b=>?_⟩;obtain⟨F,g,A,d,S,e,q⟩:=b;obtain⟨x,i,e⟩:=zA1.mp e;obtain⟨k,j,rfl⟩:=zA8.mp e;exact⟨F,g,A,x,S,i,λv H1 B1 l m n=>⟨k,l.asB j,q _ H1 [] (.bl _) m λ_=>New.nil⟩⟩
noncomputable def gNeg:D->Option D|.int i=>some (.int (-i))|_=>none
theorem qba5:OpS1 true (rU λi=>.int (-i)) gNeg:=by intro F H v x B d Q r h q;cases x with|int i=>cases h;cases r;exact⟨i,rfl,q _ H [] (.int _) (λ_ _ z=>z) New.nil⟩|_=>cases h
theorem vneg(b:VV c X a oa fa):VV c X (.UnaryOp .USub a Y) true (f1 gNeg fa):=⟨PE.mono (pe_un qaX8 b.h) (op_v qba5)⟩
theorem Ba{f:Str}(b:X.K=K)(d:VV c X a oa fa)(e:Cls K C)(n:qd1 K C f)(g:Nc a f X.env (eval a X.env)=eval a X.env:=by rfl):VV c X (.Attribute a f Y) oa (f1 (D.fld C f) fa):=by subst b;exact⟨PE.mono (qas5 d.h g) (op_v (qaQ5 e n))⟩
variable{rc:List V->Hp->VK->Prop}{gc:Ds->Option D}{x:Str}{p:Pos}{Z:List Nu}{fs:Ds->Option Ds}{tos:VTA}
def A7(gc:Ds->Option D)(fs:Ds->Option Ds):FV:=λds=>(fs ds).bind gc
theorem vbi{id:String}(d:CallR X (.builtin id) rc)(h:OpS nw rc gc)(hm:X.mg x=none)(f:VVs c X (e::Z) own fs)(g:Gl X x:=by rfl)(i:Na x=some (.builtin id):=by rfl)(j:x ≠ "__name__" := by decide)(a:N' x:=by decide)(k:M6 (e::Z) X.env=(false,eval e X.env)::M6 Z X.env:=by rfl)(b:((backTo Y (M6 Z X.env)).any λx=>x.1)=false:=by rfl):VV c X (.Call (.Name x p) (e::Z) [] Y) (nw||own) (A7 gc fs):=⟨PE.mono (cbi d hm f.h g i j a k b) (qaQ7 h)⟩
theorem Iw{id:String}(d:CallR X (.type id) rc)(h:OpS nw rc gc)(hm:X.mg x=none)(f:VVs c X (e::Z) own fs)(g:Gl X x:=by rfl)(i:Na x=some (.type id):=by rfl)(j:x ≠ "__name__" := by decide)(a:N' x:=by decide)(k:M6 (e::Z) X.env=(false,eval e X.env)::M6 Z X.env:=by rfl)(b:((backTo Y (M6 Z X.env)).any λx=>x.1)=false:=by rfl):VV c X (.Call (.Name x p) (e::Z) [] Y) (nw||own) (A7 gc fs):=⟨PE.mono (cty d hm f.h g i j a k b) (qaQ7 h)⟩
theorem ebi{id:String}(f:CallR X (.builtin id) rc)(h:OpS true rc gc)(hm:X.mg x=none)(a:VOs c X (e::Z) tos)(g:Gl X x:=by rfl)(i:Na x=some (.builtin id):=by rfl)(j:x ≠ "__name__" := by decide)(b:N' x:=by decide)(k:M6 (e::Z) X.env=(false,eval e X.env)::M6 Z X.env:=by rfl)(d:((backTo Y (M6 Z X.env)).any λx=>x.1)=false:=by rfl):VE c X (.Call (.Name x p) (e::Z) [] Y) (tcO gc tos):=⟨PE.mono (cbi f hm a.h g i j b k d) (opc_o a h),qaD0 a⟩
def gLst(xs:Ds):Option D:=gd (D.imms xs=true/\xs.length<=big) (.l false xs)
def gTup(xs:Ds):Option D:=gd (D.imms xs=true/\xs.length<=big) (.q xs)
theorem Bs(k:VVs c X Z own fs):VV c X (.List Z Y) true (A7 gLst fs):=by refine⟨PE.mono (qaF7 k.h) λW H Q f=>?_⟩;obtain⟨F,l,A,d,S,e,q⟩:=f;obtain⟨m,n,e2⟩:=zA1.mp e;obtain⟨g,rfl⟩:=qk6 e2;refine⟨F,l,A,m,S,n,λr H1 B1 i j s=>⟨by rw[i.len];exact zAg g.2 qj9,λp a=>?_⟩⟩;exact q _ _ [p] (qC8 a (i.imms0 g.1)) (j.trans (Same.new a)) λ_=>⟨(qh2 a).one,λb o e=>(qh2 a).new b o (j b o e)⟩
theorem Ga(i:VVs c X Z own fs):VV c X (.Tuple Z k Y) true (A7 gTup fs):=by refine⟨PE.mono (qaP3 i.h) λW H Q a=>?_⟩;obtain⟨F,j,A,d,S,e,q⟩:=a;obtain⟨l,m,e2⟩:=zA1.mp e;obtain⟨b,rfl⟩:=qk6 e2;refine⟨F,j,A,l,S,m,λo H1 B1 f n r=>⟨by rw[f.len];exact zAg b.2 qj9,λp g=>?_⟩⟩;exact q _ _ [] (qak6 g (f.imms0 b.1)) (n.trans (Same.new g)) λ_=>New.nil
def FO:=Ds->Option (Option Int)
inductive qaX3(c:Vc)(f:FO)(W:St)(H:Hp)(Q:Option Int->Hp->Prop):Prop
 |mk (F:γ->Prop) (ds:Ds) (A:List γ) (i:Option Int) (S:Rb c F H W ds A) (e:f ds=some i) (q:∀H',Same H H'->Q i H'):qaX3 c f W H Q
def qbc6(c:Vc)(f:FO):TO:=qaX3 c f
structure VPO(c:Vc)(X:Cx)(e:Option Nu)(f:FO):Prop where
 h:PO X e (qbc6 c f)
theorem PO.mono{X:Cx}{e:Option Nu}{t t':TO}(h:PO X e t)(i:∀W H Q,t' W H Q->t W H Q):PO X e t':=λFm s W H Q I q=>h Fm s W H Q I (i W H Q q)
noncomputable def foN:FO:=λ_=>some none
noncomputable def D.asI:D->Option Int|.int i=>some i|_=>none
theorem Q8.asI(r:Q8 F H v d B)(h:d.asI=some k):v=.int k:=by cases r<;>cases h<;>rfl
def foS(f:FV):FO:=λds=>(f ds).bind λd=>d.asI.map some
theorem Hk:VPO c X none foN:=⟨PO.mono qai9 λW H Q ⟨F,a,A,i,S,e,q⟩=>by cases e;exact q H λ_ _ z=>z⟩
theorem Hl(h:VV c X e own f):VPO c X (some e) (foS f):=by refine⟨PO.mono (qai8 h.h) λW H Q a=>?_⟩;obtain⟨F,b,A,i,S,e,q⟩:=a;obtain⟨d,g,e2⟩:=zA1.mp e;obtain⟨j,k,rfl⟩:=zA8.mp e2;exact⟨F,b,A,d,S,g,λv H' B r s _=>⟨j,r.asI k,q H' s⟩⟩
noncomputable def noT:D->Bool|.q _=>false|_=>true
def fsl(fa:FV)(lo hi:FO):FV:=λds=>(fa ds).bind λx=>(lo ds).bind λl=>(hi ds).bind λh=>if noT x=true then gSl x l h else none
theorem vsl{lo hi:Option Nu}{fl n:FO}{p2:Pos}(s:VV c X a oa fa)(t:VPO c X lo fl)(u:VPO c X hi n):VV c X (.Subscript a (.Slice lo hi none p2) Y) true (fsl fa fl n):=by refine⟨PE.mono (qU0 qah2 s.h t.h u.h) λW H Q g=>?_⟩;obtain⟨F,i,A,d,S,e,q⟩:=g;obtain⟨x,y,e⟩:=zA1.mp e;obtain⟨l,e2,e⟩:=zA1.mp e;obtain⟨h,B,e⟩:=zA1.mp e;by_cases j:noT x=true;{rw[if_pos j] at e;refine⟨F,i,A,x,S,y,λv H1 B1 C k _=>⟨F,i,A,l,S.same k,e2,λH2 m=>⟨F,i,A,h,(S.same k).same m,B,λH3 p=>?_⟩⟩⟩;have f:=(k.trans m).trans p;refine os_sl ((C.same m).same p) e (λG z=>by subst z;cases j) λw H' B' D E r=>q w H' B' D (f.trans E) λ_=>⟨r.one,λb o e=>r.new b o (f b o e)⟩};rw[if_neg j] at e;cases e
def fget(fa a b:FV):FV:=λds=>(fa ds).bind λx=>(a ds).bind λy=>(b ds).bind λz=>match x with|.dct _ kvs=>y.key.bind λk=>gd (((Gd kvs k).getD z).imm=true) ((Gd kvs k).getD z)|_=>none
theorem vget{z:Nu}{D:Bool}{t:FV}(G:X.A.units+1<cLine)(I:VV c X a oa fa)(J:VV c X k D s)(K:VV c X z E t)(m:M2 X a "get" apos k z cpos):VV c X (.Call (.Attribute a "get" apos) [k,z] [] cpos) true (fget fa s t):=by refine⟨PE.mono (qaG0 G I.h J.h K.h m) λW H Q j=>?_⟩;obtain⟨F,l,A,d,S,e,q⟩:=j;obtain⟨x,L,e⟩:=zA1.mp e;obtain⟨y,e2,e⟩:=zA1.mp e;obtain⟨w,M,e⟩:=zA1.mp e;cases x with|dct z N=>obtain⟨n,O,e⟩:=zA1.mp e;obtain⟨g,rfl⟩:=qk6 e;refine⟨F,l,A,_,S,L,λv H1 B1 P o _=>?_⟩;obtain⟨a,b,A2,rfl,B,R,T,_⟩:=P.dct_inv;refine⟨a,rfl,.inl ⟨b,.inl B⟩,F,l,A,y,S.same o,e2,λu H2 B2 U i _=>⟨F,l,A,w,(S.same o).same i,M,λV H3 B3 C p _=>?_⟩⟩;have r:=p _ _ (i _ _ B);refine⟨Hb b n,.inl ⟨b,n,.inl r,(U.key O),rfl⟩,?_⟩;have f:=(o.trans i).trans p;rcases qaM2 n R T with⟨n1,n2⟩|⟨vv,dd,BB,n1,n2,n3,n4⟩;{rw[n1] at g q;rw[n2];have:=C.imm g;subst this;exact q _ H3 [] C f λ_=>New.nil};rw[n1] at g q;rw[n2];have:=n3.imm g;subst this;exact q _ H3 [] ((n3.same i).same p) f λ_=>New.nil|_=>cases e
end
section
variable{c:Vc}{X:Cx}{a b e:Nu}{pos:Pos}{F F':γ->Prop}{H H':Hp}{σ:St}{ds:Ds}{A:List γ}
theorem Rb.put1(S:Rb c F H σ ds A)(h:ds[i]?=some d)(e:d≠.u):∃(v:V)(B C:List γ),(σ++c.gv)[i]?=some (some v)/\Q8 F H v d B/\(∀b,A.count b=B.count b+C.count b)/\∀{F':γ->Prop}{H':Hp}{W:γ->Prop}(d':D)(B':List γ),Kp F H W F' H'->(∀b∈C,¬W b)->Q8 F' H' v d' B'->∃A':List γ,Locs F' H' (σ++c.gv) (ds.set i d') A'/\∀b,A'.count b=B'.count b+C.count b:=by
 have f:Bb ds i []=some d:=by unfold Bb;rw[h];rfl
 obtain⟨u,w,B,C,g,j,l,m,n⟩:=S.loc.place f e;cases j;refine⟨u,B,C,g,l,m,λ{F' H' W} d' B' k o r=>?_⟩;obtain⟨A',a,q2⟩:=n d' B' k o r;refine⟨A',?_,q2⟩;unfold Bn at a;rw[h] at a;exact a
theorem qn8{d:D}(h:d.known=true):d≠.u:=λz=>by subst z;cases h
def tMv(i:Nat):VT:=λds Q _=>orF (rdN i ds) λd=>Q d (ds.set i .u)
theorem emv(i:Nat)(k:X.N[i]?=some x:=by rfl)(m:Vis X.env.scope x:=by first|exact Qx rfl|exact Qw (Qx rfl)|exact Qw (Qw rfl))(n:N' x:=by decide)(a:(x==("__classdict__" : Str))=false:=by decide):VE c X (.Name x pos) (tMv i):=by refine⟨λFm s σ H Q I g=>?_,λp Q Q' r t u _=>qa5 λd=>u _ _⟩;obtain⟨F,p,A,r,S,x,q⟩:=g;refine qo9 k m n a Fm s σ H Q I ?_;obtain⟨d,h,q⟩:=qa7.mp q;obtain⟨h,w⟩:=qn3.mp h;obtain⟨v,B,C,l,y,j,D⟩:=S.put1 h (qn8 w);rw[zAu (qn6 k Fm σ H s I)] at l;obtain⟨A',E,q2⟩:=D .u [] (Kp.same (λ_ _ z=>z)) (λ_ _ z=>z) (.u v);refine⟨v,l,q v H F B A' y ⟨E,S.ok.count λb=>by rw[q2,j];simp,S.len,S.ag⟩ (S.ok.count λb=>by rw[zA0,q2,j];simp) ?_⟩;exact⟨λ_ _ e _=>e,λb o e z=>by rw[zA0,q2];have:=j b;simp;lia,λ_ f=>f,λ_ _ _ _ f=>f⟩
def tFz(i:Nat):VT:=λds Q _=>orF (rdN i ds) λd=>Q d.fz (ds.set i d.fz)
theorem share{B C:List γ}(o:Ok F H A)(a:∀b,A.count b=B.count b+C.count b)(d:∀b∈B,∃o,H b=some o/\Gq o=true)(c:∀b,A'.count b=C.count b):Ok (λb=>F b∨b∈B) H A'/\Ra F H A (λb=>F b∨b∈B) H A':=by refine⟨⟨λb=>by rw[c];have:=o.sep b;have:=a b;lia,λb f=>?_,λb f=>?_⟩,λ_ _ e _=>e,λb o e z=>by rw[c];have:=a b;lia,λb f=>.inl f,λb u e z f=>?_⟩;{rw[c];rcases f with f|f;{have:=o.fro b f;have:=a b;lia};have:=qb0.mp f;have:=o.sep b;have:=a b;lia};{rcases f with f|f;{exact o.ex b f};exact let ⟨u,e,_⟩:=d b f;⟨u,e⟩};rcases f with f|f;{exact f};have:=qb0.mp f;have:=a b;lia
theorem efz(i:Nat)(h:X.N[i]?=some x:=by rfl)(n:Vis X.env.scope x:=by first|exact Qx rfl|exact Qw (Qx rfl)|exact Qw (Qw rfl))(o:N' x:=by decide)(a:(x==("__classdict__" : Str))=false:=by decide):VE c X (.Name x pos) (tFz i):=by refine⟨λFm s σ H Q I e=>?_,λp Q Q' r t u _=>qa5 λd=>u _ _⟩;obtain⟨F,p,A,r,S,x,q⟩:=e;refine qo9 h n o a Fm s σ H Q I ?_;obtain⟨d,g,q⟩:=qa7.mp q;obtain⟨g,w⟩:=qn3.mp g;obtain⟨v,B,C,j,k,y,D⟩:=S.put1 g (qn8 w);rw[zAu (qn6 h Fm σ H s I)] at j;have l:=k.fz (F':=λb=>F b∨b∈B) (λb f=>.inl f) λb E=>.inr E;obtain⟨A',G,q2⟩:=D d.fz [] (Kp.more λb f=>Qx f) (λ_ _ z=>z) l;obtain⟨m,J⟩:=share S.ok y k.cells (λb=>by rw[q2];simp);exact⟨v,j,q v H _ [] A' l ⟨G,m,S.len,S.ag⟩ m J⟩
abbrev PF:=Ds->Option (Nat×List Nat)
inductive LiftP(c:Vc)(pf:PF)(σ:St)(H:Hp)(Q:VK):Prop
 |mk (F:γ->Prop) (ds:Ds) (A:List γ) (i:Nat) (p:List Nat) (d:D) (S:Rb c F H σ ds A) (e:pf ds=some (i,p)) (g:Bb ds i p=some d) (n:d≠.u) (q:∀u w H',(σ++c.gv)[i]?=some (some u)->Walk H' u p w->Same H H'->Q w H'):LiftP c pf σ H Q
def Ki(c:Vc)(pf:PF):TE:=LiftP c pf
structure VP(c:Vc)(X:Cx)(e:Nu)(pf:PF):Prop where
 h:PE X e (Ki c pf)
theorem vpn(i:Nat)(h:X.N[i]?=some x:=by rfl)(l:Vis X.env.scope x:=by first|exact Qx rfl|exact Qw (Qx rfl)|exact Qw (Qw rfl))(m:N' x:=by decide)(b:(x==("__classdict__" : Str))=false:=by decide):VP c X (.Name x pos) (λ_=>some (i,[])):=by refine⟨λFm s σ H Q I f=>?_⟩;obtain⟨F,r,A,j,p,d,S,e,n,g,q⟩:=f;refine qo9 h l m b Fm s σ H Q I ?_;cases e;obtain⟨u,w,B,C,k,o,t,v,y⟩:=S.loc.place n g;cases o;have a:=k;rw[zAu (qn6 h Fm σ H s I)] at a;exact⟨u,a,q u u H k rfl λ_ _ z=>z⟩
theorem qP2:∀{p:List Nat}{d x:D}{q:List Nat},d.getP (p++q)=some x->∃e,d.getP p=some e/\e.getP q=some x|[],d,x,q,h=>⟨d,rfl,h⟩|n::p,d,x,q,h=>by have h:D.getP d (n::(p++q))=some x:=h;unfold D.getP at h;cases a:d.kids[n]? with|none=>rw[a] at h;cases h|some y=>rw[a] at h;obtain⟨e,b,c⟩:=qP2 h;exact⟨e,by unfold D.getP;rw[a];exact b,c⟩
theorem qan5(h:Bb ds i (p++q)=some x):∃e,Bb ds i p=some e/\e.getP q=some x:=by unfold Bb at h ⊢;cases a:ds[i]? with|none=>rw[a] at h;cases h|some d=>rw[a] at h;exact qP2 h
theorem Walk.snoc:∀{p:List Nat}{u v w:V}{n:Nat},Walk H u p v->Lnk H v n w->Walk H u (p++[n]) w|[],_,_,w,n,h,l=>by cases h;exact⟨w,l,rfl⟩|m::p,_,_,_,_,⟨x,h1,h2⟩,l=>⟨x,h1,h2.snoc l⟩
theorem qbc8{d e:D}(h:d.getP [n]=some e):d≠.u:=λz=>by subst z;cases (show (none:Option D)=some _ from h)
theorem Rb.place(S:Rb c F H σ ds A)(h:Bb ds i p=some d)(e:d≠.u)(f:(σ++c.gv)[i]?=some (some u))(g:Walk H u p w):∃(B C:List γ),Q8 F H w d B/\(∀b,A.count b=B.count b+C.count b)/\∀{F':γ->Prop}{H':Hp}{W:γ->Prop}(d':D)(B':List γ),Kp F H W F' H'->(∀b∈C,¬W b)->Q8 F' H' w d' B'->∃A':List γ,Locs F' H' (σ++c.gv) (Bn ds i p d') A'/\∀b,A'.count b=B'.count b+C.count b:=by obtain⟨n,o,B,C,a,j,k,l,m⟩:=S.loc.place h e;rw[f] at a;cases a;cases g.fn j;exact⟨B,C,k,l,m⟩
def D.fidx(C:γ)(f:Str):D->Option Nat|.ins _ C' fs=>if C'=C then fs.findIdx? (λq=>f==q.1) else none|_=>none
theorem qH4{α:Type}:∀{fs:List (Str×α)}{f:Str}{n:Nat},fs.findIdx? (λq=>f==q.1)=some n->∃v,fs.lookup f=some v/\(fs.map (·.2))[n]?=some v|[],f,n,h=>by simp at h|(k,v)::r,f,n,h=>by rw[zCk] at h;rw[zAv];cases a:f==k with|true=>simp[a] at h;subst h;exact⟨v,rfl,rfl⟩|false=>simp[a] at h;obtain⟨m,b,rfl⟩:=h;obtain⟨w,c,d⟩:=qH4 b;exact⟨w,c,by simpa using d⟩
theorem qZ4{α β:Type}:∀{fs:List (Str×α)}{a:List (Str×β)}{f:Str},fs.map (·.1)=a.map (·.1)->fs.findIdx? (λq=>f==q.1)=a.findIdx? (λq=>f==q.1)
 |[],[],_,_=>rfl|[],_::_,_,h=>by simp at h|_::_,[],_,h=>by simp at h|(k,_)::r,(k',_)::r',f,h=>by
  have b:k=k':=by simp at h;exact h.1
  have c:r.map (·.1)=r'.map (·.1):=by simp at h;simpa using h.2
  subst b;rw[zCk,zCk,qZ4 c]
def pfFld(C:γ)(f:Str)(pf:PF):PF:=λds=>(pf ds).bind λq=>(Bb ds q.1 q.2).bind λd=>(d.fidx C f).map λn=>(q.1,q.2++[n])
theorem G5(G:X.K=K)(l:VP c X a pf)(I:Cls K C)(J:qd1 K C f)(L:Nc a f X.env (eval a X.env)=eval a X.env:=by rfl):VP c X (.Attribute a f pos) (pfFld C f pf):=by subst G;refine⟨PE.mono (qas5 l.h L) λσ H Q m=>?_⟩;obtain⟨F,M,A,i,p,d,S,e,N,Z,q⟩:=m;obtain⟨⟨j,O⟩,P,e⟩:=zA1.mp e;obtain⟨t,e2,e⟩:=zA1.mp e;obtain⟨n,x,e⟩:=zA8.mp e;cases e;obtain⟨R,g1,g2⟩:=qan5 N;rw[e2] at g1;cases g1;have b:=qbc8 g2;refine⟨F,M,A,j,O,t,S,P,e2,b,λu w H' y D s=>?_⟩;obtain⟨B,C0,r,_,_⟩:=(S.same s).place e2 b y D;cases t with|ins z C' T=>have g:(if C'=C then T.findIdx? (λq=>f==q.1) else none)=some n:=x;by_cases o:C'=C;{rw[if_pos o] at g;obtain⟨a,E,k,_,rfl,l,U,rs,_⟩:=r.ins_inv;rw[<-qZ4 U] at g;obtain⟨v,V,Y⟩:=qH4 g;subst o;exact⟨a,C',E,k,v,rfl,l,I,J,V,q u v H' y (D.snoc ⟨a,rfl,.inr (.inr (.inr ⟨C',E,k,l,Y⟩))⟩) s⟩};rw[if_neg o] at g;cases g|_=>cases x
end
inductive Pl where
 |no
 |sl (i:Nat)
 |pl (i:Nat) (p:List Nat) (w:V)
abbrev VTB:=Ds->(Ds->List Pl->Ds->Prop)->XKd->Prop
inductive Hy(a:List (Option V)):List V->List Pl->Prop
 |nil:Hy a [] []
 |no {v:V} {vs:List V} {ps:List Pl} (t:Hy a vs ps):Hy a (v::vs) (.no::ps)
 |sl {v:V} {vs:List V} {ps:List Pl} {i:Nat} (h:a[i]?=some (some v)) (t:Hy a vs ps):Hy a (v::vs) (.sl i::ps)
 |so {v:V} {vs:List V} {ps:List Pl} {i:Nat} {p:List Nat} (t:Hy a vs ps):Hy a (v::vs) (.pl i p v::ps)
inductive LiftA(c:Vc)(t:VTB)(a:St)(H:Hp)(Q:List V->Hp->Prop):Prop
 |mk (F:γ->Prop) (ds:Ds) (A:List γ) (xe:XKd) (S:Rb c F H a ds A) (x:Xc c xe F H A) (q:t ds (λxs pls ds'=>∀vs H' F' T A',Q2 F' H' vs xs T->Hy (a++c.gv) vs pls->Rb c F' H' a ds' A'->Ok F' H' (T++A')->Ra F H A F' H' (T++A')->Q vs H') xe):LiftA c t a H Q
def Ig(c:Vc)(t:VTB):TA:=LiftA c t
structure VAs(c:Vc)(X:Cx)(es:List Nu)(t:VTB):Prop where
 h:PA X es (Ig c t)
 m:∀ds (Q Q':Ds->List Pl->Ds->Prop) (xe xe':XKd),(∀d p ds',Q d p ds'->Q' d p ds')->(∀x ds',xe x ds'->xe' x ds')->t ds Q xe->t ds Q' xe'
section
variable{c:Vc}{X:Cx}{e:Nu}{es:List Nu}{ta:VT}{tr:VTB}{pf:PF}{F F':γ->Prop}{H H':Hp}{σ:St}{ds:Ds}{A:List γ}
def A6:VTB:=λds Q _=>Q [] [] ds
theorem Aa:VAs c X [] A6:=⟨PA.mono qk1 λσ H Q ⟨F,a,A,b,S,x,q⟩=>q [] H F [] A .nil .nil S S.ok Ra.refl,λa Q Q' b d e _=>e _ _ _⟩
def tbV(ta:VT)(tr:VTB):VTB:=λds Q xe=>ta ds (λx ds1=>tr ds1 (λxs ps a=>Q (x::xs) (.no::ps) a) xe) xe
theorem vaV(f:VE c X e ta)(g:VAs c X es tr)(w:M6 (e::es) X.env=(false,eval e X.env)::M6 es X.env:=by rfl):VAs c X (e::es) (tbV ta tr):=by
 refine⟨PA.mono (qc6 f.h g.h w) λσ H Q i=>?_,λo Q Q' j y B p=>f.m _ _ _ _ _ (λd a=>g.m _ _ _ _ _ (λC D k=>B _ _ _) p) p⟩;obtain⟨F,o,A,j,S,x,q⟩:=i;refine⟨F,o,A,j,S,x,f.m _ _ _ _ _ (λE a q v H1 F1 T A1 r S1 s t=>?_) (λ_ _ z=>z) q⟩;have l:Ra F H A F1 H1 A1:=t.count λb=>by rw[zA0];lia
 refine⟨F1,a,A1,j,S1,x.step l,g.m _ _ _ _ _ (λC D k q G H2 F2 T2 A2 I J S2 K u=>?_) (λ_ _ z=>z) q⟩;have n:Q8 F2 H2 v E T:=r.keep (u.kp S1.ok S1.loc.cells) λb L O=>by have:=s.sep b;rw[zA0] at this;have:=qb0.mp L;lia
 obtain⟨M,N⟩:=u.frame s r.cells K;exact q (v::G) H2 F2 (T++T2) A2 (.cons n I) (.no J) S2 (by rw[zAs];exact M) (by rw[zAs];exact t.trans N)
def tbB(pf:PF)(tr:VTB):VTB:=λds Q xe=>orF (pf ds) λq=>orF (Bb ds q.1 q.2) λd=>d.known=true/\∀w,tr (Bn ds q.1 q.2 (.hole w)) (λxs ps a=>Q (d::xs) (.pl q.1 q.2 w::ps) a) xe
theorem vaB(I:VP c X e pf)(a:VAs c X es tr)(J:M6 (e::es) X.env=(false,eval e X.env)::M6 es X.env:=by rfl):VAs c X (e::es) (tbB pf tr):=by
 refine⟨PA.mono (qc6 I.h a.h J) λσ H Q g=>?_,λj Q Q' v K L M=>qa5 λz=>qa5 λd=>P7 λh w=>a.m _ _ _ _ _ (λN O k=>L _ _ _) M (h w)⟩;obtain⟨F,j,A,v,S,x,q⟩:=g;obtain⟨⟨i,p⟩,P,q⟩:=qa7.mp q;obtain⟨d,e2,y,q⟩:=qa7.mp q;refine⟨F,j,A,i,p,d,S,P,e2,qn8 y,λu w H1 R T s=>?_⟩;obtain⟨B,C,r,D,U⟩:=(S.same s).place e2 (qn8 y) R T;obtain⟨A1,V,q2⟩:=U (.hole w) [] (Kp.same λ_ _ z=>z) (λ_ _ z=>z) (.hole w);have l:Ok F H1 (B++A1):=(S.same s).ok.count λb=>by rw[zA0,q2,D];simp
 have E:Ra F H A F H1 (B++A1):=⟨λb o e _=>s b o e,λb o e z=>by rw[zA0,q2];have:=D b;simp;lia,λ_ f=>f,λ_ _ _ _ f=>f⟩;have S1:Rb c F H1 σ (Bn j i p (.hole w)) A1:=⟨V,l.right,S.len,S.ag⟩;have n:Ra F H A F H1 A1:=E.count λb=>by rw[zA0];lia
 refine⟨F,_,A1,v,S1,x.step n,a.m _ _ _ _ _ (λN O k q W H2 F2 T2 A2 Y Z S2 o2 G=>?_) (λ_ _ z=>z) (q w)⟩;have t:=r.keep (G.kp S1.ok S1.loc.cells) λb hb hc=>by have:=l.sep b;rw[zA0] at this;have:=qb0.mp hb;lia
 obtain⟨o3,s3⟩:=G.frame l r.cells o2;exact q (w::W) H2 F2 (B++T2) A2 (.cons t Y) (.so Z) S2 (by rw[zAs];exact o3) (by rw[zAs];exact E.trans s3)
def tbN(i:Nat)(tr:VTB):VTB:=λds Q xe=>(rdN i ds).isSome=true/\tr ds (λxs ps ds1=>orF (rdN i ds1) λd=>Q (d::xs) (.sl i::ps) (ds1.set i .u)) xe
theorem vaN(i:Nat)(e:VAs c X es tr)(E:M6 (.Name x p::es) X.env=(false,eval (.Name x p) X.env)::M6 es X.env:=by rfl)(t:X.N[i]?=some x:=by rfl)(G:Vis X.env.scope x:=by first|exact Qx rfl|exact Qw (Qx rfl)|exact Qw (Qw rfl))(J:N' x:=by decide)(f:(x==("__classdict__" : Str))=false:=by decide):VAs c X (.Name x p::es) (tbN i tr):=by
 refine⟨λpos Fm s σ H Q I g=>?_,λu Q Q' w K L M=>P7 (e.m _ _ _ _ _ (λO P j=>qa5 λd=>L _ _ _) M)⟩;obtain⟨F,u,A,w,S,x,k,q⟩:=g;refine qc6 (qo9 t G J f) e.h E pos Fm s σ H Q I ?_;have y:=qn6 t Fm σ H s I;obtain⟨d0,R⟩:=zB0.mp k;obtain⟨v,B0,a,_,_⟩:=S.name y R;refine⟨v,a,F,u,A,w,S,x,e.m _ _ _ _ _ (λO P j q T H2 F2 T2 A2 U V S2 D W=>?_) (λ_ _ z=>z) q⟩;obtain⟨d,l,q⟩:=qa7.mp q;obtain⟨l,Y⟩:=qn3.mp l;obtain⟨v',B,C,n,Z,h3,h4⟩:=S2.put1 l (qn8 Y);have o:=n;rw[zAu y,a] at n;cases n;obtain⟨A3,q1,q2⟩:=h4 .u [] (Kp.same λ_ _ z=>z) (λ_ _ z=>z) (.u v);have r:∀b,((B++T2)++A3).count b<=(T2++A2).count b:=λb=>by simp only[zA0,q2,h3];simp;lia
 exact q (v::T) H2 F2 (B++T2) A3 (.cons Z U) (.sl o V) ⟨q1,(D.count r).right,S.len,S.ag⟩ (D.count r) (W.count r)
def Aq:List Pl->Ds->Ds->Option Ds
 |[],_,ds=>some ds|.no::ps,_::ys,ds=>Aq ps ys ds|.sl i::ps,y::ys,ds=>Aq ps ys (ds.set i y)|.pl i p v::ps,y::ys,ds=>match Bb ds i p with|some (.hole w)=>if w=v then Aq ps ys (Bn ds i p y) else none|_=>none
 |_::_,[],_=>none
theorem qI4{τ:List (Option V)}{ds:Ds}{C B:List γ}{y:D}(L:Locs F H τ ds C)(hi:τ[i]?=some (some v))(r:Q8 F H v y B):∃A':List γ,Locs F H τ (ds.set i y) A'/\∀b,A'.count b<=B.count b+C.count b:=by
 have s:=L.len;have g:=(zA4.mp hi).1;obtain⟨d,h⟩:∃d,ds[i]?=some d:=⟨_,zC8 ⋯⟩;obtain⟨σ1,o,σ2,a,c,A1,B0,A2,e,e2,j,k,m,n,t,p⟩:=L.split h;have f:τ[i]?=some o:=by rw[e];exact qH1 j
 rw[hi] at f;cases f;have q:ds.set i y=a++y::c:=by have:=congrArg (λl=>l.set i y) e2;rw[this,qs7 k]
 exact⟨A1++(B++A2),by rw[e,q];exact n.append (.so r p),λb=>by rw[m];simp only[zA0];lia⟩
theorem qx9{pls:List Pl}{ys ds a:Ds}{σ:List (Option V)}{B C:List γ}{more:List V}(e:Hy σ vs pls)(r:Q2 F H (vs++more) ys B)(L:Locs F H σ ds C)(h:Aq pls ys ds=some a):∃A':List γ,Locs F H σ a A'/\∀b,A'.count b<=B.count b+C.count b:=by
 induction e generalizing ys ds B C with
 |nil=>
  have h:some ds=some a:=by cases ys<;>exact h
  cases h;exact⟨C,L,λb=>⋯⟩
 |no e c=>cases r with|@cons _ _ A1 _ _ B1 r1 t=>obtain⟨A',d,q2⟩:=c t L h;exact⟨A',d,λb=>by rw[zA0];have:=q2 b;lia⟩
 |sl k e c=>cases r with|@cons _ _ A1 _ _ B1 r1 t=>obtain⟨A2,d,q2⟩:=qI4 L k r1;obtain⟨A',f,g⟩:=c t d h;exact⟨A',f,λb=>by rw[zA0];have:=g b;have:=q2 b;lia⟩
 |@so v _ _ i p e c=>
  cases r with
  |@cons _ y A1 _ _ B1 r1 t=>
   unfold Aq at h;split at h
   .rename_i w hg;by_cases j:w=v
    .rw[if_pos j] at h;subst j;obtain⟨u,o,B2,C2,q,s,l,m,n⟩:=L.place hg (by intro z;cases z);cases l;obtain⟨A2,d,q2⟩:=n y A1 (Kp.same (F:=F) λ_ _ z=>z) (λ_ _ z=>z) r1;obtain⟨A',f,g⟩:=c t d h;refine⟨A',f,λb=>?_⟩;have:=g b;have:=q2 b;have:=m b;simp only[Op,zA0] at *
     lia
    rw[if_neg j] at h;cases h
   cases h
abbrev VSp:=Ds->DK->XKd->Prop
inductive LiftF(s:VSp)(vs:List V)(H:Hp)(Q:VK)(E:XK):Prop
 |mk (F:γ->Prop) (ds:Ds) (A:List γ) (r:Q2 F H vs ds A) (o:Ok F H A) (q:s ds (λd ys=>∀v H' F' T A',Q8 F' H' v d T->Q2 F' H' vs ys A'->Ok F' H' (T++A')->Ra F H A F' H' (T++A')->Q v H')
   (λx ys=>∀e H' F' A',RepX F' H' e x->Q2 F' H' vs ys A'->Ok F' H' A'->Ra F H A F' H' A'->E (.ref e) none H')):LiftF s vs H Q E
def Ji(s:VSp):Sp:=LiftF s
def Fq(s:VSp):Prop:=∀ds (Q Q':DK) (xe xe':XKd),(∀d a,Q d a->Q' d a)->(∀x a,xe x a->xe' x a)->s ds Q xe->s ds Q' xe'
def qk9(s:VSp)(dv:Ds)(tr:VTB):VT:=λds Q xe=>tr ds (λxs ps ds1=>s (xs++dv) (λd ys=>orF (Aq ps ys ds1) λa=>Q d a) (λx ys=>orF (Aq ps ys ds1) λa=>xe x a)) xe
theorem qaw9(f:Fq s)(g:VAs c X es tr):∀ds (Q Q':DK) (xe b:XKd),(∀d a,Q d a->Q' d a)->(∀x a,xe x a->b x a)->qk9 s dv tr ds Q xe->qk9 s dv tr ds Q' b:=λds Q Q' xe b h e=>g.m _ _ _ _ _ (λk l i=>f _ _ _ _ _ (λd j=>qa5 λz=>h _ _) (λx j=>qa5 λz=>e _ _)) e
def K8(dvs:List V)(dv:Ds):Prop:=∀F H,Q2 F H dvs dv []
theorem qx2:K8 [] []:=λ_ _=>.nil
theorem qaw4:K8 [.non] [.non]:=λ_ _=>.cons .non .nil
theorem qaW5(C:K8 dvs dv)(D:Fq s)(G:VAs c X es tr):∀σ H Q,Bj c (qk9 s dv tr) σ H Q->Lv (Ji s) dvs c.E (Ig c tr) σ H Q:=by
 rintro σ H Q ⟨F,I,A,J,S,x,q⟩;refine⟨F,I,A,J,S,x,G.m _ _ _ _ _ (λK R L q U H1 F1 T A1 M u S1 a w=>?_) (λ_ _ z=>z) q⟩;have rall:=M.append (C F1 H1);rw[zAa] at rall;refine⟨F1,K++dv,T,rall,a.left,D _ _ _ _ _ (λd N q v H2 F2 T2 A2 O j k h=>?_) (λy N q e H2 F2 A2 P j k h=>?_) q⟩
 .obtain⟨i,l,q⟩:=qa7.mp q;have f:Ok F1 H1 (A1++T):=a.count λb=>by simp only[zA0];lia
  obtain⟨n,o⟩:=h.frame f S1.loc.cells k;have L1:=S1.loc.keep (h.kp a.left rall.cells) λb p g=>by have:=a.sep b;rw[zA0] at this;have:=qb0.mp p;lia
  obtain⟨A3,r,q2⟩:=qx9 u j L1 l;have g:∀b,(T2++A3).count b<=(A1++(T2++A2)).count b:=λb=>by simp only[zA0];have:=q2 b;lia
  have B:=n.count g;have t:=(w.trans (o.pre λb=>by simp only[zA0];lia)).count g;exact q v H2 F2 T2 A3 O ⟨r,B.right,S.len,S.ag⟩ B t
 obtain⟨i,l,q⟩:=qa7.mp q;have f:Ok F1 H1 (A1++T):=a.count λb=>by simp only[zA0];lia
 obtain⟨n,o⟩:=h.frame f S1.loc.cells k;have L1:=S1.loc.keep (h.kp a.left rall.cells) λb p g=>by have:=a.sep b;rw[zA0] at this;have:=qb0.mp p;lia
 obtain⟨A3,r,q2⟩:=qx9 u j L1 l;have g:∀b,A3.count b<=(A1++A2).count b:=λb=>by simp only[zA0];have:=q2 b;lia
 have t:Ra F H A F2 H2 A3:=(w.trans (o.pre λb=>by simp only[zA0];lia)).count g;exact x y i σ e H2 F2 A3 q P ⟨r,(n.count g),S.len,S.ag⟩ t
end
structure G0(cm:Bool)(P:Nq)(w:Nt)(K:P')(mg:Str->Option V')(base:Heap)(k:Nat)(f:γ)(fd:ε)(ps:List Str)(s:VSp):Prop where
 ok:Gg cm P w K mg base (CX1 P w) k f fd ps (Ji s)
 m:Fq s
abbrev VFn:=G0 true
section
variable{c:Vc}{X:Cx}{a e:Nu}{es:List Nu}{tr:VTB}{F F1:γ->Prop}{H H1:Hp}{σ:St}{ds ds1:Ds}{A A1 T:List γ}{pos p apos:Pos}{x qual m:Str}{st:Nv}{f C:γ}{fd:ε}{ps:List Str}{k:Nat}{s:VSp}{dvs:List V}{dv:Ds}
theorem Af(D:Df X.K X.mg x qual st f fd ps)(G:G0 cm X.prog X.w X.K X.mg X.base k f fd ps s)(i:Lands X c.E)(j:Rc cm k X.A)(a:VAs c X (e::es) tr)(l:Gl X x:=by rfl)(d:N' x:=by decide)(n:M6 (e::es) X.env=(false,eval e X.env)::M6 es X.env:=by rfl)(g:(backTo pos (M6 es X.env)).any (·.1)=false:=by rfl):VE c X (.Call (.Name x p) (e::es) [] pos) (qk9 s [] tr):=⟨PE.mono (qaz8 G.ok j l D.m D.F.kp D.b .nil i.passes a.h d n g) (qaW5 qx2 G.m a),qaw9 G.m a⟩
theorem qaB8{K:DK}(B:K8 dvs dv)(C:Fq s)(S:Rb c F H σ ds A)(x:Xc c xe F H A)(r1:Q2 F1 H1 vs xs T)(u:Hy (σ++c.gv) vs pls)(S1:Rb c F1 H1 σ ds1 A1)(f:Ok F1 H1 (T++A1))(w:Ra F H A F1 H1 (T++A1))(D:∀d i,K d i->∀v H' F' T A',Q8 F' H' v d T->Rb c F' H' σ i A'->Ok F' H' (T++A')->Ra F H A F' H' (T++A')->Q v H')(q:s (xs++dv) (λd ys=>orF (Aq pls ys ds1) λa=>K d a) (λx ys=>orF (Aq pls ys ds1) λa=>xe x a)):Ji s (vs++dvs) H1 Q (c.E σ):=by
 have rall:=r1.append (B F1 H1);rw[zAa] at rall;refine⟨F1,xs++dv,T,rall,f.left,C _ _ _ _ _ (λd ys q v H2 F2 T2 A2 G k l j=>?_) (λy ys q e H2 F2 A2 I k l j=>?_) q⟩
 .obtain⟨a,m,q⟩:=qa7.mp q;have g:Ok F1 H1 (A1++T):=f.count λb=>by simp only[zA0];lia
  obtain⟨n,o⟩:=j.frame g S1.loc.cells l;have L1:=S1.loc.keep (j.kp f.left rall.cells) λb p h=>by have:=f.sep b;rw[zA0] at this;have:=qb0.mp p;lia
  obtain⟨A3,r,q2⟩:=qx9 u k L1 m;have h:∀b,(T2++A3).count b<=(A1++(T2++A2)).count b:=λb=>by simp only[zA0];have:=q2 b;lia
  have z:Ok F2 H2 (T2++A3):=n.count h;have t:=(w.trans (o.pre λb=>by simp only[zA0];lia)).count h;exact D d a q v H2 F2 T2 A3 G ⟨r,z.right,S.len,S.ag⟩ z t
 obtain⟨a,m,q⟩:=qa7.mp q;have g:Ok F1 H1 (A1++T):=f.count λb=>by simp only[zA0];lia
 obtain⟨n,o⟩:=j.frame g S1.loc.cells l;have L1:=S1.loc.keep (j.kp f.left rall.cells) λb p h=>by have:=f.sep b;rw[zA0] at this;have:=qb0.mp p;lia
 obtain⟨A3,r,q2⟩:=qx9 u k L1 m;have h:∀b,A3.count b<=(A1++A2).count b:=λb=>by simp only[zA0];have:=q2 b;lia
 have t:Ra F H A F2 H2 A3:=(w.trans (o.pre λb=>by simp only[zA0];lia)).count h;exact x y a σ e H2 F2 A3 q I ⟨r,(n.count h),S.len,S.ag⟩ t
def D.isM(C:γ)(m:Str):D->Bool|.ins _ C' fs=>decide (C'=C)&&(fs.lookup m).isNone|_=>false
theorem qG9{α β:Type}:∀{fs:List (Str×α)}{a:List (Str×β)}{f:Str},fs.map (·.1)=a.map (·.1)->(fs.lookup f).isNone=(a.lookup f).isNone
 |[],[],_,_=>rfl|[],_::_,_,h=>by simp at h|_::_,[],_,h=>by simp at h|(k,_)::r,(k',_)::r',f,h=>by
  have b:k=k':=by simp at h;exact h.1
  have c:r.map (·.1)=r'.map (·.1):=by simp at h;simpa using h.2
  subst b;rw[zAv,zAv];cases f==k with|true=>rfl|false=>exact qG9 c
theorem Q8.isM(r:Q8 F H v d B)(h:d.isM C m=true):∃a dx fs,v=.ref a/\H a=some (.ins C dx fs)/\fs.lookup m=none:=by cases d with|ins z C' f=>have h:=zAp.mp h;obtain⟨a,dx,b,A,rfl,g,e,i,_⟩:=r.ins_inv;have:=zAh h.1;subst this;refine⟨a,dx,b,rfl,g,?_⟩;have c:=h.2;rw[<-qG9 e] at c;exact Option.isNone_iff_eq_none.mp c|_=>cases h
def qE2(C:γ)(m:Str)(s:VSp)(dv:Ds)(i:Nat)(tr:VTB):VT:=λds Q xe=>(orF (rdN i ds) λd=>d.isM C m=true)/\tr ds (λxs ps ds1=>orF (rdN i ds1) λd=>s (d::(xs++dv)) (λr ys=>orF (Aq (.sl i::ps) ys (ds1.set i .u)) λa=>Q r a) (λx ys=>orF (Aq (.sl i::ps) ys (ds1.set i .u)) λa=>xe x a)) xe
theorem qO1(f:Fq s)(g:VAs c X es tr):∀ds (Q Q':DK) (xe b:XKd),(∀d a,Q d a->Q' d a)->(∀x a,xe x a->b x a)->qE2 C m s dv i tr ds Q xe->qE2 C m s dv i tr ds Q' b:=λds Q Q' xe b h e=>P7 (g.m _ _ _ _ _ (λl n j=>qa5 λd=>f _ _ _ _ _ (λd k=>qa5 λz=>h _ _) (λx k=>qa5 λz=>e _ _)) e)
theorem qal1{σ:St}{H:Hp}(t:K8 dvs dv)(u:Fq s)(w:VAs c X es tr)(hi:i<σ.length)(q:Bj c (qE2 C m s dv i tr) σ H Q):Lw C m (Ji s) dvs c.E (Hs i) (Ig c tr) σ H Q:=by
 obtain⟨F,y,A,D,S,x,f,q⟩:=q;obtain⟨W,G,f⟩:=qa7.mp f;obtain⟨v,B0,e,I,_⟩:=S.name hi G;obtain⟨a,J,K,rfl,g,j⟩:=I.isM f;refine⟨.ref a,e,a,J,K,rfl,g,j,F,y,A,D,S,x,w.m _ _ _ _ _ (λY Z L q vs H2 F2 T2 A2 M N S2 r O=>?_) (λ_ _ z=>z) q⟩;obtain⟨d,k,q⟩:=qa7.mp q;obtain⟨k,l⟩:=qn3.mp k;obtain⟨v',B,C0,n,P,R,T⟩:=S2.put1 k (qn8 l);have o:=n;rw[zAu hi,e] at n;cases n;obtain⟨A3,U,q2⟩:=T .u [] (Kp.same λ_ _ z=>z) (λ_ _ z=>z) (.u _);have p:∀b,((B++T2)++A3).count b<=(T2++A2).count b:=λb=>by simp only[zA0,q2,R];simp;lia
 exact qaB8 t u S x (.cons P M) (.sl o N) ⟨U,(r.count p).right,S.len,S.ag⟩ (r.count p) (O.count p) (λd V h=>h) q
theorem qj7{pl:Sem Bool}(i:Nat){xn:Str}{p0:Pos}(D:Md X.K C m qual st f fd ps)(n:Cls X.K C)(G:G0 cm X.prog X.w X.K X.mg X.base k f fd ps s)(o:Lands X c.E)(p:Rc cm k X.A)(a:VAs c X (e::es) tr)(l:X.N[i]?=some xn:=by rfl)(r:Vis X.env.scope xn:=by first|exact Qx rfl|exact Qw (Qx rfl)|exact Qw (Qw rfl))(t:N' xn:=by decide)(d:(xn==("__classdict__" : Str))=false:=by decide)(g:M6 (e::es) X.env=(false,eval e X.env)::M6 es X.env:=by rfl)(j:(backTo pos (M6 es X.env)).any (·.1)=false:=by rfl)(u:eval (.Call (.Attribute (.Name xn p0) m apos) (e::es) [] pos) X.env=(do
     let ov<-eval (.Name xn p0) X.env
     standAt apos.atName
     let (f,first)<-holding [ov] (getMethod ov m pl)
     callWith pos f first (backTo pos (M6 (e::es) X.env)) (backToKw pos (Ni [] X.env))):=by rfl):VE c X (.Call (.Attribute (.Name xn p0) m apos) (e::es) [] pos) (qE2 C m s [] i tr):=⟨λFm s σ H Q I q=>qaz6 (qo9 l r t d) n D.me G.ok p D.b .nil o.passes a.h g j u Fm s σ H Q I (qal1 qx2 G.m a (qn6 l Fm σ H s I) q),qO1 G.m a⟩
theorem qe9{pl:Sem Bool}(i:Nat){xn:Str}{p0:Pos}(D:Md X.K C m qual st f fd ps)(j:Cls X.K C)(G:G0 cm X.prog X.w X.K X.mg X.base k f fd ps s)(l:Lands X c.E)(n:Rc cm k X.A)(g:X.N[i]?=some xn:=by rfl)(d:Vis X.env.scope xn:=by first|exact Qx rfl|exact Qw (Qx rfl)|exact Qw (Qw rfl))(o:N' xn:=by decide)(e:(xn==("__classdict__" : Str))=false:=by decide)(p:eval (.Call (.Attribute (.Name xn p0) m apos) [] [] pos) X.env=(do
     let ov<-eval (.Name xn p0) X.env
     standAt apos.atName
     let (f,first)<-holding [ov] (getMethod ov m pl)
     callWith pos f first (backTo pos (M6 [] X.env)) (backToKw pos (Ni [] X.env))):=by rfl):VE c X (.Call (.Attribute (.Name xn p0) m apos) [] [] pos) (qE2 C m s [] i A6):=⟨λFm h σ H Q I q=>qaj1 (qo9 g d o e) j D.me G.ok n D.b .nil l.passes p Fm h σ H Q I (by
   obtain⟨v,d,a,r,t,u,x,y,F2,z,A2,B,S2,F,q2⟩:=qal1 (X:=X) qx2 G.m Aa (qn6 g Fm σ H h I) q;exact⟨v,d,a,r,t,u,x,y,q2 [] H F2 [] A2 .nil .nil S2 S2.ok Ra.refl⟩),qO1 (c:=c) G.m (X:=X) Aa⟩
def qR4(C:γ)(s:VSp)(dv:Ds)(tr:VTB):VT:=λds Q xe=>tr ds (λxs ps ds1=>s (.ins false C []::(xs++dv)) (λd ys=>d.isN=some true/\orF ys.head? λself=>orF (Aq ps ys.tail ds1) λa=>Q self a) (λx ys=>orF (Aq ps ys.tail ds1) λa=>xe x a)) xe
theorem qK2(f:Fq s)(g:VAs c X es tr):∀ds (Q Q':DK) (xe b:XKd),(∀d a,Q d a->Q' d a)->(∀x a,xe x a->b x a)->qR4 C s dv tr ds Q xe->qR4 C s dv tr ds Q' b:=λds Q Q' xe b h e=>g.m _ _ _ _ _ (λk l i=>f _ _ _ _ _ (λd j=>P7 (qa5 λz=>qa5 λw=>h _ _)) (λx j=>qa5 λz=>e _ _)) e
theorem qal5(N:K8 dvs dv)(O:Fq s)(P:VAs c X es tr):∀σ H Q,Bj c (qR4 C s dv tr) σ H Q->tMake C (Ji s) dvs c.E (Ig c tr) σ H Q:=by
 rintro σ H Q ⟨F,R,A,U,S,x,q⟩;refine⟨F,R,A,U,S,x,P.m _ _ _ _ _ (λV ps h q W H1 F1 T A1 K L S1 Y Z=>?_) (λ_ _ z=>z) q⟩;intro y dy n o p;have same:Same H1 (upd (upd H1 dy (.own y)) y (.ins C dy [])):=(Same.new o).trans (Same.new (by rw[qc0 (Ne.symm p)];exact n));have rall:Q2 F1 (upd (upd H1 dy (.own y)) y (.ins C dy [])) (.ref y::(W++dvs)) (.ins false C []::(V++dv)) ([y]++(T++[])) :=
  .cons (.ins qb7 rfl .nil) ((K.append (N F1 H1)).same same)
 rw[zAa] at rall;have i:=(qh2 n).ok Y (λb a=>by rcases zAf.mp a with a|a;{exact K.cells b a};exact S1.loc.cells b a) same;have r:Ok F1 (upd (upd H1 dy (.own y)) y (.ins C dy [])) ([y]++T):=i.count λb=>by simp only[zA0];lia
 have M:=Z.trans ((qh2 n).stp same);have S1':=S1.same same;refine⟨F1,_,[y]++T,rall,r,O _ _ _ _ _ (λd ys q v H2 F2 T2 A2 r2 t u j=>?_) (λex ys q e H2 F2 A2 rx t u j=>?_) q⟩
 .obtain⟨hn,q⟩:=q;have hv:v=.non:=by cases d with|non=>cases r2;rfl|_=>cases hn
  refine⟨hv,?_⟩;obtain⟨self,eh,q⟩:=qa7.mp q;obtain⟨k,w,B⟩:=qa7.mp q;have g:Ok F1 _ (A1++([y]++T)):=i.count λb=>by simp only[zA0];lia
  obtain⟨D,G⟩:=j.frame g S1'.loc.cells u;have L1:Locs F2 H2 (σ++c.gv) h A1:=S1'.loc.keep (j.kp r rall.cells) λb a f=>by have:=i.sep b;simp only[zA0] at this f;have:=qb0.mp a;lia
  cases t with
  |@cons _ d0 Aself _ ys' B' rself rrest=>
   cases eh;obtain⟨A3,I,q2⟩:=qx9 L rrest L1 w;have f:∀b,(Aself++A3).count b<=(A1++(T2++(Aself++B'))).count b:=λb=>by simp only[zA0];have:=q2 b;lia
   have l:=D.count f;have J:Ra F H A F2 H2 (Aself++A3):=(M.trans (G.pre λb=>by simp only[zA0];lia)).count f;exact B (.ref y) H2 F2 Aself A3 rself ⟨I,l.right,S.len,S.ag⟩ l J
 obtain⟨k,w,B⟩:=qa7.mp q;have g:Ok F1 _ (A1++([y]++T)):=i.count λb=>by simp only[zA0];lia
 obtain⟨D,G⟩:=j.frame g S1'.loc.cells u;have L1:Locs F2 H2 (σ++c.gv) h A1:=S1'.loc.keep (j.kp r rall.cells) λb a f=>by have:=i.sep b;simp only[zA0] at this f;have:=qb0.mp a;lia
 cases t with
 |@cons _ d0 Aself _ ys' B' rself rrest=>
  obtain⟨A3,I,q2⟩:=qx9 L rrest L1 w;have f:∀b,A3.count b<=(A1++(Aself++B')).count b:=λb=>by simp only[zA0];have:=q2 b;lia
  have l:=D.count f;have J:Ra F H A F2 H2 A3:=(M.trans (G.pre λb=>by simp only[zA0];lia)).count f;exact x ex k σ e H2 F2 A3 B rx ⟨I,l,S.len,S.ag⟩ J
theorem Kj(i:Cl X.K X.mg x C)(M:Mk X.K C f)(D:Md X.K C m qual st f fd ps)(G:G0 cm X.prog X.w X.K X.mg X.base k f fd ps s)(j:Lands X c.E)(l:Rc cm (k+1) X.A)(a:VAs c X (e::es) tr)(n:Gl X x:=by rfl)(d:N' x:=by decide)(o:M6 (e::es) X.env=(false,eval e X.env)::M6 es X.env:=by rfl)(g:(backTo pos (M6 es X.env)).any (·.1)=false:=by rfl):VE c X (.Call (.Name x p) (e::es) [] pos) (qR4 C s [] tr):=⟨PE.mono (qaj2 M G.ok l n i.m D.b .nil j.passes a.h d o g) (qal5 qx2 G.m a),qK2 G.m a⟩
theorem qbe8{ndv:List V'}(i:Cl X.K X.mg x C)(M:Mk X.K C f)(b:Binds X.K fd ps [.none])(G:G0 cm X.prog X.w X.K X.mg X.base k f fd ps s)(j:Lands X c.E)(l:Rc cm (k+1) X.A)(a:VAs c X (e::es) tr)(n:Gl X x:=by rfl)(d:N' x:=by decide)(o:M6 (e::es) X.env=(false,eval e X.env)::M6 es X.env:=by rfl)(g:(backTo pos (M6 es X.env)).any (·.1)=false:=by rfl):VE c X (.Call (.Name x p) (e::es) [] pos) (qR4 C s [.non] tr):=⟨PE.mono (qaj2 M G.ok l n i.m b (dvs:=[.non]) (.cons rfl .nil) j.passes a.h d o g) (qal5 qaw4 G.m a),qK2 G.m a⟩
def tLstV(tr:VTB):VT:=λds Q xe=>tr ds (λxs ps ds1=>xs.length<=big/\Q (.l false xs) ds1) xe
def Kk(tr:VTB):VT:=λds Q xe=>tr ds (λxs ps ds1=>xs.length<=big/\Q (.q xs) ds1) xe
theorem Hg(d:VAs c X es tr):VE c X (.List es pos) (tLstV tr):=by refine⟨PE.mono (qaF7 d.h) λσ H Q e=>?_,λj Q Q' k l n o=>d.m _ _ _ _ _ (λp r f=>P7 (n _ _)) o⟩;obtain⟨F,j,A,k,S,x,q⟩:=e;refine⟨F,j,A,k,S,x,d.m _ _ _ _ _ (λp r f q s H1 F1 T A1 g B S1 t v=>⟨by rw[g.len];exact zAg q.1 qj9,λy i=>?_⟩) (λ_ _ z=>z) q⟩;have same:=Same.new (u:=.l s) i;have w:=(qh2 i).ok t (λb a=>by rcases zAf.mp a with a|a;{exact g.cells b a};exact S1.loc.cells b a) same;exact q.2 (.ref y) _ F1 (y::T) A1 (.l qb7 (g.same same)) (S1.same same) w (v.trans ((qh2 i).stp same))
theorem Jj(a:VAs c X es tr):VE c X (.Tuple es n pos) (Kk tr):=by refine⟨PE.mono (qaP3 a.h) λσ H Q b=>?_,λe Q Q' f j k l=>a.m _ _ _ _ _ (λo p d=>P7 (k _ _)) l⟩;obtain⟨F,e,A,f,S,x,q⟩:=b;refine⟨F,e,A,f,S,x,a.m _ _ _ _ _ (λo p d q r H1 F1 T A1 g v S1 s t=>⟨by rw[g.len];exact zAg q.1 qj9,λy i=>?_⟩) (λ_ _ z=>z) q⟩;have same:=Same.new (u:=.q r) i;exact q.2 (.ref y) _ F1 T A1 (qak6 i g) (S1.same same) (s.same same) (t.trans (.same same))
end
structure VEnds where
 nx:Ds->Prop
 rt:DK
 bk:Ds->Prop
 ct:Ds->Prop
 xe:XKd
abbrev VTS:=VEnds->Ds->Prop
structure VEnds.Le(e e':VEnds):Prop where
 nx:∀ds,e.nx ds->e'.nx ds
 rt:∀d ds,e.rt d ds->e'.rt d ds
 bk:∀ds,e.bk ds->e'.bk ds
 ct:∀ds,e.ct ds->e'.ct ds
 xe:∀x ds,e.xe x ds->e'.xe x ds
structure Lk(c:Vc)(E:B7)(F:γ->Prop)(H:Hp)(A:List γ)(e:VEnds):Prop where
 nx:∀ds' a' H' F' A',e.nx ds'->Rb c F' H' a' ds' A'->Ra F H A F' H' A'->E.nx a' H'
 rt:∀d ds' v a' H' F' T A',e.rt d ds'->Q8 F' H' v d T->Rb c F' H' a' ds' A'->Ok F' H' (T++A')->Ra F H A F' H' (T++A')->E.rt v H'
 bk:∀ds' a' H' F' A',e.bk ds'->Rb c F' H' a' ds' A'->Ra F H A F' H' A'->E.bk a' H'
 ct:∀ds' a' H' F' A',e.ct ds'->Rb c F' H' a' ds' A'->Ra F H A F' H' A'->E.ct a' H'
 xe:Xc c e.xe F H A
theorem Lk.step(l:Lk c E F H A e)(s:Ra F H A F1 H1 A1):Lk c E F1 H1 A1 e:=⟨λa b' H' F' A' h S t=>l.nx a b' H' F' A' h S (s.trans t),λd a v b' H' F' T A' h r S o t=>l.rt d a v b' H' F' T A' h r S o (s.trans t),λa b' H' F' A' h S t=>l.bk a b' H' F' A' h S (s.trans t),λa b' H' F' A' h S t=>l.ct a b' H' F' A' h S (s.trans t),l.xe.step s⟩
inductive LiftS(c:Vc)(t:VTS)(E:B7)(a:St)(H:Hp):Prop
 |mk (F:γ->Prop) (ds:Ds) (A:List γ) (e:VEnds) (S:Rb c F H a ds A) (l:Lk c E F H A e) (q:t e ds):LiftS c t E a H
def G6(c:Vc)(t:VTS):TS:=LiftS c t
structure VS(c:Vc)(X:Cx)(st:Nv)(t:VTS):Prop where
 h:PS X st (G6 c t)
 m:∀(e e':VEnds) ds,e.Le e'->t e ds->t e' ds
structure VSs(c:Vc)(X:Cx)(st:List Nv)(t:VTS):Prop where
 h:PSs X st (G6 c t)
 m:∀(e e':VEnds) ds,e.Le e'->t e ds->t e' ds
section
variable{c:Vc}{X:Cx}{a b e:Nu}{J:Nv}{rest:List Nv}{t u:VTS}{te:VT}{pos:Pos}
def Jk:VTS:=λe ds=>e.nx ds
def Ix(t u:VTS):VTS:=λe ds=>t {e with nx:=u e} ds
theorem Aw:VSs c X [] Jk:=⟨PSs.mono qaz2 λE G H ⟨F,a,A,e,S,l,q⟩=>l.nx a G H F A q S Ra.refl,λe b a h=>h.nx a⟩
theorem Ac(h1:VS c X J t)(h2:VSs c X rest u):VSs c X (J::rest) (Ix t u):=by exact⟨PSs.mono (qT9 h1.h h2.h) λE G H ⟨F,a,A,e,S,l,q⟩=>(⟨F,a,A,{e with nx:=u e},S,⟨λb G' H' F' A' q S' s=>⟨F',b,A',e,S',l.step s,q⟩,l.rt,l.bk,l.ct,l.xe⟩,q⟩),λe d a h=>h1.m _ _ _ ⟨λa=>h2.m _ _ _ h,h.rt,h.bk,h.ct,h.xe⟩⟩
theorem Ag(h1:VS c X J t):VSs c X [J] t:=⟨qt0 h1.h,h1.m⟩
def sRet(te:VT):VTS:=λe ds=>te ds e.rt e.xe
theorem An(h:VE c X e te):VS c X (.Return (some e) pos) (sRet te):=by refine⟨PS.mono (Kv h.h) λE G H ⟨F,b,A,e,S,l,q⟩=>⟨F,b,A,e.xe,S,l.xe,h.m _ _ _ _ _ (λd a q v H' F' T A' r S' o s=>l.rt d a v G H' F' T A' q r S' o s) (λ_ _ z=>z) q⟩,λe g b f=>h.m _ _ _ _ _ f.rt f.xe⟩
def sExpr(te:VT):VTS:=λe ds=>te ds (λ_ a=>e.nx a) e.xe
theorem Bd(h:VE c X e te)(i:swapsWith e none pos.line X.env=pure false:=by rfl):VS c X (.Expr e pos) (sExpr te):=by refine⟨PS.mono (qaO4 h.h i) λE G H ⟨F,f,A,e,S,l,q⟩=>⟨F,f,A,e.xe,S,l.xe,h.m _ _ _ _ _ (λd a q v H' F' T A' r S' o s=>l.nx a G H' F' A' q S' (s.count λb=>by rw[zA0];lia)) (λ_ _ z=>z) q⟩,λe j f g=>h.m _ _ _ _ _ (λ_=>g.nx) g.xe⟩
def sIf(qc:VTT)(t u:VTS):VTS:=λe ds=>qc ds (λk a=>if k=true then t e a else u e a) e.xe
theorem sif(b:VTe c X cd qc)(g:VSs c X x t)(i:VSs c X y u):VS c X (.If cd x y pos) (sIf qc t u):=by refine⟨PS.mono (ps_if b.h g.h i.h) λE G H d=>?_,λe n j f=>b.m _ _ _ _ _ (λk a=>qH0 (g.m _ _ _ f) (i.m _ _ _ f)) f.xe⟩;obtain⟨F,j,A,e,S,l,q⟩:=d;refine⟨F,j,A,e.xe,S,l.xe,b.m _ _ _ _ _ (λk a q H' F' A' S' s=>?_) (λ_ _ z=>z) q⟩;cases k with|true=>rw[if_pos rfl] at q ⊢;exact⟨F',a,A',e,S',l.step s,q⟩|false=>rw[if_neg ∅] at q ⊢;exact⟨F',a,A',e,S',l.step s,q⟩
def qaY8:VTS:=λ_ _=>False
theorem qaD9:VS c X J qaY8:=⟨λ_ _ _ _ _ _ ⟨_,_,_,_,_,_,q⟩=>q.elim,λ_ _ _ _ q=>q.elim⟩
abbrev VTG:=D->Ds->(Ds->Prop)->Prop
inductive LiftG(c:Vc)(g:VTG)(v:V)(G:St)(H:Hp)(Q:St->Hp->Prop):Prop
 |mk (F:γ->Prop) (ds:Ds) (A T:List γ) (d:D) (r:Q8 F H v d T) (S:Rb c F H G ds A) (o:Ok F H (T++A)) (q:g d ds (λds'=>∀G' H' F' A',Rb c F' H' G' ds' A'->Ra F H (T++A) F' H' A'->Q G' H')):LiftG c g v G H Q
def Ih(c:Vc)(g:VTG):TG:=LiftG c g
structure VG(c:Vc)(X:Cx)(e:Nu)(g:VTG):Prop where
 h:PG X e (Ih c g)
 m:∀d ds (Q Q':Ds->Prop),(∀ds',Q ds'->Q' ds')->g d ds Q->g d ds Q'
theorem PG.mono(h:PG X e g)(i:∀v G H Q,g' v G H Q->g v G H Q):PG X e g':=λFm s G H v u Q I r q=>h Fm s G H v u Q I r (i v G H Q q)
theorem Rb.store(S:Rb c F H G ds A)(m:c.W i=false)(hi:i<G.length)(r:Q8 F H v d T)(o:Ok F H (T++A)):∃A',Rb c F H (G.set i (some v)) (ds.set i d) A'/\Ra F H (T++A) F H A':=by
 have n:=S.loc.len;rw[zAb] at n;obtain⟨σ1,x,σ2,e,f,A1,B,A2,p,e2,q,s,t,u,y,w⟩:=S.loc.split (i:=i) (d:=ds[i]'⋯) (by simp);have hσ:G.set i (some v)++c.gv=σ1++some v::σ2:=by rw[<-O3 _ _ hi,p,qs7 q]
 have g:ds.set i d=e++d::f:=by have:=congrArg (λl=>l.set i d) e2;rw[this,qs7 s]
 have a:∀b,(A1++(T++A2)).count b<=(T++A).count b:=λb=>by rw[t];simp only[zA0];lia
 refine⟨A1++(T++A2),⟨by rw[hσ,g];exact u.append (.so r w),o.count a,?_,λj h=>?_⟩,Ra.refl.count a⟩;{rw[S.len,zAb,zAb,Om]};have k:i≠j:=λz=>by subst z;rw[m] at h;cases h
 rw[<-S.ag j h,<-O3 _ _ hi,zBf k]
def gNm(i:Nat):VTG:=λd ds Q=>Q (ds.set i d)
theorem Bc(i:Nat)(b:X.N.Nodup)(e:c.W i=false:=by rfl)(hi:X.N[i]?=some x:=by rfl)(f:Loc X.env.scope x:=by first|exact Qx rfl|exact Qw rfl)(g:X.fn x=true∨X.env.scope.names.lookup x=some .local:=by first|exact .inl rfl|exact .inr rfl|assumption):VG c X (.Name x pos) (gNm i):=by refine⟨λFm s G H v h Q I j a=>?_,λd k Q Q' l=>l _⟩;obtain⟨F,k,A,T,d,r,S,o,q⟩:=a;refine qaz5 b hi f g Fm s G H v h Q I j ?_;obtain⟨A',S',m⟩:=S.store e (qn6 hi Fm G H s I) r o;exact q _ H F A' S' m
def G1(te:VT)(g:VTG):VTS:=λe ds=>te ds (λd a=>g d a e.nx) e.xe
theorem qbg2(h:VE c X e te)(f:VG c X tg g):∀E G H,G6 c (G1 te g) E G H->Kw (Bj c te) (Ih c g) E G H:=by rintro E G H ⟨F,i,A,j,S,l,q⟩;exact⟨F,i,A,j.xe,S,l.xe,h.m _ _ _ _ _ (λd a q v H' F' T A' r S' o s=>(⟨F',a,A',T,d,r,S',o,f.m _ _ _ _ (λb q σ2 H2 F2 A2 S2 k=>l.nx b σ2 H2 F2 A2 q S2 (s.trans k)) q⟩)) (λ_ _ z=>z) q⟩
theorem qap5(h:VE c X e te)(f:VG c X tg g):∀(en a:VEnds) ds,en.Le a->G1 te g en ds->G1 te g a ds:=λen a ds b=>h.m _ _ _ _ _ (λd i=>f.m _ _ _ _ b.nx) b.xe
theorem Hm(h:VE c X e te)(a:VG c X tg g)(b:swapsWithSole [tg] e pos.line X.env=pure false:=by rfl)(d:swappedStores [tg] e X.env=pure none:=by rfl)(h1:(Nm [tg] X.env).map (·.2)=[assign tg X.env]:=by rfl):VS c X (.Assign [tg] e pos) (G1 te g):=⟨PS.mono (qaZ6 h.h a.h b d h1) (qbg2 h a),qap5 h a⟩
theorem Aj(i:Nat)(a:X.N.Nodup)(h:VE c X e te)(b:c.W i=false:=by rfl)(hi:X.N[i]?=some x:=by rfl)(f:Loc X.env.scope x:=by first|exact Qx rfl|exact Qw rfl)(j:swapsWith e (some (.Name x pos')) pos.line X.env=pure false:=by rfl)(g:X.fn x=true∨X.env.scope.names.lookup x=some .local:=by first|exact .inl rfl|exact .inr rfl|assumption):VS c X (.Assign [.Name x pos'] e pos) (G1 te (gNm i)):=by have k:VG c X (.Name x pos') (gNm i):=Bc i a b hi f g;refine⟨λFm s G H E I q=>qaO3 a hi f h.h j g Fm s G H E I ?_,qap5 h k⟩;obtain⟨F,n,A,p,S,l,q⟩:=q;refine⟨F,n,A,p.xe,S,l.xe,h.m _ _ _ _ _ (λd t q v H' F' T A' r S' o u=>?_) (λ_ _ z=>z) q⟩;obtain⟨A2,S2,w⟩:=S'.store b (qn6 hi Fm G H s I) r o;exact l.nx _ _ H' F' A2 q S2 (u.trans w)
abbrev Iy:=Ds->Ds->(Ds->Prop)->Prop
inductive qaX5(c:Vc)(g:Iy)(vs:List V)(G:St)(H:Hp)(Q:St->Hp->Prop):Prop
 |mk (F:γ->Prop) (ds:Ds) (A T:List γ) (xs:Ds) (r:Q2 F H vs xs T) (S:Rb c F H G ds A) (o:Ok F H (T++A)) (q:g xs ds (λds'=>∀G' H' F' A',Rb c F' H' G' ds' A'->Ra F H (T++A) F' H' A'->Q G' H')):qaX5 c g vs G H Q
def qbc7(c:Vc)(g:Iy):TGs:=qaX5 c g
structure VGs(c:Vc)(X:Cx)(es:List Nu)(g:Iy):Prop where
 h:PGs X es (qbc7 c g)
 m:∀xs ds (Q Q':Ds->Prop),(∀ds',Q ds'->Q' ds')->g xs ds Q->g xs ds Q'
theorem PGs.mono(h:PGs X es g)(i:∀v G H Q,g' v G H Q->g v G H Q):PGs X es g':=λFm s G H v u Q I r q=>h Fm s G H v u Q I r (i v G H Q q)
def gNilV:Iy:=λxs ds Q=>match xs with | []=>Q ds|_=>False
def qaJ8(g:VTG)(b:Iy):Iy:=λxs ds Q=>match xs with|x::r=>g x ds λa=>b r a Q | []=>False
theorem Kl:VGs c X [] gNilV:=by refine⟨PGs.mono qaP1 λf G H Q a=>?_,λb d Q Q' e q=>by cases b with|nil=>exact e _ q|cons _ _=>exact q.elim⟩;obtain⟨F,d,A,T,b,r,S,o,q⟩:=a;cases b with|nil=>cases r;exact⟨rfl,q G H F A S Ra.refl⟩|cons _ _=>exact q.elim
theorem qP3(h1:VG c X tg g)(h2:VGs c X es l)(s:(Nm (tg::es) X.env).map (·.2)=assign tg X.env::(Nm es X.env).map (·.2):=by rfl):VGs c X (tg::es) (qaJ8 g l):=by
 refine⟨PGs.mono (qaF6 h1.h h2.h s) λe G H Q ⟨F,n,A,T,d,r,S,o,q⟩=>?_,λd n Q Q' t q=>by cases d with|nil=>exact q.elim|cons x r=>exact h1.m _ _ _ _ (λu=>h2.m _ _ _ _ t) q⟩;cases d with
 |nil=>exact q.elim|cons x d=>
  cases r with
  |@cons v _ T1 e _ T2 r1 rt=>
   refine⟨v,e,rfl,F,n,A,T1,x,r1,S,o.count λb=>by simp only[zA0];lia,h1.m _ _ _ _ (λf q σ1 H1 F1 A1 S1 p=>?_) q⟩;have i:Ok F H (T2++(T1++A)):=o.count λb=>by simp only[zA0];lia
   obtain⟨w,y⟩:=p.frame i rt.cells S1.ok;have j:Ok F H (T1++A):=i.right;have k:Q2 F1 H1 e d T2:=rt.keep (p.kp j λb a=>by
    rcases zAf.mp a with a|a;{exact r1.cells b a};exact S.loc.cells b a) λb a C=>by
    have:=i.sep b;rw[zA0] at this;have:=qb0.mp a;lia
   exact⟨F1,f,A1,T2,d,k,S1,w,h2.m _ _ _ _ (λz q σ2 H2 F2 A2 S2 B=>q σ2 H2 F2 A2 S2 ((y.pre λb=>by simp only[zA0];lia).trans B)) q⟩
def gTupV(n:Nat)(a:Iy):VTG:=λd ds Q=>match d with | .q xs=>xs.length=n/\a xs ds Q|_=>False
theorem Km{e:Iy}(j:X.calm=true)(h:VGs c X es e)(l:(Nm es X.env).length=n:=by rfl)(b:(Nm es X.env).findIdx? (·.1)=none:=by rfl):VG c X (.Tuple es k pos) (gTupV n e):=by refine⟨PG.mono (qaZ9 j h.h l b) λv G H Q ⟨F,f,A,T,d,r,S,o,q⟩=>?_,λd f Q Q' p q=>by cases d with|q g=>exact⟨q.1,h.m _ _ _ _ p q.2⟩|_=>exact q.elim⟩;cases d with|q g=>obtain⟨a,s,rfl,t,i⟩:=r.tup_inv;exact⟨a,s,rfl,.inl (.inl t),by rw[i.len];exact q.1,F,f,A,T,g,i,S,o,q.2⟩|_=>exact q.elim
end
section
variable{c:Vc}{F:γ->Prop}{H:Hp}{X:St}{ds:Ds}{A T:List γ}
theorem qQ5(h:H a=some o)(hm:Gq o=true)(c:¬F a):Kp F H (λb=>b=a) F (upd H a o'):=⟨λb u e w=>by rw[qc0 w];exact e,λb w=>by subst w;exact⟨o,h,hm⟩,λb w=>by subst w;exact c,λ_ f=>f⟩
theorem Q2.setAt(r:Q2 F H vs ys Ael)(s:n<ys.length)(e:Q8 F H v d Tv):∃B,Q2 F H (vs.set n v) (ys.set n d) B/\∀b,B.count b<=Ael.count b+Tv.count b:=by
 obtain⟨f,w,g,a,c,A1,B,A2,h,e2,j,k,m,o,t,p⟩:=r.split (i:=n) (d:=ys[n]) (by simp);have q:ys.set n d=a++d::c:=by have:=congrArg (λl=>l.set n d) e2;rw[this,qs7 k]
 rw[h,qs7 j,q];exact⟨A1++(Tv++A2),o.append (.cons e p),λb=>by rw[m];simp only[zA0];lia⟩
theorem qr7(r:Q8 F H v (.l false ys) B):∃a vs Ael,v=.ref a/\H a=some (.l vs)/\Q2 F H vs ys Ael/\B=a::Ael:=by cases r with|l h r=>exact⟨_,_,_,rfl,h,r,rfl⟩
theorem qo1(S:Rb c F H X ds A)(h:Bb ds i p=some (.l false ys))(J:(X++c.gv)[i]?=some (some u))(K:Walk H u p w):∃(a:γ)(vs:List V)(Ael:List γ),w=.ref a/\H a=some (.l vs)/\Q2 F H vs ys Ael/\∀(g:List V)(m:List D)(B' R T:List γ),Ok F H (T++A)->Q2 F H g m B'->(∀b,B'.count b+R.count b<=Ael.count b+T.count b)->(∃A',Rb c F (upd H a (.l g)) X (Bn ds i p (.l false m)) A'/\Ok F (upd H a (.l g)) (R++A')/\Ra F H (T++A) F (upd H a (.l g)) (R++A'))/\∀v d,Q8 F H v d R->Q8 F (upd H a (.l g)) v d R:=by
 obtain⟨B,C,r,L,M⟩:=S.place h (by intro z;cases z) J K;obtain⟨a,vs,Ael,rfl,y,N,rfl⟩:=qr7 r;refine⟨a,vs,Ael,rfl,y,N,λg m B' R T q O E=>?_⟩;have n:∀b,A.count b=(if b=a then 1 else 0)+Ael.count b+C.count b:=λb=>by rw[L,zAq];by_cases j:b=a;{subst j;simp;lia};simp[j,Ne.symm j]
 have s:=n a;rw[if_pos rfl] at s;have sa:=q.sep a;rw[zA0] at sa;have P:=E a;have G:¬F a:=λf=>by have:=q.fro a f;rw[zA0] at this;lia
 have k:=qQ5 (F:=F) (o':=.l g) y rfl G;have rep':Q8 F (upd H a (.l g)) (.ref a) (.l false m) (a::B'):=.l qb7 (O.keep k λb j w=>by subst w;have:=qb0.mp j;lia);obtain⟨A',Q,q2⟩:=M _ _ k (λb j w=>by subst w;have:=qb0.mp j;lia) rep';have t:∀b,A'.count b=(if b=a then 1 else 0)+B'.count b+C.count b:=λb=>by rw[q2,zAq];by_cases j:b=a;{subst j;simp;lia};simp[j,Ne.symm j]
 have l:∀b,(R++A').count b<=(T++A).count b:=λb=>by rw[zA0,zA0,t,n];have:=E b;lia
 have U:∀b,F b->∃o,upd H a (.l g) b=some o:=λb f=>by obtain⟨x,e⟩:=q.ex b f;exact⟨x,by rw[qc0 (show b≠a from λw=>G (w ▸ f))];exact e⟩
 have I:Ok F (upd H a (.l g)) (R++A'):=⟨λb=>zAg (l b) (q.sep b),λb f=>by have:=q.fro b f;have:=l b;lia,U⟩;refine⟨⟨A',⟨Q,I.right,S.len,S.ag⟩,I,λb u e z=>?_,λb u e z=>by have:=l b;lia,λ_ f=>f,λ_ _ _ _ f=>f⟩,λv d W=>W.keep k λb j w=>by subst w;have:=qb0.mp j;lia⟩;rw[qc0 λw=>?_];{exact e};subst w;have:=n b;rw[if_pos rfl] at this;rw[zA0] at z;lia
def Jl(r:V->List V->Hp->VK->Prop)(g:Ds->Ds->Option (Ds×D)):Prop:=∀F H a vs ys Ael f xs T c d (Q:VK),H a=some (.l vs)->Q2 F H vs ys Ael->Q2 F H f xs T->g ys xs=some (c,d)->(∀e v B' R,Q2 F H e c B'->Q8 F H v d R->(∀b,B'.count b+R.count b<=Ael.count b+T.count b)->Q v (upd H a (.l e)))->r (.ref a) f H Q
def gApp(ys xs:Ds):Option (Ds×D):=match xs with|[x]=>if ys.length<big then some (ys++[x],.non) else none|_=>none
theorem qC9:Jl qaz0 gApp:=by intro F H a i c Ael m j T e d Q k r l h q;match j,h with|[x],h=>obtain⟨w,rfl,f⟩:=l.one_inv;have h:(if c.length<big then some (c++[x],D.non) else none)=some (e,d):=h;by_cases g:c.length<big;{rw[if_pos g] at h;cases h;refine⟨a,i,w,rfl,rfl,k,by rw[r.len];exact zAc g qj9,?_⟩;exact q _ .non (Ael++(T++[])) [] (r.append (.cons f .nil)) .non λb=>by simp[zA0]};rw[if_neg g] at h;cases h
noncomputable def gPop(ys xs:Ds):Option (Ds×D):=match xs with|[]=>(ys[ys.length-1]?).map λd=>(ys.dropLast,d)|_=>none
theorem Q2.last(r:Q2 F H vs ys Ael)(h:ys[ys.length-1]?=some d):∃v B R,vs[vs.length-1]?=some v/\Q2 F H vs.dropLast ys.dropLast B/\Q8 F H v d R/\∀b,B.count b+R.count b<=Ael.count b:=by
 obtain⟨e,v,f,g,a,A1,B,A2,c,e2,o,i,j,k,l,m⟩:=r.split h;have n:a=[]:=by have:=congrArg Ob e2;rw[zAb,zAm,i] at this;cases a with|nil=>rfl|cons _ _=>simp at this;lia
 subst n;cases m;refine⟨v,A1,B,?_,?_,l,λb=>by rw[j];simp only[zA0,Op];lia⟩;{rw[c];simp};rw[c,e2,Oo,Oo];exact k
theorem qbb9:Jl rPop gPop:=by intro F H a c s Ael t f T g d Q i r j h q;match f,h with|[],h=>cases j;obtain⟨e,k,l⟩:=zA8.mp h;cases l;obtain⟨v,B,R,m,n,o,p⟩:=r.last k;exact⟨a,c,v,rfl,rfl,i,m,q _ v B R n o λb=>by have:=p b;lia⟩
end
section
variable{c:Vc}{X:Cx}{a b e o:Nu}{pf:PF}{tr:VTB}{es:List Nu}{r:V->List V->Hp->VK->Prop}{g:Ds->Ds->Option (Ds×D)}
noncomputable def D.own:D->Option Ds|.l false ys=>some ys|_=>none
theorem Mf{d:D}(h:d.own=some ys):d=.l false ys:=by cases d with|l z a=>(cases z with|false=>cases h;rfl|true=>cases h)|_=>cases h
def G7(g:Ds->Ds->Option (Ds×D))(i:Nat)(tr:VTB):VT:=λds Q xe=>((rdN i ds).bind D.own).isSome=true/\tr ds (λxs _ ds1=>orF ((rdN i ds1).bind D.own) λys=>orF (g ys xs) λz=>Q z.2 (ds1.set i (.l false z.1))) xe
theorem qK8(h:ds[i]?=some d):Bb ds i []=some d:=by unfold Bb;rw[h];rfl
theorem qI5(h:ds[i]?=some d):Bn ds i [] x=ds.set i x:=by unfold Bn;rw[h];rfl
theorem qaR6(s:T="list")(hm:Jl r g)(t:VAs c X es tr)(hi:i<σ.length)(q:Bj c (G7 g i tr) σ H Q):tBM X.K T r (Hs i) (Ig c tr) σ H Q:=by
 subst s;obtain⟨F,u,A,w,S,x,y,q⟩:=q;obtain⟨B,b⟩:=zB0.mp y;obtain⟨d0,C,f⟩:=zA1.mp b;cases Mf f;obtain⟨v,B0,o,D,_⟩:=S.name hi C;obtain⟨a,h,A0,rfl,j,_,_⟩:=D.lst_inv;refine⟨.ref a,o,.inl ⟨rfl,h,.inl (.inl j)⟩,F,u,A,w,S,x,t.m _ _ _ _ _ (λE ps G q I H1 F1 T A1 J pk S1 L M=>?_) (λ_ _ z=>z) q⟩;obtain⟨N,O,q⟩:=qa7.mp q;obtain⟨d1,e2,P⟩:=zA1.mp O;cases Mf P;obtain⟨⟨e,d⟩,U,q⟩:=qa7.mp q;obtain⟨p,hk⟩:=qn3.mp e2;have V:(σ++c.gv)[i]?=some (some (.ref a)):=by rw[zAu hi];exact o
 obtain⟨a2,k,Ael,W,l,Y,wr⟩:=qo1 S1 (qK8 p) V rfl;cases W;refine hm F1 H1 a k N Ael I E T e d Q l Y J U λn v B' R Z h2 h3=>?_;obtain⟨⟨A',S2,o2,s2⟩,kr⟩:=wr n e B' R T L Z h3;rw[qI5 p] at S2;exact q v _ F1 R A' (kr v d h2) S2 o2 (M.trans s2)
theorem qat5(e:VAs c X es tr):∀ds (Q Q':DK) (xe b:XKd),(∀d a,Q d a->Q' d a)->(∀x a,xe x a->b x a)->G7 g i tr ds Q xe->G7 g i tr ds Q' b:=λds Q Q' xe b f h=>P7 (e.m _ _ _ _ _ (λk l j=>qa5 λy=>qa5 λz=>f _ _) h)
theorem Q8.nW{F F':γ->Prop}{H H':Hp}{W:γ->Prop}{a:γ}{d0 e:D}{B:List γ}(r:Q8 F H (.ref a) d0 B)(k:Kp F H W F' H')(d:∀b∈B,¬W b)(f:d0.kids[n]?=some e):¬W a:=by cases r with|q c _=>intro w;obtain⟨o,e,m⟩:=k.wm a w;rw[c] at e;cases e;cases m|l c _=>exact d _ zA7|dct c _ _=>exact d _ zA7|ins c _ _=>exact d _ zA7|_=>cases (show (none:Option D)=some _ from f)
theorem qaq1(k:Kp F H W F' H'):∀{p:List Nat}{f:V}{d0 d:D}{B:List γ}{w l:V},(∀b∈B,¬W b)->Q8 F H f d0 B->d0.getP p=some d->Walk H f p w->Walk H' f p l->l=w:=by
 intro p;induction p with
 |nil=>intro f d0 d B w l _ _ _ h o;cases h;cases o;rfl|cons n p z=>
  intro f d0 d B w l q r g h o;unfold D.getP at g;cases i:d0.kids[n]? with
  |none=>rw[i] at g;cases g|some e=>
   rw[i] at g;obtain⟨x,A,E⟩:=h;obtain⟨M,s,t⟩:=o;obtain⟨y,B1,C1,v,G,I,_⟩:=r.kid i;obtain⟨N,B1',C1',j,_,_,_⟩:=(r.keep k q).kid i;cases A.fn v;cases s.fn j;have u:Lnk H' f n x:=by obtain⟨a,rfl,J⟩:=v;have m:=r.nW k q i;exact⟨a,rfl,J.imp (λ⟨c,e,h⟩=>⟨c,k.fr _ _ e m,h⟩) (Qy (λ⟨c,e,h⟩=>⟨c,k.fr _ _ e m,h⟩) (Qy (λ⟨c,e,h⟩=>⟨c,k.fr _ _ e m,h⟩) λ⟨C,K,c,e,h⟩=>⟨C,K,c,k.fr _ _ e m,h⟩))⟩
   cases u.fn j;exact z (B:=B1) (λb L=>q b (qb0.mpr (by have:=I b;have:=qb0.mp L;lia))) G g E t
def G8(g:Ds->Ds->Option (Ds×D))(pf:PF)(tr:VTB):VT:=λds Q xe=>orF (pf ds) λq=>orF ((Bb ds q.1 q.2).bind D.own) λys=>orF ds[q.1]? λa=>tr (ds.set q.1 .u) (λxs _ ds1=>orF (g ys xs) λz=>Q z.2 (Bn (ds1.set q.1 a) q.1 q.2 (.l false z.1))) xe
theorem qX8(e:VAs c X es tr):∀ds (Q Q':DK) (xe b:XKd),(∀d a,Q d a->Q' d a)->(∀x a,xe x a->b x a)->G8 g pf tr ds Q xe->G8 g pf tr ds Q' b:=λds Q Q' xe b f h=>qa5 λq=>qa5 λj=>qa5 λk=>e.m _ _ _ _ _ (λl n i=>qa5 λz=>f _ _) h
theorem qaA0(hm:Jl r g)(ha:VAs c X es tr):∀σ H Q,Bj c (G8 g pf tr) σ H Q->tBM X.K "list" r (Ki c pf) (Ig c tr) σ H Q:=by
 rintro σ H Q ⟨F,Y,A,xe,S,x,q⟩;obtain⟨⟨i,p⟩,e1,q⟩:=qa7.mp q;obtain⟨l,e2,q⟩:=qa7.mp q;obtain⟨dl,h,e4⟩:=zA1.mp e2;cases Mf e4;obtain⟨J,k,q⟩:=qa7.mp q;refine⟨F,Y,A,i,p,_,S,e1,h,D.noConfusion,λu w H1 n Z s0=>?_⟩;have S0:=S.same s0;obtain⟨a,L,Ael0,rfl,M,a0,_⟩:=qo1 S0 h n Z;refine⟨.inl ⟨rfl,L,.inl (.inl M)⟩,?_⟩;have N:J≠.u:=λz=>by subst z;have j:=h;unfold Bb at j;rw[k] at j;cases (qan4 j).2
 obtain⟨u',B,C,h1,I,h3,h4⟩:=S0.put1 k N;rw[n] at h1;cases h1;obtain⟨A1,q1,q2⟩:=h4 .u [] (Kp.same (F:=F) λ_ _ z=>z) (λ_ _ z=>z) (.u u);have O:Ok F H1 (B++A1):=S0.ok.count λb=>by rw[zA0,q2,h3];simp
 have s1:Ra F H A F H1 (B++A1):=⟨λb o e _=>s0 b o e,λb o e z=>by rw[zA0,q2];have:=h3 b;simp;lia,λ_ f=>f,λ_ _ _ _ f=>f⟩;have S1:Rb c F H1 σ (Y.set i .u) A1:=⟨q1,O.right,S.len,S.ag⟩;have P:Ra F H A F H1 A1:=s1.count λb=>by rw[zA0];lia
 refine⟨F,_,A1,xe,S1,x.step P,ha.m _ _ _ _ _ (λxs ps s q vs H2 F2 T2 A2 r2 pk S2 o2 s2=>?_) (λ_ _ z=>z) q⟩;obtain⟨⟨t,d⟩,e7,q⟩:=qa7.mp q;have kp:=s2.kp S1.ok S1.loc.cells;have hBout:∀b∈B,¬(A1.count b≠0):=λb hb hc=>by have:=O.sep b;rw[zA0] at this;have:=qb0.mp hb;lia
 have y:Q8 F2 H2 u J B:=I.keep kp hBout;obtain⟨o3,s3⟩:=s2.frame O I.cells o2;obtain⟨A3,k1,k2⟩:=qI4 S2.loc n y;have E:∀b,A3.count b<=B.count b+A2.count b:=k2;have o4:Ok F2 H2 (T2++A3):=o3.count λb=>by simp only[zA0];have:=E b;lia
 have s4:Ra F H A F2 H2 (T2++A3):=(s1.trans s3).count λb=>by simp only[zA0];have:=E b;lia
 have G:i<s.length:=by rw[<-S2.loc.len];exact(zA4.mp n).1
 have e8:Bb (s.set i J) i p=some (.l false l):=by unfold Bb at h ⊢;rw[k] at h;rw[zC1 G];exact h
 have T:Walk H2 u p (.ref a):=by
  obtain⟨w',_,_,w1,_,_,_⟩:=I.path (p:=p) (d:=.l false l) (by unfold Bb at h;rw[k] at h;exact h);cases Z.fn w1;obtain⟨w2,_,_,w3,_,_,_⟩:=y.path (p:=p) (d:=.l false l) (by unfold Bb at h;rw[k] at h;exact h);have:w2=.ref a:=by refine qaq1 (d:=.l false l) kp hBout I ?_ w1 w3;unfold Bb at h;rw[k] at h;exact h
  rw[<-this];exact w3
 obtain⟨a2,U,Ael,ea,V,rs,wr⟩:=qo1 (⟨k1,o4.right,S.len,S.ag⟩) e8 n T;cases ea;refine hm F2 H2 a U l Ael vs xs T2 t d Q V rs r2 e7 λW v B' R z1 z2 z3=>?_;obtain⟨⟨A',S4,o5,s5⟩,kr⟩:=wr W t B' R T2 o4 z1 z3;exact q v _ F2 R A' (kr v d z2) S4 o5 (s4.trans s5)
end
section
variable{c:Vc}{X:Cx}{a b e o:Nu}{pos cpos apos:Pos}{pf:PF}{tr:VTB}{es:List Nu}{fb:FV}{ob:Bool}{r:V->List V->Hp->VK->Prop}{g:Ds->Ds->Option (Ds×D)}{name:Str}{id:String}
theorem Gj(i:Nat)(k:Jl r g)(l:PlainAttrs "list")(slot:Slot "list" name id)(b:typeOf (.builtin id)=pure (.type "method_descriptor"))(hm:MtM X id r)(d:VAs c X (e::es) tr)(j:X.N[i]?=some x:=by rfl)(m:Vis X.env.scope x:=by first|exact Qx rfl|exact Qw (Qx rfl)|exact Qw (Qw rfl))(n:N' x:=by decide)(f:(x==("__classdict__" : Str))=false:=by decide)(hbase:Nc (.Name x p0) name X.env (eval (.Name x p0) X.env)=eval (.Name x p0) X.env:=by rfl)(a:((backTo cpos (M6 (e::es) X.env)).all (λx=>!x.1)&&(backToKw cpos (Ni [] X.env)).all (λx=>x.1.isSome)
     && decide ((e::es).length+([]:List Keyword).length+(if ([]:List Keyword).isEmpty then 0 else 1)<30))=true:=by rfl)(hline:(apos.endLine==cpos.line)=true:=by rfl)(o:M6 (e::es) X.env=(false,eval e X.env)::M6 es X.env:=by rfl)(hplain:(backTo cpos (M6 es X.env)).any (·.1)=false:=by rfl):VE c X (.Call (.Attribute (.Name x p0) name apos) (e::es) [] cpos) (G7 g i tr):=⟨λFm s σ H Q I q=>Jz l slot b hm (qo9 j m n f) d.h hbase a hline o hplain Fm s σ H Q I (qaR6 rfl k d (qn6 j Fm σ H s I) q),qat5 d⟩
theorem emutP(f:Jl r g)(i:PlainAttrs "list")(slot:Slot "list" name id)(b:typeOf (.builtin id)=pure (.type "method_descriptor"))(hm:MtM X id r)(j:VP c X o pf)(d:VAs c X (e::es) tr)(hbase:Nc o name X.env (eval o X.env)=eval o X.env:=by rfl)(a:((backTo cpos (M6 (e::es) X.env)).all (λx=>!x.1)&&(backToKw cpos (Ni [] X.env)).all (λx=>x.1.isSome)
     && decide ((e::es).length+([]:List Keyword).length+(if ([]:List Keyword).isEmpty then 0 else 1)<30))=true:=by rfl)(hline:(apos.endLine==cpos.line)=true:=by rfl)(k:M6 (e::es) X.env=(false,eval e X.env)::M6 es X.env:=by rfl)(hplain:(backTo cpos (M6 es X.env)).any (·.1)=false:=by rfl):VE c X (.Call (.Attribute o name apos) (e::es) [] cpos) (G8 g pf tr):=⟨PE.mono (Jz i slot b hm j.h d.h hbase a hline k hplain) (qaA0 f d),qX8 d⟩
theorem qbe7(e:Jl r g)(f:PlainAttrs "list")(slot:Slot "list" name id)(a:typeOf (.builtin id)=pure (.type "method_descriptor"))(hm:MtM X id r)(j:VP c X o pf)(hbase:Nc o name X.env (eval o X.env)=eval o X.env:=by rfl)(hline:(apos.endLine==cpos.line)=true:=by rfl):VE c X (.Call (.Attribute o name apos) [] [] cpos) (G8 g pf A6):=⟨PE.mono (qba4 f slot a hm j.h hbase hline) λσ H Q q=>by
   obtain⟨F,k,A,i,p,d,S,l,e2,b,q⟩:=qaA0 e Aa σ H Q q;refine⟨F,k,A,i,p,d,S,l,e2,b,λu w H1 m n s=>?_⟩;obtain⟨a,F2,t,A2,v,S2,x,q2⟩:=q u w H1 m n s;exact⟨a,q2 [] H1 F2 [] A2 .nil .nil S2 S2.ok Ra.refl⟩,qX8 (c:=c) (X:=X) Aa⟩
def Kn(pf:PF)(fb:FV):VTG:=λd ds Q=>orF (pf ds) λq=>orF ((Bb ds q.1 q.2).bind D.own) λys=>orF ((fb ds).bind D.asI) λk=>orF (ixN ys.length k) λn=>Q (Bn ds q.1 q.2 (.l false (ys.set n d)))
theorem Gu(y:VP c X o pf)(hi:VV c X b ob fb)(f:∀v,assign (.Subscript o b pos) X.env v=(do
 let ov<-holding [v] (eval o X.env)
 let iv<-holding [v,ov] (eval b X.env)
 standAt pos
 holding [v,ov,iv] (setItem ov iv v)
 release [v,ov,iv] []):=by intro _;rfl):VG c X (.Subscript o b pos) (Kn pf fb):=by
 refine⟨PG.mono (qba0 y.h hi.h qah6 f) λv σ H Q g=>?_,λd j Q Q' z=>qa5 λ_=>qa5 λ_=>qa5 λ_=>qa5 λ_=>z _⟩;obtain⟨F,j,A,T,d,r,S,B,q⟩:=g;obtain⟨⟨i,p⟩,C,q⟩:=qa7.mp q;obtain⟨V,e2,q⟩:=qa7.mp q;obtain⟨W,l,E⟩:=zA1.mp e2;cases Mf E;obtain⟨k,G,q⟩:=qa7.mp q;obtain⟨I,J,K⟩:=zA1.mp G;obtain⟨n,m,q⟩:=qa7.mp q;refine⟨F,j,A,i,p,_,S,C,l,D.noConfusion,λu w H1 L M s=>⟨F,j,A,I,S.same s,J,λY H2 B2 N t _=>?_⟩⟩;have e:=s.trans t;cases N.asI K;obtain⟨a,O,Ael,rfl,f,x,wr⟩:=qo1 (S.same e) l L (M.same t);obtain⟨B',P,R⟩:=x.setAt ((qam5 m).2.1) (r.same e);obtain⟨⟨A',S3,Z,U⟩,_⟩:=wr _ _ B' [] T (B.same e) P λb=>by have:=R b;simp;lia
 exact⟨a,O,k,n,rfl,rfl,f,by rw[x.len];exact m,q σ _ F A' S3 ((Ra.same e).trans U)⟩
def sAugV(f:Int->Int->Int)(pf:PF)(fb a:FV):VTS:=λe ds=>orF (pf ds) λq=>orF ((Bb ds q.1 q.2).bind D.own) λys=>orF ((fb ds).bind D.asI) λk=>0<=k/\orF ((ys[k.toNat]?).bind D.asI) λx=>orF ((a ds).bind D.asI) λy=>e.nx (Bn ds q.1 q.2 (.l false (ys.set k.toNat (.int (f x y)))))
theorem saug{op:Operator}{N:FV}{oe:Bool}(V:VP c X o pf)(hi:VV c X b ob fb)(W:VV c X e oe N)(Y:PIp X op (ipI f))(Z:∀n r d,augStore b n r d=(do holding [d,n,r] (setItem n r d);release [d,n,r] [];pure .next):=by intros;rfl):VS c X (.AugAssign (.Subscript o b tpos) op e pos) (sAugV f pf fb N):=by
 refine⟨PS.mono (qaO6 V.h hi.h qaJ2 W.h Y qah6 Z) λE σ H t=>?_,λen a0 s hl=>qa5 λ_=>qa5 λ_=>qa5 λ_=>P7 (qa5 λ_=>qa5 λ_=>hl.nx _)⟩;obtain⟨F,s,A,en,S,l,q⟩:=t;obtain⟨⟨i,p⟩,e1,q⟩:=qa7.mp q;obtain⟨ys,e2,q⟩:=qa7.mp q;obtain⟨dl,v,e4⟩:=zA1.mp e2;cases Mf e4;obtain⟨k,e5,O,q⟩:=qa7.mp q;obtain⟨dk,e6,e7⟩:=zA1.mp e5;obtain⟨x,e8,q⟩:=qa7.mp q;obtain⟨dx,P,z⟩:=zA1.mp e8;obtain⟨y,B,q⟩:=qa7.mp q;obtain⟨dy,C,G⟩:=zA1.mp B;refine⟨F,s,A,i,p,_,S,e1,v,D.noConfusion,λu w H1 Q R T=>⟨F,s,A,dk,S.same T,e6,λvk H2 B2 r2 I _=>?_⟩⟩;have g:=T.trans I;cases r2.asI e7;obtain⟨a,vs,Ael,rfl,J,K,_⟩:=qo1 (S.same g) v Q (R.same I);obtain⟨vx,Bx,hx,rx,_⟩:=K.get P;cases rx.asI z;refine⟨a,vs,k,_,rfl,rfl,J,O,hx,F,s,A,dy,S.same g,C,λvy H3 B3 r3 U _=>?_⟩;cases r3.asI G;have j:=g.trans U;have S3:=S.same j;obtain⟨a',L,Ael',ea,M,m,wr⟩:=qo1 S3 v Q ((R.same I).same U);cases ea;have hn:=(zA4.mp P).1;obtain⟨B',r4,h4⟩:=m.setAt hn (.int (f x y));obtain⟨⟨A',S4,o4,s4⟩,_⟩:=wr _ _ B' [] [] S3.ok r4 λb=>by have:=h4 b;simpa using this
 refine⟨x,y,rfl,rfl,a,L,k,k.toNat,rfl,rfl,M,?_,l.nx _ σ _ F A' q S4 ((Ra.same j).trans s4)⟩;rw[m.len];unfold ixN;rw[if_pos O,if_pos ⋯]
noncomputable def Hn(f:Str)(d:D):List (Str×D)->List (Str×D)|[]=>[(f,d)]|(g,x)::r=>if g=f then (g,d)::r else (g,x)::Hn f d r
end
section
variable{c:Vc}{X:Cx}{F:γ->Prop}{H:Hp}{W:St}{ds:Ds}{A T:List γ}{a b e o:Nu}{pos cpos apos:Pos}{te:VT}{pf:PF}{fa fb:FV}{oa ob:Bool}
theorem qX5:∀{a:List (Str×V)}{c:List (Str×D)}{B Tv:List γ}{f:Str}{v:V}{d:D},a.map (·.1)=c.map (·.1)->Q2 F H (a.map (·.2)) (c.map (·.2)) B->Q8 F H v d Tv->(Bp f v a).map (·.1)=(Hn f d c).map (·.1)/\∃B',Q2 F H ((Bp f v a).map (·.2)) ((Hn f d c).map (·.2)) B'/\∀b,B'.count b<=B.count b+Tv.count b
 |[],[],B,Tv,f,v,d,_,r,rv=>⟨rfl,Tv++[],.cons rv .nil,λb=>by simp⟩|[],_::_,_,_,_,_,_,h,_,_=>by simp at h|_::_,[],_,_,_,_,_,h,_,_=>by simp at h|(k,w)::r,(k',x)::r',B,Tv,f,v,d,h,rs,rv=>by
  have i:k=k':=by simp at h;exact h.1
  have e:r.map (·.1)=r'.map (·.1):=by simp at h;simpa using h.2
  subst i;cases rs with|@cons _ _ B1 _ _ B2 q t=>by_cases g:k=f;{simp only[Bp,Hn,if_pos g,zAy,e,true_and];exact⟨Tv++B2,.cons rv t,λb=>by simp only[zA0];lia⟩};obtain⟨j,B',l,m⟩:=qX5 (f:=f) e t rv;simp only[Bp,Hn,if_neg g,zAy,j,true_and];exact⟨B1++B',.cons q l,λb=>by simp only[zA0];have:=m b;lia⟩
def D.ownI(C:γ):D->Option (List (Str×D))|.ins false C' fs=>if C'=C then some fs else none|_=>none
theorem qaQ3{d:D}(h:d.ownI C=some fs):d=.ins false C fs:=by cases d with|ins z C' b=>(cases z with|false=>have h:(if C'=C then some b else none)=some fs:=h;by_cases a:C'=C;{rw[if_pos a] at h;cases h;rw[a]};rw[if_neg a] at h;cases h|true=>cases h)|_=>cases h
theorem qaQ2(S:Rb c F H W ds A)(h:Bb ds i p=some (.ins false C l))(E:(W++c.gv)[i]?=some (some u))(G:Walk H u p w):∃(a dx:γ)(d:List (Str×V))(Ael:List γ),w=.ref a/\H a=some (.ins C dx d)/\d.map (·.1)=l.map (·.1)/\Q2 F H (d.map (·.2)) (l.map (·.2)) Ael/\∀(fvs':List (Str×V))(fds':List (Str×D))(B' T:List γ),Ok F H (T++A)->fvs'.map (·.1)=fds'.map (·.1)->Q2 F H (fvs'.map (·.2)) (fds'.map (·.2)) B'->(∀b,B'.count b<=Ael.count b+T.count b)->∃A',Rb c F (upd H a (.ins C dx fvs')) W (Bn ds i p (.ins false C fds')) A'/\Ra F H (T++A) F (upd H a (.ins C dx fvs')) A':=by
 obtain⟨B,C0,r,I,J⟩:=S.place h D.noConfusion E G;cases r with
 |@ins a _ dx d _ Ael ha hk rs=>
 refine⟨a,dx,d,Ael,rfl,ha,hk,rs,λfvs' fds' B' T n q K v=>?_⟩;have m:∀b,A.count b=(if b=a then 1 else 0)+Ael.count b+C0.count b:=λb=>by
  rw[I,zAq];by_cases g:b=a
  .subst g;simp;lia
  simp[g,Ne.symm g]
 have s:=m a;rw[if_pos rfl] at s;have sa:=n.sep a;rw[zA0] at sa;have L:=v a;have y:¬F a:=λf=>by have:=n.fro a f;rw[zA0] at this;lia
 have k:=qQ5 (F:=F) (o':=.ins C dx fvs') ha rfl y;have rep':Q8 F (upd H a (.ins C dx fvs')) (.ref a) (.ins false C fds') (a::B'):=.ins qb7 q (K.keep k λb g w=>by subst w;have:=qb0.mp g;lia);obtain⟨A',M,q2⟩:=J _ _ k (λb g w=>by subst w;have:=qb0.mp g;lia) rep';have t:∀b,A'.count b=(if b=a then 1 else 0)+B'.count b+C0.count b:=λb=>by
  rw[q2,zAq];by_cases g:b=a
  .subst g;simp;lia
  simp[g,Ne.symm g]
 have j:∀b,A'.count b<=(T++A).count b:=λb=>by rw[zA0,t,m];have:=v b;lia
 have N:∀b,F b->∃o,upd H a (.ins C dx fvs') b=some o:=λb f=>by
  obtain⟨x,e⟩:=n.ex b f;exact⟨x,by rw[qc0 (show b≠a from λw=>y (w ▸ f))];exact e⟩
 refine⟨A',⟨M,⟨λb=>zAg (j b) (n.sep b),λb f=>by have:=n.fro b f;have:=j b;lia,N⟩,S.len,S.ag⟩,λb u e z=>?_,λb u e z=>by have:=j b;lia,λ_ f=>f,λ_ _ _ _ f=>f⟩;rw[qc0 λw=>?_]
 .exact e
 subst w;have:=m b;rw[if_pos rfl] at this;rw[zA0] at z;lia
def sFldV(C:γ)(f:Str)(te:VT)(pf:PF):VTS:=λe ds=>te ds (λd ds1=>orF (pf ds1) λq=>orF ((Bb ds1 q.1 q.2).bind (D.ownI C)) λfs=>fs.length<100/\e.nx (Bn ds1 q.1 q.2 (.ins false C (Hn f d fs)))) e.xe
theorem Iz(G:X.K=K)(I:VP c X o pf)(k:VE c X e te)(J:Cls K C)(L:qd1 K C f)(M:swapsWith e (some (.Attribute o f pos')) pos.line X.env=pure false:=by rfl):VS c X (.Assign [.Attribute o f pos'] e pos) (sFldV C f te pf):=by
 subst G;refine⟨PS.mono (qaZ5 I.h k.h M) λE W H n=>?_,λs N t r=>k.m _ _ _ _ _ (λd b=>qa5 λ_=>qa5 λ_=>P7 (r.nx _)) r.xe⟩;obtain⟨F,t,A,s,S,l,q⟩:=n;refine⟨F,t,A,s.xe,S,l.xe,k.m _ _ _ _ _ (λd b q v H1 F1 T A1 O S1 P Q=>?_) (λ_ _ z=>z) q⟩;obtain⟨⟨i,p⟩,R,q⟩:=qa7.mp q;obtain⟨U,e2,r,q⟩:=qa7.mp q;obtain⟨dl,x,V⟩:=zA1.mp e2;cases qaQ3 V;refine⟨F1,b,A1,i,p,_,S1,R,x,D.noConfusion,λu w H2 Y Z j=>?_⟩;obtain⟨a,dx,g,Ael,rfl,ha,y,rs,wr⟩:=qaQ2 (S1.same j) x Y Z;have B:g.length=U.length:=by have:=congrArg Ob y;simpa using this
 refine⟨a,C,dx,g,rfl,ha,J,L,⋯,?_⟩;obtain⟨m1,B',m2,m3⟩:=qX5 y rs (O.same j);obtain⟨A',S3,s3⟩:=wr _ _ B' T (P.same j) m1 m2 m3;exact l.nx _ W _ F1 A' q S3 (Q.trans ((Ra.same j).trans s3))
def B6(x:V):List V->Option Nat|[]=>none|y::r=>if eqV y x=true then some 0 else (B6 x r).map (· + 1)
theorem qan0{x:V}:∀{xs:List V}{j:Nat},B6 x xs=some j->∃z,xs[j]?=some z/\eqV z x=true/\∀m z',m<j->xs[m]?=some z'->eqV z' x=false
 |[],j,h=>by cases h|y::r,j,h=>by
  unfold B6 at h;by_cases a:eqV y x=true;{rw[if_pos a] at h;cases h;exact⟨y,rfl,a,λm z' c=>⋯⟩};rw[if_neg a] at h;obtain⟨k,d,rfl⟩:=zA8.mp h;obtain⟨z,e,f,g⟩:=qan0 d;refine⟨z,by simpa using e,f,λm z' c b=>?_⟩;cases m with
  |zero=>
   have:y=z':=by simpa using b
   subst this;simpa using a
  |succ m=>exact g m z' ⋯ (by simpa using b)
def K9(x y:D):Option D:=match x with|.l _ ys=>y.flat.bind λv=>(flats ys).bind λa=>(B6 v a).map λj=>.int (j:Nat)|_=>none
def La(x y:D):Option D:=match x with|.l _ ys=>y.flat.bind λv=>(flats ys).bind λa=>some (.int (a.countP (λz=>eqV z v):Nat))|_=>none
def rL1(r:V->List V->Hp->VK->Prop):R2:=λx y H Q=>r x [y] H Q
theorem qas9:A8 true (rL1 qaN8) K9:=by
 intro F H v w x y B d Q r h q;cases r with|@cons _ _ A _ _ _ b t=>cases t with|@cons _ _ A2 _ _ _ c _=>
 cases x with|l z s=>obtain⟨u,e,h⟩:=zA1.mp h;obtain⟨C,i,h⟩:=zA1.mp h;obtain⟨j,k,rfl⟩:=zA8.mp h;obtain⟨rfl,f⟩:=c.flat e;obtain⟨a,l,A3,rfl,m,n,_⟩:=b.lst_inv;obtain⟨rfl,g⟩:=n.flats i;obtain⟨z,o,q2,p⟩:=qan0 k;exact⟨a,l,w,j,z,rfl,rfl,m,f,g,o,q2,p,q _ H [] (.int _) (λ_ _ z=>z) New.nil⟩|_=>cases h
theorem qaQ6:A8 true (rL1 qaO0) La:=by
 intro F H v w x y B d Q r h q;cases r with|@cons _ _ A _ _ _ b t=>cases t with|@cons _ _ A2 _ _ _ c _=>
 cases x with|l z m=>obtain⟨n,e,h⟩:=zA1.mp h;obtain⟨o,i,h⟩:=zA1.mp h;cases h;obtain⟨rfl,f⟩:=c.flat e;obtain⟨a,j,A3,rfl,k,l,_⟩:=b.lst_inv;obtain⟨rfl,g⟩:=l.flats i;exact⟨a,j,w,rfl,rfl,k,f,g,q _ H [] (.int _) (λ_ _ z=>z) New.nil⟩|_=>cases h
theorem vbm{id:String}(C:A8 true (rL1 r) g)(E:PlainAttrs "list")(slot:Slot "list" name id)(i:typeOf (.builtin id)=pure (.type "method_descriptor"))(hm:MtM X id r)(G:VV c X o oa fa)(I:VV c X b ob fb)(J:∀x y d,g x y=some d->∃z ys,x=.l z ys)(hbase:Nc o name X.env (eval o X.env)=eval o X.env:=by rfl)(f:((backTo cpos (M6 [b] X.env)).all (λx=>!x.1)&&(backToKw cpos (Ni [] X.env)).all (λx=>x.1.isSome)
 && decide (([b]:List Nu).length+([]:List Keyword).length+(if ([]:List Keyword).isEmpty then 0 else 1)<30))=true:=by rfl)(hline:(apos.endLine==cpos.line)=true:=by rfl)(n:M6 [b] X.env=(false,eval b X.env)::M6 [] X.env:=by rfl)(hplain:(backTo cpos (M6 [] X.env)).any (·.1)=false:=by rfl):VV c X (.Call (.Attribute o name apos) [b] [] cpos) true (f2 g fa fb):=by refine⟨PE.mono (Jz E slot i hm G.h (qc6 I.h qk1 n) hbase f hline n hplain) λW H Q j=>?_⟩;obtain⟨F,p,A,d,S,e,q⟩:=j;obtain⟨x,y,K,L,s⟩:=qaK1.mp e;obtain⟨z,ys,rfl⟩:=J x y d s;refine⟨F,p,A,_,S,K,λv H1 B1 t k R=>?_⟩;obtain⟨a,M,A3,rfl,l,T,_⟩:=t.lst_inv;exact⟨.inl ⟨rfl,M,.inl (.inl l)⟩,F,p,A,y,S.same k,L,λw H2 B2 N m U=>(C F H2 _ w _ y _ d Q (Hw (t.same m) N) s λu H3 B3 O P B=>q u H3 B3 O ((k.trans m).trans P) λ_=>⟨B.one,λb o e=>B.new b o (m b o (k b o e))⟩)⟩
theorem qY8:∀x y d,K9 x y=some d->∃z ys,x=.l z ys:=λx y d h=>by cases x with|l z ys=>exact⟨z,ys,rfl⟩|_=>cases h
theorem qaB6:∀x y d,La x y=some d->∃z ys,x=.l z ys:=λx y d h=>by cases x with|l z ys=>exact⟨z,ys,rfl⟩|_=>cases h
end
def Ge(g:VTG)(t:VTS)(e:VEnds):List D->Ds->Prop|[],ds=>e.nx ds|x::xs,ds=>g x ds λds1=>t {e with nx:=Ge g t e xs,ct:=Ge g t e xs,bk:=e.nx} ds1
def whN(qc:VTT)(t:VTS)(e:VEnds):Nat->Ds->Prop|0,_=>False|n+1,ds=>qc ds (λb ds1=>if b=true then t {e with nx:=whN qc t e n,ct:=whN qc t e n,bk:=e.nx} ds1 else e.nx ds1) e.xe
def qaN3(qc:VTT)(t:VTS):VTS:=λe ds=>∃n,whN qc t e n ds
section
variable{c:Vc}{X:Cx}{a b e tg:Nu}{body:List Nv}{g:VTG}{t:VTS}{te:VT}{qc:VTT}{pos:Pos}
theorem qu0(d:VG c X tg g)(e:VSs c X body t){en b:VEnds}(a:en.Le b):∀(xs:List D) ds,Ge g t en xs ds->Ge g t b xs ds|[],ds=>a.nx ds|x::xs,ds=>d.m _ _ _ _ λf=>e.m _ _ _ ⟨qu0 d e a xs,a.rt,a.nx,qu0 d e a xs,a.xe⟩
theorem qQ6{cd:Nu}(e:VTe c X cd qc)(f:VSs c X body t){en d:VEnds}(a:en.Le d):∀(n:Nat) ds,whN qc t en n ds->whN qc t d n ds|0,ds=>id|n+1,ds=>e.m _ _ _ _ _ (λb g=>qH0 (f.m _ _ _ ⟨qQ6 e f a n,a.rt,a.nx,qQ6 e f a n,a.xe⟩) (a.nx _)) a.xe
theorem qay3(r:PassesOwn (Np X.prog X.w) X.A X.env X.xe)(g:VTe c X cd qc)(o:VSs c X body t):VS c X (.While cd body [] pos) (qaN3 qc t):=by refine⟨PS.mono (qaE9 r g.h o.h) λE σ H i=>?_,λd s e u ⟨n,q⟩=>⟨n,qQ6 g o u n e q⟩⟩;obtain⟨F,e,A,d,S,l,n,q⟩:=i;refine⟨λm σ H=>∃F e A,Rb c F H σ e A/\Lk c E F H A d/\whN qc t d m e,⟨n,F,e,A,S,l,q⟩,?_⟩;rintro m σ H ⟨F,e,A,S,l,q⟩;cases m with|zero=>exact q.elim|succ m=>refine⟨F,e,A,d.xe,S,l.xe,g.m _ _ _ _ _ (λb j q H1 F1 A1 S1 p=>?_) (λ_ _ z=>z) q⟩;cases b with|false=>rw[if_neg ∅] at q ⊢;exact l.nx _ _ _ _ _ q S1 p|true=>rw[if_pos rfl] at q ⊢;have f:=l.step p;refine⟨λσ' H'=>∃F' a A',Rb c F' H' σ' a A'/\Lk c E F' H' A' d/\whN qc t d m a,λσ' H' h=>⟨m,⋯,h⟩,F1,j,A1,{d with nx:=whN qc t d m,ct:=whN qc t d m,bk:=d.nx},S1,⟨?_,f.rt,f.nx,?_,f.xe⟩,q⟩;{exact λa σ' H' F' A' q S' k=>⟨F',a,A',S',f.step k,q⟩};exact λa σ' H' F' A' q S' k=>⟨F',a,A',S',f.step k,q⟩
theorem qaf8{N:St->Hp->Prop}{b:Ds->Prop}(i:VG c X tg g)(S:Rb c F H σ ds A)(l:Lk c E F H A en)(r:Q8 F H x y [])(h:∀a σ' H' F' A',b a->Rb c F' H' σ' a A'->Ra F H A F' H' A'->N σ' H')(q:g y ds λds1=>t {en with nx:=b,ct:=b,bk:=en.nx} ds1):Ih c g x σ H λσ2 H2=>G6 c t {E with nx:=N,ct:=N,bk:=E.nx} σ2 H2:=by refine⟨F,ds,A,[],y,r,S,S.ok,i.m _ _ _ _ (λds1 q σ1 H1 F1 A1 S1 d=>?_) q⟩;have e:=l.step d;exact⟨F1,ds1,A1,{en with nx:=b,ct:=b,bk:=en.nx},S1,⟨λa σ' H' F' A' q S' f=>h a σ' H' F' A' q S' (Ra.trans d f),e.rt,e.nx,λa σ' H' F' A' q S' f=>h a σ' H' F' A' q S' (Ra.trans d f),e.xe⟩,q⟩
noncomputable def D.lstOf:D->Option Ds|.l _ ys=>some ys|_=>none
theorem qD1{d:D}(h:d.lstOf=some ys):∃z,d=.l z ys:=by cases d with|l z a=>cases h;exact⟨z,rfl⟩|_=>cases h
theorem qK7:∀{ys:List D}{i:Nat}{y:D},D.imms ys=true->ys[i]?=some y->y.imm=true
 |[],i,y,_,h=>by simp at h|d::r,0,y,hm,h=>by
  have:d=y:=by simpa using h
  subst this;exact(zAp.mp hm).1
 |d::r,i+1,y,hm,h=>qK7 (zAp.mp hm).2 (by simpa using h)
theorem qo5{xs:List α}(h:xs[i]?=some x):xs.drop i=x::xs.drop (i+1):=by obtain⟨a,rfl⟩:=zA4.mp h;exact zC6 a
def sForL(te:VT)(g:VTG)(t:VTS):VTS:=λe ds=>te ds (λd ds1=>orF d.lstOf λys=>D.imms ys=true/\Ge g t e ys ds1) e.xe
theorem G9(Z:PassesOwn (Np X.prog X.w) X.A X.env X.xe)(hi:VE c X e te)(G:VG c X tg g)(P:VSs c X body t)(Q:X.calm=true:=by rfl)(I:∀v,M9 e X.env v=pure v:=by intro _;rfl):VS c X (.For tg e body [] pos) (sForL te g t):=by
 refine⟨PS.mono (qaF2 Z Q (qC0 hi.h) G.h P.h I) λE σ H J=>?_,λs a0 k R=>hi.m _ _ _ _ _ (λd n=>qa5 λu=>P7 (qu0 G P R u n)) R.xe⟩;obtain⟨F,k,A,s,S,l,q⟩:=J;refine⟨F,k,A,s.xe,S,l.xe,hi.m _ _ _ _ _ (λd n q v H1 F1 T A1 U S1 o1 s1=>?_) (λ_ _ z=>z) q⟩;obtain⟨u,ey,hm,qf⟩:=qa7.mp q;obtain⟨z,rfl⟩:=qD1 ey;obtain⟨a,C,Ael,rfl,j,rs,_⟩:=U.lst_inv;have K:Ra F H A F1 H1 A1:=s1.count λb=>by rw[zA0];lia
 refine⟨a,rfl,⟨C,.inl (.inl j)⟩,qan7 (xs:=C) (λi σ H=>∃F k A,Rb c F H σ k A/\Lk c E F H A s/\Q8 F H (.ref a) (.l z u) T/\H a=some (.l C)/\Ok F H (T++A)/\Ge g t s (u.drop i) k) ⟨F1,n,A1,S1,l.step K,U,j,o1,qf⟩ ?_ ?_ ?_⟩;{rintro i σ H _ ⟨F,k,A,S,l,r,j,o,q⟩;exact .inl (.inl j)}
 .rintro i x σ H hx ⟨F,k,A,S,l,r,j,o,q⟩;obtain⟨a',a1,Ael',ea,p,L,_⟩:=r.lst_inv;cases ea;rw[j] at p;cases p;obtain⟨y,B,V,W⟩:=L.getV hx;have:=W.imm (qK7 hm V);subst this;rw[qo5 V] at q;refine qaf8 G S l W (λM σ' H' F' A' q' S' N=>?_) q;have D:=N.kp S.ok S.loc.cells;have Y:∀b∈T,¬(A.count b≠0):=λb hb Q=>by have:=o.sep b;rw[zA0] at this;have:=qb0.mp hb;lia
  obtain⟨o',_⟩:=N.frame o r.cells S'.ok;have O:H' a=some (.l C):=by cases r with|l h _=>exact D.fr _ _ j (Y _ zA7)|lstZ h f _=>exact D.fr _ _ j λw=>D.wf _ w f
  exact⟨F',M,A',S',l.step N,(r.keep D Y),O,o',q'⟩
 rintro σ H ⟨F,k,A,S,l,r,j,o,q⟩;rw[rs.len,Ow] at q;exact l.nx _ _ _ _ _ q S Ra.refl
noncomputable def Bo(lo:Int)(n:Nat):List D:=(N7 n).map λ(i:Nat)=>.int (lo+(i:Int))
theorem qai4(h:i<n):(Bo lo n)[i]?=some (.int (lo+(i:Int))):=by unfold Bo;rw[zB9,List.getElem?_range h];rfl
theorem qay8(lo:Int)(n:Nat):(Bo lo n).length=n:=by simp[Bo]
noncomputable def I8(i:Int):Bool:=decide (-(2 ^ 62)<=i)&&decide (i<2 ^ 62)
theorem qal0{i:Int}(h:I8 i=true):-(2 ^ 62)<=i/\i<2 ^ 62:=by have:=zAp.mp h;exact⟨zAh this.1,zAh this.2⟩
theorem qaV3{E:B7}{en:VEnds}{F:γ->Prop}{H:Hp}{σ:St}{ds:Ds}{A:List γ}(d:VG c X tg g)(S:Rb c F H σ ds A)(l:Lk c E F H A en)(q:Ge g t en (Bo lo n) ds):∃W:Nat->Nat->St->Hp->Prop,(∃m,W 0 m σ H)/\∀i m σ H,W i m σ H->((Itr lo n).stop i H/\E.nx σ H)∨((Itr lo n).go i H/\∃N:St->Hp->Prop,(∀σ' H',N σ' H'->∃b,b<m/\W (i+1) b σ' H')/\∀x H',(Itr lo n).yld i H x H'->Ih c g x σ H' λσ2 H2=>G6 c t {E with nx:=N,ct:=N,bk:=E.nx} σ2 H2):=by refine qau8 (λi σ H=>∃F ds A,Rb c F H σ ds A/\Lk c E F H A en/\Ge g t en ((Bo lo n).drop i) ds) ⟨F,ds,A,S,l,q⟩ ?_ ?_;{rintro i σ H e ⟨F,ds,A,S,l,q⟩;rw[qo5 (qai4 e)] at q;exact qaf8 d S l (.int _) (λa σ' H' F' A' f S' h=>⟨F',a,A',S',l.step h,f⟩) q};rintro σ H ⟨F,ds,A,S,l,q⟩;rw[Oi (by rw[qay8];exact zA3 _)] at q;exact l.nx _ _ _ _ _ q S Ra.refl
noncomputable def Mg:Ds->Option Int|[.int j]=>some j|_=>none
theorem qaz9{xs:Ds}{j:Int}(h:Mg xs=some j):xs=[.int j]:=by unfold Mg at h;split at h;{cases h;rfl};cases h
def qas0(tr:VTA)(g:VTG)(t:VTS):VTS:=λe ds=>tr ds (λxs ds1=>orF (Mg xs) λj=>I8 j=true/\Ge g t e (Bo 0 j.toNat) ds1) e.xe
theorem Lb(s:PassesOwn (Np X.prog X.w) X.A X.env X.xe)(hm:X.mg "range"=none)(d:VOs c X [a] tr)(e:VG c X tg g)(k:VSs c X body t)(f:Gl X "range" := by rfl)(u:M6 [a] X.env=[(false,eval a X.env)]:=by rfl)(x:X.calm=true:=by rfl):VS c X (.For tg (.Call (.Name "range" p) [a] [] cpos) body [] pos) (qas0 tr g t):=by refine⟨PS.mono (qaF2 s x (qX7 f hm d.h u) e.h k.h) λE σ H i=>?_,λn y o r=>d.m _ _ _ _ _ (λB b=>qa5 λj=>P7 (qu0 e k r _ b)) r.xe⟩;obtain⟨F,o,A,n,S,l,q⟩:=i;refine⟨F,o,A,n.xe,S,l.xe,d.m _ _ _ _ _ (λB b q K H1 F1 T A1 C S1 D=>?_) (λ_ _ z=>z) q⟩;obtain⟨j,G,hm,I⟩:=qa7.mp q;cases qaz9 G;obtain⟨v,rfl,J⟩:=C.one_inv;cases J;have:=qal0 hm;exact⟨j,rfl,this.1,this.2,qaV3 e S1 (l.step D) I⟩
def tFzV(te:VT):VT:=λds Q xe=>te ds (λd ds1=>Q d.fz ds1) xe
theorem Bl(h:VE c X e te):VE c X e (tFzV te):=by refine⟨PE.mono h.h λσ H Q a=>?_,λi Q Q' j n o p=>h.m _ _ _ _ _ (λd g=>o _ _) p⟩;obtain⟨F,i,A,j,S,x,q⟩:=a;refine⟨F,i,A,j,S,x,h.m _ _ _ _ _ (λd g q v H1 F1 T A1 k S1 r s=>?_) (λ_ _ z=>z) q⟩;obtain⟨l,t⟩:=share (C:=A1) r (λb=>by rw[zA0]) k.cells (λb=>rfl);exact q v H1 _ [] A1 (k.fz (λb f=>.inl f) λb u=>.inr u) ⟨(S1.loc.keep (Kp.more λb f=>Qx f) λ_ _ z=>z),l,S1.len,S1.ag⟩ l (s.trans t)
end
def bk1(i:Nat)(p:List Nat)(w:V)(d0:D)(ds:Ds):Option Ds:=Aq [.pl i p w] [d0] ds
def Ko(i:Nat)(p:List Nat)(w:V)(d0:D)(e:VEnds):VEnds where
 nx ds:=orF (bk1 i p w d0 ds) e.nx
 rt d ds:=orF (bk1 i p w d0 ds) (e.rt d)
 bk ds:=orF (bk1 i p w d0 ds) e.bk
 ct ds:=orF (bk1 i p w d0 ds) e.ct
 xe x ds:=orF (bk1 i p w d0 ds) (e.xe x)
section
variable{c:Vc}{X:Cx}{a b e tg o:Nu}{body:List Nv}{g:VTG}{t:VTS}{pos:Pos}{pf:PF}{F F1:γ->Prop}{H H1:Hp}{σ:St}{ds ds1:Ds}{A A1 B:List γ}{E:B7}{en:VEnds}
theorem qt6{a:Ds}(f:Ok F1 H1 (B++A1))(S1:Rb c F1 H1 σ ds1 A1)(r:Q8 F1 H1 w d0 B)(S':Rb c F' H' σ' a A')(s':Ra F1 H1 A1 F' H' A')(h:bk1 i p w d0 a=some d):∃A2,Rb c F' H' σ' d A2/\Ok F' H' (B++A')/\Ra F1 H1 (B++A1) F' H' (B++A')/\∀b,A2.count b<=B.count b+A'.count b:=by
 obtain⟨g,j⟩:=s'.frame f r.cells S'.ok;have k:Q8 F' H' w d0 B:=r.keep (s'.kp S1.ok S1.loc.cells) λb l e=>by have:=f.sep b;rw[zA0] at this;have:=qb0.mp l;lia
 obtain⟨A2,m,q2⟩:=qx9 (pls:=[.pl i p w]) (vs:=[w]) (more:=[]) (ys:=[d0]) (.so .nil) (.cons k .nil) S'.loc h;have e:∀b,A2.count b<=B.count b+A'.count b:=λb=>by have:=q2 b;simp only[zAa] at this;exact this
 exact⟨A2,⟨m,g.count λb=>by rw[zA0];exact e b,S'.len,S'.ag⟩,g,j,e⟩
theorem Lk.lend{p:List Nat}{d0:D}(l:Lk c E F H A en)(k:Ra F H A F1 H1 (B++A1))(j:Ok F1 H1 (B++A1))(S1:Rb c F1 H1 σ ds1 A1)(r:Q8 F1 H1 w d0 B):Lk c E F1 H1 A1 (Ko i p w d0 en) where
 nx ds' σ' H' F' A' q S' s':=by
  obtain⟨a,f,q⟩:=qa7.mp q;obtain⟨A2,S2,n,h,g⟩:=qt6 j S1 r S' s' f;exact l.nx _ _ _ _ A2 q S2 ((k.trans h).count λb=>by rw[zA0];exact g b)
 bk ds' σ' H' F' A' q S' s':=by
  obtain⟨a,f,q⟩:=qa7.mp q;obtain⟨A2,S2,n,h,g⟩:=qt6 j S1 r S' s' f;exact l.bk _ _ _ _ A2 q S2 ((k.trans h).count λb=>by rw[zA0];exact g b)
 ct ds' σ' H' F' A' q S' s':=by
  obtain⟨a,f,q⟩:=qa7.mp q;obtain⟨A2,S2,n,h,g⟩:=qt6 j S1 r S' s' f;exact l.ct _ _ _ _ A2 q S2 ((k.trans h).count λb=>by rw[zA0];exact g b)
 xe x ds' σ' e H' F' A' q rx S' s':=by
  obtain⟨a,f,q⟩:=qa7.mp q;obtain⟨A2,S2,n,h,g⟩:=qt6 j S1 r S' s' f;exact l.xe x a σ' e H' F' A2 q rx S2 ((k.trans h).count λb=>by rw[zA0];exact g b)
 rt d ds' v σ' H' F' T A' q rv S' oT s':=by
  obtain⟨a,f,q⟩:=qa7.mp q;have o:Ra F1 H1 A1 F' H' A':=s'.count λb=>by rw[zA0];lia
  obtain⟨A2,S2,n,h,g⟩:=qt6 j S1 r S' o f;obtain⟨s,t⟩:=s'.frame j r.cells oT;have m:∀b,(T++A2).count b<=(B++(T++A')).count b:=λb=>by simp only[zA0];have:=g b;lia
  exact l.rt d a v σ' H' F' T A2 q rv S2 (s.count m) ((k.trans t).count m)
theorem qaS0{p:List Nat}{d0:D}{en a:VEnds}(b:en.Le a):(Ko i p w d0 en).Le (Ko i p w d0 a):=⟨λc=>qa5 b.nx,λd c=>qa5 (b.rt d),λc=>qa5 b.bk,λc=>qa5 b.ct,λx c=>qa5 (b.xe x)⟩
structure Held(F:γ->Prop)(H:Hp)(a:γ)(vs:List V)(z:Bool)(ys:Ds)(T A:List γ):Prop where
 r:Q8 F H (.ref a) (.l z ys) T
 h:H a=some (.l vs)
 o:Ok F H (T++A)
theorem Held.step{a:γ}{e:Ds}(h:Held F H a vs z ys T A)(S:Rb c F H σ ds A)(S':Rb c F' H' σ' e A')(s':Ra F H A F' H' A'):Held F' H' a vs z ys T A':=by
 obtain⟨r,g,o⟩:=h;have d:=s'.kp S.ok S.loc.cells;have i:∀b∈T,¬(A.count b≠0):=λb j k=>by have:=o.sep b;rw[zA0] at this;have:=qb0.mp j;lia
 refine⟨r.keep d i,?_,(s'.frame o r.cells S'.ok).1⟩;cases r with|l h _=>exact d.fr _ _ g (i _ zA7)|lstZ h f _=>exact d.fr _ _ g λw=>d.wf _ w f
theorem Held.get{a:γ}(h:Held F H a vs z ys T A)(hm:D.imms ys=true)(f:vs[i]?=some x):∃y,ys[i]?=some y/\Q8 F H x y []:=by obtain⟨k,g,Ael',j,b,c,_⟩:=h.r.lst_inv;cases j;have:=h.h;rw[b] at this;cases this;obtain⟨y,B,d,e⟩:=c.getV f;have:=e.imm (qK7 hm d);subst this;exact⟨y,d,e⟩
theorem Held.len{a:γ}(h:Held F H a vs z ys T A):vs.length=ys.length:=by obtain⟨f,d,Ael',e,b,c,_⟩:=h.r.lst_inv;cases e;have:=h.h;rw[b] at this;cases this;exact c.len
theorem qV5{a:γ}(j:VG c X tg g)(S:Rb c F H σ ds A)(l:Lk c E F H A en)(b:Held F H a vs z ys T A)(hm:D.imms ys=true)(q:Ge g t en ys ds):∃W:Nat->Nat->St->Hp->Prop,(∃m,W 0 m σ H)/\∀i m σ H,W i m σ H->((Itl K a).stop i H/\E.nx σ H)∨((Itl K a).go i H/\∃N:St->Hp->Prop,(∀σ' H',N σ' H'->∃e,e<m/\W (i+1) e σ' H')/\∀x H',(Itl K a).yld i H x H'->Ih c g x σ H' λσ2 H2=>G6 c t {E with nx:=N,ct:=N,bk:=E.nx} σ2 H2):=by refine qan7 (xs:=vs) (λi σ H=>∃F ds A,Rb c F H σ ds A/\Lk c E F H A en/\Held F H a vs z ys T A/\Ge g t en (ys.drop i) ds) ⟨F,ds,A,S,l,b,q⟩ ?_ ?_ ?_;{rintro i σ H _ ⟨F,ds,A,S,l,b,q⟩;exact .inl (.inl b.h)};{rintro i x σ H k ⟨F,ds,A,S,l,b,q⟩;obtain⟨y,n,o⟩:=b.get hm k;rw[qo5 n] at q;exact qaf8 j S l o (λd σ' H' F' A' p S' f=>⟨F',d,A',S',l.step f,b.step S S' f,p⟩) q};rintro σ H ⟨F,ds,A,S,l,b,q⟩;rw[b.len,Ow] at q;exact l.nx _ _ _ _ _ q S Ra.refl
def sForP(pf:PF)(g:VTG)(t:VTS):VTS:=λe ds=>orF (pf ds) λq=>orF (Bb ds q.1 q.2) λd=>orF d.lstOf λys=>D.imms ys=true/\∀w,Ge g t (Ko q.1 q.2 w d e) ys (Bn ds q.1 q.2 (.hole w))
theorem sforP(J:PassesOwn (Np X.prog X.w) X.A X.env X.xe)(hi:VP c X o pf)(j:VG c X tg g)(y:VSs c X body t)(K:X.calm=true:=by rfl)(k:∀v,M9 o X.env v=pure v:=by intro _;rfl):VS c X (.For tg o body [] pos) (sForP pf g t):=by
 refine⟨PS.mono (qaF2 J K (qC0 hi.h) j.h y.h k) λE σ H m=>?_,λL M n N=>qa5 λq=>qa5 λd=>qa5 λO=>P7 λh w=>qu0 j y (qaS0 N) _ _ (h w)⟩;obtain⟨F,n,A,L,S,l,q⟩:=m;obtain⟨⟨i,p⟩,P,q⟩:=qa7.mp q;obtain⟨d,e2,q⟩:=qa7.mp q;obtain⟨O,Q,R,q⟩:=qa7.mp q;obtain⟨z,rfl⟩:=qD1 Q;refine⟨F,n,A,i,p,_,S,P,e2,D.noConfusion,λu w H1 T U s=>?_⟩;obtain⟨B,C,r,G,V⟩:=(S.same s).place e2 D.noConfusion T U;obtain⟨A1,W,q2⟩:=V (.hole w) [] (Kp.same λ_ _ z=>z) (λ_ _ z=>z) (.hole w);have x:Ok F H1 (B++A1):=(S.same s).ok.count λb=>by rw[zA0,q2,G];simp
 have Y:Ra F H A F H1 (B++A1):=⟨λb o e _=>s b o e,λb o e z=>by rw[zA0,q2];have:=G b;simp;lia,λ_ f=>f,λ_ _ _ _ f=>f⟩;have S1:Rb c F H1 σ (Bn n i p (.hole w)) A1:=⟨W,x.right,S.len,S.ag⟩;obtain⟨a,Z,Ael,rfl,I,rs,_⟩:=r.lst_inv;exact⟨a,rfl,⟨Z,.inl (.inl I)⟩,qV5 j S1 (l.lend Y x S1 r) ⟨r,I,x⟩ R (q _)⟩
noncomputable def enD(ys:Ds):List D:=ys.zipIdx.map λp=>.q [.int (p.2:Int),p.1]
theorem qaV8(h:ys[i]?=some y):(enD ys)[i]?=some (.q [.int (i:Int),y]):=by unfold enD;rw[zB9,List.getElem?_zipIdx,h];simp
theorem qaK7(ys:Ds):(enD ys).length=ys.length:=by simp[enD]
end
noncomputable def fin(W:Nat->Bool):Nat->Ds->Ds->Ds|k,d::r,d'::r'=>(if W k=true then d' else d)::fin W (k+1) r r'|_,_,_=>[]
noncomputable def Js(W:Nat->Bool):Nat->Ds->Bool|_,[]=>true|k,d::r=>(W k||d.imm)&&Js W (k+1) r
def qaw0(W:Nat->Bool)(ds:Ds)(Q:DK)(xe:XKd):VEnds where
 nx ds':=Q .non (fin W 0 ds ds')
 rt d ds':=Q d (fin W 0 ds ds')
 bk _:=False
 ct _:=False
 xe x ds':=xe x (fin W 0 ds ds')
section
variable{F F':γ->Prop}{H H':Hp}
theorem qbe4(q:Kp F H Wr F' H'):∀{vs:List V}{ds:Ds}{A:List γ}{k:Nat}{w':List (Option V)}{a:Ds}{A':List γ},Q2 F H vs ds A->Js W k ds=true->Locs F' H' w' a A'->vs.length<=w'.length->(∀i,i<vs.length->W (k+i)=true->w'[i]?=(vs.map some)[i]?)->∃A2,Q2 F' H' vs (fin W k ds a) A2/\∀b,A2.count b<=A'.count b:=by
 intro vs;induction vs with
 |nil=>intro ds A k w' a A' r g L n l;cases r;exact⟨[],by cases a<;>exact .nil,λb=>by simp⟩|cons v vs s=>
  intro ds A k w' a A' r g L n l;cases r with
  |@cons _ d B _ ds B2 r1 t=>
   have g:=zAp.mp g;have step:∀{σ2:List (Option V)}{f:Ds}{A2:List γ}(o:Option V),w'=o::σ2->Locs F' H' σ2 f A2->∃A3,Q2 F' H' vs (fin W (k+1) ds f) A3/\∀b,A3.count b<=A2.count b:=λ{σ2 f A2} o e L2=>by subst e;refine s t g.2 L2 (by simpa using n) λi j c=>?_;have:=l (i+1) (by simpa using j) (by rw[<-c];congr 1;lia);simpa using this
   cases L with
   |nil=>simp at n|no L2=>
    obtain⟨A3,m,q2⟩:=step none rfl L2;by_cases c:W k=true;{have:=l 0 (by simp) (by simpa using c);simp at this};have j:d.imm=true:=by rcases Bool.or_eq_true_iff.mp g.1 with h|h;{exact absurd h c};exact h
    have:=r1.imm j;subst this;refine⟨[]++A3,?_,λb=>by simpa using q2 b⟩;show Q2 F' H' (v::vs) ((if W k=true then _ else d)::_) _;rw[if_neg c];exact .cons (r1.keep q λb p=>by cases p) m
   |@so v' d' B' σ2 f A2 rr L2=>
    obtain⟨A3,m,q2⟩:=step (some v') rfl L2;by_cases c:W k=true;{have:=l 0 (by simp) (by simpa using c);simp at this;subst this;refine⟨B'++A3,?_,λb=>by simp only[zA0];have:=q2 b;lia⟩;show Q2 F' H' (v'::vs) ((if W k=true then d' else d)::_) _;rw[if_pos c];exact .cons rr m};have j:d.imm=true:=by rcases Bool.or_eq_true_iff.mp g.1 with h|h;{exact absurd h c};exact h
    have:=r1.imm j;subst this;refine⟨[]++A3,?_,λb=>by simp only[zB4,zA0];have:=q2 b;lia⟩;show Q2 F' H' (v::vs) ((if W k=true then d' else d)::_) _;rw[if_neg c];exact .cons (r1.keep q λb p=>by cases p) m
theorem Q2.locs(r:Q2 F H vs ds A):Locs F H (vs.map some) ds A:=by induction vs generalizing ds A with|nil=>cases r;exact .nil|cons v vs a=>cases r with|cons h t=>exact .so h (a t)
theorem qK5:∀n:Nat,Locs F H (N8 n none) (N8 n .u) []|0=>.nil|n+1=>.no (qK5 n)
end
structure FunE(K:P')(x qual:Str)(st:Nv)(f:γ)(fd:ε):Prop where
 ex:∃(oc:V')(od:Option γ)(dV kV doc pm:V')(an:Option γ)(cdv ct:V')(osl:Array (Option V')),
  fd=W.fnOf x qual (qg2 st) (qd9 st) (qa4 st) dV kV doc pm an cdv ct/\K.lookup f=some ⟨oc,od,.func fd,osl⟩/\W.codeIn K cdv qual=true
theorem FunE.of(F:Fun K x qual st f fd):FunE K x qual st f fd :=
 by obtain⟨g,h,kV,a,i,j,b,k,c,e,l,d⟩:=F.ex;exact⟨⟨g,h,.none,kV,a,i,j,b,k,c,e,l,d⟩⟩
theorem FunE.okX{P:Nq}{w:Nt}(F:FunE K x qual st f fd)(S:qa9 N ps (qa4 st))(len:∀vs H Q E,sp vs H Q E->vs.length=ps.length)(hbody:∀(a:V')(A:Nr)(outer:List Env)(s:δ)(H:Hp)(vs:List V)(Q:VK)(E:XK),Rc cm k (A.deeper (PyProof.Rows.envOfC qual (qa4 st) s.heap.objs.size f a))->sp vs H Q E->∃t,PSs (Gz cm (CX1 P w) P w K mg base N qual (qa4 st) f a A outer s H E) (qd9 st) t/\t {nx:=λ_ H'=>Q .non H',rt:=Q} (L2.start N vs) H):Gg cm P w K mg base (CX1 P w) (k+1) f fd ps sp:=by obtain⟨i,j,l,kV,d,m,n,a,o,e,rfl,g,b⟩:=F.ex;exact Lx g b S len λA outer s H vs Q E h c=>hbody a A outer s H vs Q E h c
theorem VFn.mkE{P:Nq}{w:Nt}(Fu:FunE K x qual st f fd)(Sc:qa9 N ps (qa4 st))(W:Nat->Bool)(G:Fq s)(j:∀ds Q xe,s ds Q xe->ds.length=ps.length)(n:∀ds Q xe,s ds Q xe->Js W 0 ds=true)(hbody:∀(g:V')(A:Nr)(outer:List Env)(B:δ)(H:Hp)(E:XK)(av:List (Option V)),Rc cm k (A.deeper (PyProof.Rows.envOfC qual (qa4 st) B.heap.objs.size f g))->∃t,VSs ⟨λ_=>E,W,av,[]⟩ (Gz cm (CX1 P w) P w K mg base N qual (qa4 st) f g A outer B H E) (qd9 st) t/\∀ds Q xe,s ds Q xe->t (qaw0 W ds Q xe) (ds++N8 (N.length-ds.length) .u)):G0 cm P w K mg base (k+1) f fd ps s:=by
 refine⟨Fu.okX Sc (λm H Q E ⟨F,ds,A,r,o,h⟩=>by rw[r.len];exact j _ _ _ h) λg Ar outer B H m Q E I C=>?_,G⟩;obtain⟨F,ds,A,r,o,h⟩:=C;obtain⟨t,J,L⟩:=hbody g Ar outer B H E (L2.start N m) I;have X:=j _ _ _ h;have M:=n _ _ _ h;have Y:ps.length<=N.length:=by have:=congrArg Ob Sc.pre;rw[zBp] at this;lia
 have L0:Locs F H (L2.start N m++[]) (ds++N8 (N.length-ds.length) .u) A:=by rw[zAa];unfold L2.start;rw[r.len];have:=r.locs.append (qK5 (F:=F) (H:=H) (N.length-ds.length));rwa[zAa] at this
 have l:∀{Z':St}{H':Hp}{F':γ->Prop}{a:Ds}{A' A2:List γ},Rb ⟨λ_=>E,W,L2.start N m,[]⟩ F' H' Z' a A'->Ra F H A F' H' A2->∃A3,Q2 F' H' m (fin W 0 ds a) A3/\∀b,A3.count b<=A'.count b:=λ{Z' H' F' a A' A2} S' c=>by have hlen':=S'.len;simp only[zAa] at hlen';refine qbe4 (c.kp o r.cells) r M (by have:=S'.loc;simpa using this) ?_ λi D O=>?_;{rw[<-hlen'];unfold L2.start;simp};have:=S'.ag i (by simpa using O);simp only[zAa] at this;rw[this];show (L2.start N m)[i]?=_;unfold L2.start;rw[zAu (by simpa using D)]
 refine⟨_,J.h,F,_,A,qaw0 W ds _ _,(⟨L0,o,by simp,λi _=>by simp⟩),⟨?_,?_,λ_ _ _ _ _ z=>Qv z,λ_ _ _ _ _ z=>Qv z,?_⟩,L _ _ _ h⟩
 .intro a Z' H' F' A' q S' c;obtain⟨A3,p,q2⟩:=l S' c;have u:∀b,([]++A3).count b<=A'.count b:=λb=>by simpa using q2 b
  exact q .non H' F' [] A3 .non p (S'.ok.count u) (c.count u)
 .intro d a v Z' H' F' T A' q R S' S c;obtain⟨A3,p,q2⟩:=l S' c;have u:∀b,(T++A3).count b<=(T++A').count b:=λb=>by simp only[zA0];have:=q2 b;lia
  exact q v H' F' T A3 R p (S.count u) (c.count u)
 intro y a Z' e H' F' A' q U S' c;obtain⟨A3,p,q2⟩:=l S' c;exact q e H' F' A3 U p (S'.ok.count q2) (c.count q2)
theorem VFn.mk'{P:Nq}{w:Nt}(Fu:Fun K x qual st f fd)(Sc:qa9 N ps (qa4 st))(W:Nat->Bool)(e:Fq s)(a:∀ds Q xe,s ds Q xe->ds.length=ps.length)(b:∀ds Q xe,s ds Q xe->Js W 0 ds=true)(hbody:∀(c:V')(A:Nr)(outer:List Env)(d:δ)(H:Hp)(E:XK)(av:List (Option V)),Rc cm k (A.deeper (PyProof.Rows.envOfC qual (qa4 st) d.heap.objs.size f c))->∃t,VSs ⟨λ_=>E,W,av,[]⟩ (Gz cm (CX1 P w) P w K mg base N qual (qa4 st) f c A outer d H E) (qd9 st) t/\∀ds Q xe,s ds Q xe->t (qaw0 W ds Q xe) (ds++N8 (N.length-ds.length) .u)):G0 cm P w K mg base (k+1) f fd ps s:=VFn.mkE (FunE.of Fu) Sc W e a b hbody
def Bw:List (Option Nat)->Ds->Ds×Ds|[],ds=>([],ds)|none::r,ds=>(.u::(Bw r ds).1,(Bw r ds).2)|some j::r,ds=>((ds[j]?).getD .u::(Bw r (ds.set j .u)).1,(Bw r (ds.set j .u)).2)
def Ho:List (Option Nat)->Ds->Ds->Ds|none::r,_::i,o=>Ho r i o|some j::r,d::i,o=>Ho r i (o.set j d)|_,_,o=>o
def Hh(g:VTG)(qf:VTT)(te:VT)(K:Ds->Ds->Prop):List D->Ds->Ds->Prop|[],acc,a=>K acc a|x::xs,acc,a=>g x a λι1=>qf ι1 (λb ι2=>if b=true then te ι2 (λd ι3=>acc.length<big/\Hh g qf te K xs (acc++[d]) ι3) (λ_ _=>False) else Hh g qf te K xs acc ι2) (λ_ _=>False)
noncomputable def capW(src:List (Option Nat)):Nat->Bool:=λi=>match src[i]? with|some (some _)=>true|_=>false
abbrev cIn(src:List (Option Nat))(av:List (Option V)):Vc:=⟨λ_ _ _ _=>False,capW src,av,[]⟩
structure VF(c:Vc)(X:Cx)(ifs:List Nu)(t:VTT):Prop where
 h:PFs X ifs (G4 c t)
 m:∀ds (Q Q':Bool->Ds->Prop) (xe xe':XKd),(∀d ds',Q d ds'->Q' d ds')->(∀x ds',xe x ds'->xe' x ds')->t ds Q xe->t ds Q' xe'
def qYes:VTT:=λds Q _=>Q true ds
theorem Hq:VF c X [] qYes:=⟨λFm s f H Q I ⟨F,a,A,b,S,x,q⟩=>qaP2 Fm s f H Q I (q H F A S Ra.refl),λa Q Q' b d e _=>e _ _⟩
theorem Hr(h:VTe c X e t):VF c X [e] t:=⟨qba1 h.h,h.m⟩
section
variable{F F':γ->Prop}{H H':Hp}
theorem qag1:∀{src:List (Option Nat)}{J a:List (Option V)}{ds:Ds}{A:List γ},Locs F H (J++a) ds A->(∀j,some j∈src->j<J.length)->∃Ai Ao,Locs F H (Fy J src) (Bw src ds).1 Ai/\Locs F H (J++a) (Bw src ds).2 Ao/\∀b,A.count b=Ai.count b+Ao.count b
 |[],J,a,ds,A,L,_=>⟨[],A,.nil,L,λb=>by simp⟩|none::r,J,a,ds,A,L,h=>by obtain⟨Ai,Ao,f,q2,g⟩:=qag1 L λj c=>h j (zA6 _ c);exact⟨Ai,Ao,.no f,q2,g⟩|some j::r,J,a,ds,A,L,h=>by
  have c:=h j zA7;have t:=L.len;rw[zAb] at t;obtain⟨z,e⟩:∃d,ds[j]?=some d:=⟨_,zC8 ⋯⟩;obtain⟨σ1,o,σ2,i,k,A1,B,A2,m,e2,u,w,x,n,p,q⟩:=L.split e;have s:(J++a)[j]?=some o:=by rw[m];exact qH1 u
  rw[zAu c] at s;have y:ds.set j .u=i++.u::k:=by have:=congrArg (λl=>l.set j .u) e2;rw[this,qs7 w]
  have L':Locs F H (J++a) (ds.set j .u) (A1++A2):=by rw[m,y];cases p with|no=>exact n.append (.no q)|@so v _ _ _=>exact n.append (.so (.u v) q)
  obtain⟨Ai,Ao,f,q2,g⟩:=qag1 L' λj c=>h j (zA6 _ c);refine⟨B++Ai,Ao,?_,q2,λb=>by rw[x];have:=g b;simp only[zA0] at *;lia⟩;show Locs F H (((J[j]?).getD none)::Fy J r) ((ds[j]?).getD .u::_) _;rw[s,e];exact Locs.cons p f
theorem qO9:∀{src:List (Option Nat)}{J c J':List (Option V)}{K o:Ds}{Ai Ao:List γ},Locs F H J' K Ai->Locs F H (J++c) o Ao->(∀j,some j∈src->j<J.length)->(∀(i j:Nat),src[i]?=some (some j)->J'[i]?=some ((J[j]?).getD none))->J'.length=src.length->∃A',Locs F H (J++c) (Ho src K o) A'/\∀b,A'.count b<=Ai.count b+Ao.count b
 |[],J,c,J',K,o,Ai,Ao,L,Lo,_,_,_=>⟨Ao,by cases K<;>exact Lo,λb=>⋯⟩|none::r,J,c,J',K,o,Ai,Ao,L,Lo,h,k,f=>by cases L with|nil=>simp at f|no L2=>obtain⟨A',g,q2⟩:=qO9 L2 Lo (λj a=>h j (zA6 _ a)) (λi j e=>by simpa using k (i+1) j (by simpa using e)) (by simpa using f);exact⟨A',g,q2⟩|so w L2=>obtain⟨A',g,q2⟩:=qO9 L2 Lo (λj a=>h j (zA6 _ a)) (λi j e=>by simpa using k (i+1) j (by simpa using e)) (by simpa using f);exact⟨A',g,λb=>by rw[zA0];have:=q2 b;lia⟩
 |some j::r,J,c,J',K,o,Ai,Ao,L,Lo,h,k,f=>by
  have a:=h j zA7;have m:=Lo.len;rw[zAb] at m;obtain⟨G,n⟩:∃d,o[j]?=some d:=⟨_,zC8 ⋯⟩;obtain⟨σ1,p,σ2,q,s,A1,B,A2,t,e2,D,E,x,y,I,z⟩:=Lo.split n;have A:(J++c)[j]?=some p:=by rw[t];exact qH1 D
  rw[zAu a] at A;have u:=k 0 j rfl;rw[A] at u;have C:∀d,o.set j d=q++d::s:=λd=>by have:=congrArg (λl=>l.set j d) e2;rw[this,qs7 E]
  cases L with
  |nil=>simp at f|no L2=>
   have:p=none:=by simpa using u.symm
   subst this;have Lo':Locs F H (J++c) (o.set j .u) (A1++A2):=by rw[t,C];exact y.append (.no z)
   obtain⟨A',g,q2⟩:=qO9 L2 Lo' (λj a=>h j (zA6 _ a)) (λi j e=>by simpa using k (i+1) j (by simpa using e)) (by simpa using f);exact⟨A',g,λb=>by rw[x];have:=q2 b;simp only[zA0] at *;lia⟩
  |@so v d Bv _ _ _ w L2=>
   have:p=some v:=by simpa using u.symm
   subst this;have Lo':Locs F H (J++c) (o.set j d) (A1++(Bv++A2)):=by rw[t,C];exact y.append (.so w z)
   obtain⟨A',g,q2⟩:=qO9 L2 Lo' (λj a=>h j (zA6 _ a)) (λi j e=>by simpa using k (i+1) j (by simpa using e)) (by simpa using f);exact⟨A',g,λb=>by rw[x];have:=q2 b;simp only[zA0] at *;lia⟩
theorem qaF4(J:St)(src:List (Option Nat)):(Fy J src).length=src.length:=by simp[Fy]
theorem qaF5(h:src[i]?=some (some j)):(Fy J src)[i]?=some ((J[j]?).getD none):=by unfold Fy;rw[zB9,h];rfl
structure Lc(Pp:(γ->Prop)->Hp->Prop)(T:List γ):Prop where
 keep:∀{F F':γ->Prop}{H H':Hp}{W:γ->Prop},Kp F H W F' H'->(∀b∈T,¬W b)->Pp F H->Pp F' H'
 cells:∀{F:γ->Prop}{H:Hp},Pp F H->∀b∈T,∃o,H b=some o/\Gq o=true
end
section
variable{c:Vc}{F F':γ->Prop}{H H':Hp}{K:(γ->Prop)->Hp->Prop}{G:List (Option V)}{o:Ds}{I:γ}{J:Ds}{T A A' M:List γ}{E:St}{ds:Ds}
noncomputable def Tot(B T Ao A:List γ):List γ:=B++(T++(Ao++A))
theorem qy9(st:Lc K T)(r:Q8 F H (.ref I) (.l false J) B)(g:K F H)(L:Locs F H G o Ao)(h:Ok F H (Tot B T Ao A))(S:Rb c F H E ds A)(s:Ra F H A F' H' A')(o':Ok F' H' A'):Q8 F' H' (.ref I) (.l false J) B/\K F' H'/\Locs F' H' G o Ao/\Ok F' H' (Tot B T Ao A')/\Ra F H (Tot B T Ao A) F' H' (Tot B T Ao A'):=by
 unfold Tot at *
 have f:=s.kp S.ok S.loc.cells;have i:∀b,(B++(T++(Ao++A))).count b=((B++(T++Ao))++A).count b:=λb=>by simp only[zA0];lia
 have d:∀b,b∈B∨b∈T∨b∈Ao->¬(A.count b≠0):=λb a j=>by have:=h.sep b;simp only[zA0] at this;rcases a with a|a|a<;>have:=qb0.mp a<;>lia
 have k:∀b∈B++(T++Ao),∃o,H b=some o/\Gq o=true:=λb a=>by rcases zAf.mp a with a|a;{exact r.cells b a};rcases zAf.mp a with a|a;{exact st.cells g b a};exact L.cells b a
 obtain⟨l,m⟩:=s.frame (T:=B++(T++Ao)) (h.count λb=>by rw[i];exact zA3 _) k o';have e:∀b,(B++(T++(Ao++A'))).count b=((B++(T++Ao))++A').count b:=λb=>by simp only[zA0];lia
 exact⟨r.keep f λb a=>d b (.inl a),st.keep f (λb a=>d b (.inr (.inl a))) g,L.keep f λb a=>d b (.inr (.inr a)),l.count λb=>by rw[e];exact zA3 _,(m.pre λb=>by rw[i]).count λb=>by rw[e];exact zA3 _⟩
theorem qaG3(st:Lc K T)(r:Q8 F H (.ref I) (.l false J) B)(p:K F H)(L:Locs F H G o Ao)(S:Rb c F H E ds A)(q:Q8 F H v d M)(h:Ok F H (Tot B T Ao (M++A))):∃vs B',H I=some (.l vs)/\vs.length=J.length/\Q8 F (upd H I (.l (vs++[v]))) (.ref I) (.l false (J++[d])) B'/\K F (upd H I (.l (vs++[v])))/\Locs F (upd H I (.l (vs++[v]))) G o Ao/\Rb c F (upd H I (.l (vs++[v]))) E ds A/\Ok F (upd H I (.l (vs++[v]))) (Tot B' T Ao A)/\Ra F H (Tot B T Ao (M++A)) F (upd H I (.l (vs++[v]))) (Tot B' T Ao A):=by
 unfold Tot at *
 obtain⟨a,vs,Ael,s,j,l,rfl⟩:=qr7 r;cases s;have t:=h.sep I;simp only[zA0,zAq,zB1,if_true] at t;have m:¬F I:=λf=>by have:=h.fro I f;simp only[zA0,zAq,zB1,if_true] at this;lia
 have k:=qQ5 (F:=F) (o':=.l (vs++[v])) j rfl m;have i:∀X:List γ,X.count I=0->∀b∈X,¬b=I:=λX y b C w=>by subst w;exact(qb0.mp C) y
 have g:∀b,(I::(Ael++(M++[]))++(T++(Ao++A))).count b<=(I::Ael++(T++(Ao++(M++A)))).count b:=λb=>by simp only[zA0,zAq,Op];lia
 have n:∀b,F b->∃o,upd H I (.l (vs++[v])) b=some o:=λb f=>by obtain⟨x,e⟩:=h.ex b f;exact⟨x,by rw[qc0 (show b≠I from λw=>m (w ▸ f))];exact e⟩
 refine⟨vs,I::(Ael++(M++[])),j,l.len,?_,st.keep k (i T ⋯) p,L.keep k (i Ao ⋯),⟨S.loc.keep k (i A ⋯),⟨S.ok.sep,S.ok.fro,n⟩,S.len,S.ag⟩,⟨λb=>zAg (g b) (h.sep b),λb f=>by have:=h.fro b f;have:=g b;lia,n⟩,λb u e z=>?_,λb u e z=>by have:=g b;lia,λ_ f=>f,λ_ _ _ _ f=>f⟩;{exact .l qb7 ((l.append (.cons q .nil)).keep k (i _ (by simp only[zA0,Op];lia)))};rw[qc0 λw=>?_];{exact e};subst w;simp only[zA0,zAq,zB1,if_true] at z;lia
end
def qr9(src:List (Option Nat))(g:VTG):TG:=λv a H Q=>∃av,Ih (cIn src av) g v a H Q
def qr8(src:List (Option Nat))(q:VTT):TT:=λa H Q=>∃av,G4 (cIn src av) q a H Q
def Bu(src:List (Option Nat))(t:VT):TE:=λa H Q=>∃av,Bj (cIn src av) t a H Q
structure Blk(X:Cx)(NY:List Str)(sc:Scope)(src:List (Option Nat))(tg:Nu)(ifs:List Nu)(elt:Nu)(g:VTG)(qf:VTT)(te:VT):Prop where
 g:∀av C s0 H0 ex,VG (cIn src av) (qk7 X NY sc C s0 H0 ex) tg g
 f:∀av C s0 H0 ex,VF (cIn src av) (qk7 X NY sc C s0 H0 ex) ifs qf
 e:∀av C s0 H0 ex,VE (cIn src av) (qk7 X NY sc C s0 H0 ex) elt te
 lt:∀Fm a H s,Q9 X Fm a H s->∀j,some j∈src->j<a.length
section
variable{c:Vc}{X:Cx}{NY:List Str}{sc:Scope}{src:List (Option Nat)}{tg elt e:Nu}{ifs:List Nu}{g:VTG}{qf:VTT}{te:VT}
theorem Blk.pg(b:Blk X NY sc src tg ifs elt g qf te):∀C a H0 ex,PG (qk7 X NY sc C a H0 ex) tg (qr9 src g):=λC a H0 ex Fm s Y H v u Q I r ⟨c,q⟩=>(b.g c C a H0 ex).h Fm s Y H v u Q I r q
theorem Blk.pf(b:Blk X NY sc src tg ifs elt g qf te):∀C a H0 ex,PFs (qk7 X NY sc C a H0 ex) ifs (qr8 src qf):=λC a H0 ex Fm s Y H Q I ⟨c,q⟩=>(b.f c C a H0 ex).h Fm s Y H Q I q
theorem Blk.pe(b:Blk X NY sc src tg ifs elt g qf te):∀C a H0 ex,PE (qk7 X NY sc C a H0 ex) elt (Bu src te):=λC a H0 ex Fm s Y H Q I ⟨c,q⟩=>(b.e c C a H0 ex).h Fm s Y H Q I q
theorem Blk.gm(b:Blk X NY sc src tg ifs elt g qf te):∀d ds (Q Q':Ds->Prop),(∀a,Q a->Q' a)->g d ds Q->g d ds Q':=(b.g [] 0 {} (λ_=>none) []).m
theorem Blk.fm(b:Blk X NY sc src tg ifs elt g qf te):∀ds (Q Q':Bool->Ds->Prop) (xe c:XKd),(∀d a,Q d a->Q' d a)->(∀x a,xe x a->c x a)->qf ds Q xe->qf ds Q' c:=(b.f [] 0 {} (λ_=>none) []).m
theorem Blk.em(b:Blk X NY sc src tg ifs elt g qf te):∀ds (Q Q':DK) (xe c:XKd),(∀d a,Q d a->Q' d a)->(∀x a,xe x a->c x a)->te ds Q xe->te ds Q' c:=(b.e [] 0 {} (λ_=>none) []).m
theorem qm2(b:Blk X NY sc src tg ifs elt g qf te){K K':Ds->Ds->Prop}(h:∀acc Z,K acc Z->K' acc Z):∀(xs:List D) acc Z,Hh g qf te K xs acc Z->Hh g qf te K' xs acc Z|[],acc,Z=>h acc Z|x::xs,acc,Z=>b.gm _ _ _ _ λι1=>b.fm _ _ _ _ _ (λk ι2=>qH0 (b.em _ _ _ _ _ (λd ι3=>P7 (qm2 b h xs _ _)) λ_ _ z=>z) (qm2 b h xs _ _)) λ_ _ z=>z
variable{F F0:γ->Prop}{H H0:Hp}{Pp:(γ->Prop)->Hp->Prop}{τ:List (Option V)}{o0:Ds}{Dd:γ}{acc:Ds}{T A A0:List γ}{Y:St}{ds Z:Ds}{av:List (Option V)}{K:Ds->Ds->Prop}
def Mid(src:List (Option Nat))(av:List (Option V))(Pp:(γ->Prop)->Hp->Prop)(T:List γ)(τ:List (Option V))(o0:Ds)(Dd:γ)(F0:γ->Prop)(H0:Hp)(A0:List γ)(g:VTG)(qf:VTT)(te:VT)(K:Ds->Ds->Prop)(xs:List D)(Y:St)(H:Hp):Prop:=∃F Z A acc B Ao,Rb (cIn src av) F H Y Z A/\Q8 F H (.ref Dd) (.l false acc) B/\Pp F H/\Locs F H τ o0 Ao/\Ok F H (Tot B T Ao A)/\Ra F0 H0 A0 F H (Tot B T Ao A)/\Hh g qf te K xs acc Z
theorem qL6(b:Blk X NY sc src tg ifs elt g qf te)(st:Lc Pp T)(S:Rb (cIn src av) F H Y Z A)(r:Q8 F H (.ref Dd) (.l false acc) B)(t:Pp F H)(L:Locs F H τ o0 Ao)(u:Ok F H (Tot B T Ao A))(p:Ra F0 H0 A0 F H (Tot B T Ao A))(w:Q8 F H x y [])(q:Hh g qf te K (y::xs) acc Z):qr9 src g x Y H λσ2 H2=>qr8 src qf σ2 H2 λh H3=>if h=true then Bu src te σ2 H3 λv H4=>∃ys,H4 Dd=some (.l ys)/\ys.length<M7/\Mid src av Pp T τ o0 Dd F0 H0 A0 g qf te K xs σ2 (upd H4 Dd (.l (ys++[v]))) else Mid src av Pp T τ o0 Dd F0 H0 A0 g qf te K xs σ2 H3:=by have a:∀(F:γ->Prop)(H:Hp)(A:List γ),Xc (cIn src av) (λ_ _=>False) F H A:=λF H A x C Y' e H' F' A' z=>z.elim;refine⟨av,F,Z,A,[],y,w,S,S.ok,b.gm _ _ _ _ (λι1 q σ1 H1 F1 A1 S1 E=>?_) q⟩;obtain⟨G,i,L1,j,t1⟩:=qy9 st r t L u S (show Ra F H A F1 H1 A1 from E) S1.ok;refine⟨av,F1,ι1,A1,_,S1,a _ _ _,b.fm _ _ _ _ _ (λk ι2 q H2 F2 A2 S2 I=>?_) (λ_ _ z=>z) q⟩;obtain⟨s,c,L2,f,t2⟩:=qy9 st G i L1 j S1 I S2.ok;cases k with|false=>rw[if_neg ∅] at q ⊢;exact⟨F2,ι2,A2,acc,B,Ao,S2,s,c,L2,f,(p.trans t1).trans t2,q⟩|true=>rw[if_pos rfl] at q ⊢;refine⟨av,F2,ι2,A2,_,S2,a _ _ _,b.em _ _ _ _ _ (λd ι3 q v H3 F3 Tv A3 J S3 M N=>?_) (λ_ _ z=>z) q⟩;obtain⟨O,l,L3,m,P⟩:=qy9 st s c L2 f S2 N M;obtain⟨Q,B',R,e2,U,n,L4,S4,o,W⟩:=qaG3 st O l L3 S3 J m;exact⟨Q,R,by rw[e2];exact zAc q.1 qj9,F3,ι3,A3,acc++[d],B',Ao,S4,U,n,L4,o,((p.trans t1).trans t2).trans (P.trans W),q.2⟩
theorem qL7(e:∀j,some j∈src->j<Y.length)(S:Rb c F H Y ds A)(m:Ok F H (T++A))(k:Pp F H)(st:Lc Pp T)(f:H Dd=none)(q:Hh g qf te K xs [] (Bw src ds).1):Mid src (Fy Y src) Pp T (Y++c.gv) (Bw src ds).2 Dd F H (T++A) g qf te K xs (Fy Y src) (upd H Dd (.l [])):=by
 obtain⟨Ai,Ao,n,q2,o⟩:=qag1 S.loc e;have a:=Same.new (u:=.l []) f;have okN:=(qh2 f).ok m (λb d=>by rcases zAf.mp d with d|d;{exact st.cells k b d};exact S.loc.cells b d) a;have l:∀b,(Tot [Dd] T Ao Ai).count b=([Dd]++(T++A)).count b:=λb=>by unfold Tot;simp only[zA0,o];lia
 have okT:=okN.count λb=>by rw[l];exact zA3 _
 have h:Ok F (upd H Dd (.l [])) Ai:=okT.count λb=>by unfold Tot;simp only[zA0];lia
 refine⟨F,_,Ai,[],[Dd],Ao,⟨by rw[zAa];exact n.same a,h,by simp,λi _=>by simp⟩,.l qb7 .nil,st.keep (Kp.same a) (λ_ _=>id) k,q2.same a,okT,((qh2 f).stp a).count λb=>by rw[l];exact zA3 _,q⟩
theorem qL8(d:∀j,some j∈src->j<Y.length)(S:Rb c Fz Hz Y ds Az)(m:Mid src (Fy Y src) Pp T (Y++c.gv) o0 Dd F0 H0 A0 g qf te (λacc Z'=>∀v H' F' B A',Q8 F' H' v (.l false acc) B->Rb c F' H' Y (Ho src Z' o0) A'->Pp F' H'->Ok F' H' (B++(T++A'))->Ra F0 H0 A0 F' H' (B++(T++A'))->Q v H') [] Y' H'):Q (.ref Dd) H':=by
 obtain⟨F,Z,A,acc,B,Ao,S1,r,k,L,l,s,q⟩:=m;have a:=S1.len;simp only[zAa] at a;obtain⟨A',n,o⟩:=qO9 (by have:=S1.loc;simpa using this) L d (λi j e=>by have:=S1.ag i (by show capW src i=true;unfold capW;rw[e]);simp only[zAa] at this;rw[this];exact qaF5 e) (by rw[<-a,qaF4]);have f:∀b,(B++(T++A')).count b<=(Tot B T Ao A).count b:=λb=>by unfold Tot;simp only[zA0];have:=o b;lia
 have h:=l.count f;exact q (.ref Dd) H' F B A' r ⟨n,h.right.right,S.len,S.ag⟩ k h (s.count f)
theorem qu6{a:γ}{ys:Ds}{T:List γ}:Lc (λF H=>Q8 F H (.ref a) (.l z ys) T/\H a=some (.l vs)) T where
 keep:=λ{F F' H H' W} k h p=>by
  refine⟨p.1.keep k h,?_⟩;cases p.1 with
  |l _ _=>exact k.fr _ _ p.2 (h _ zA7)
  |lstZ _ f _=>exact k.fr _ _ p.2 λw=>k.wf _ w f
 cells:=λp=>p.1.cells
theorem qX0:Lc (λ_ _=>True) [] where
 keep:=λ_ _ p=>p
 cells:=λ_ b a=>by cases a
theorem qaU3{a:γ}{ys:Ds}{T:List γ}{x:V}(r:Q8 F H (.ref a) (.l z ys) T)(h:H a=some (.l vs))(hm:D.imms ys=true)(f:vs[i]?=some x):∃y,ys[i]?=some y/\Q8 F H x y []:=by obtain⟨k,g,Ael',j,b,c,_⟩:=r.lst_inv;cases j;rw[h] at b;cases b;obtain⟨y,B,d,e⟩:=c.getV f;have:=e.imm (qK7 hm d);subst this;exact⟨y,d,e⟩
theorem qaS3{a:γ}{ys:Ds}{T:List γ}(r:Q8 F H (.ref a) (.l z ys) T)(h:H a=some (.l vs)):vs.length=ys.length:=by obtain⟨f,d,Ael',e,b,c,_⟩:=r.lst_inv;cases e;rw[h] at b;cases b;exact c.len
theorem qQ7{Q:Hp->Prop}(b:Blk X NY sc src tg ifs elt g qf te)(hm:D.imms ys=true)(m:Mid src av (λF H=>Q8 F H (.ref a) (.l z ys) T/\H a=some (.l vs)) T τ o0 Dd F0 H0 A0 g qf te K ys Y' H)(e:∀σ2 H2,Mid src av (λF H=>Q8 F H (.ref a) (.l z ys) T/\H a=some (.l vs)) T τ o0 Dd F0 H0 A0 g qf te K [] σ2 H2->Q H2):qz5 (Itl K' a) (qr9 src g) (qr8 src qf) (Bu src te) Dd Q Y' H:=by obtain⟨_,_,_,_,_,_,_,_,c,_⟩:=id m;refine qaa4 (xs:=vs) (λi Y H=>Mid src av (λF H=>Q8 F H (.ref a) (.l z ys) T/\H a=some (.l vs)) T τ o0 Dd F0 H0 A0 g qf te K (ys.drop i) Y H) m ?_ ?_ ?_;{rintro i Y H _ ⟨_,_,_,_,_,_,_,_,d,_⟩;exact .inl (.inl d.2)};{rintro i x Y H f ⟨F,Z,A,h,B,Ao,S1,r,d,L,j,s,q⟩;obtain⟨y,k,l⟩:=qaU3 d.1 d.2 hm f;rw[qo5 k] at q;exact qL6 b qu6 S1 r d L j s l q};intro Y H m;rw[(qaS3 c.1 c.2),Ow] at m;exact e _ _ m
theorem qaq2{Q:Hp->Prop}(b:Blk X NY sc src tg ifs elt g qf te)(hm:D.imms ys=true)(m:Mid src av (λF H=>Q8 F H (.ref a) (.l z ys) T/\H a=some (.l vs)) T τ o0 Dd F0 H0 A0 g qf te K (enD ys) Y' H)(k:∀σ2 H2,Mid src av (λF H=>Q8 F H (.ref a) (.l z ys) T/\H a=some (.l vs)) T τ o0 Dd F0 H0 A0 g qf te K [] σ2 H2->Q H2):qz5 (Ite K' a) (qr9 src g) (qr8 src qf) (Bu src te) Dd Q Y' H:=by obtain⟨_,_,_,_,_,_,_,_,c,_⟩:=id m;refine qaw5 (xs:=vs) (λi Y H=>Mid src av (λF H=>Q8 F H (.ref a) (.l z ys) T/\H a=some (.l vs)) T τ o0 Dd F0 H0 A0 g qf te K ((enD ys).drop i) Y H) m ?_ ?_ ?_;{rintro i Y H _ ⟨_,_,_,_,_,_,_,_,d,_⟩;exact .inl (.inl d.2)};{rintro i x Y H w l ⟨F,Z,A,n,B,Ao,S1,r,d,L,o,s,q⟩ e;obtain⟨y,p,t⟩:=qaU3 d.1 d.2 hm l;rw[qo5 (qaV8 p)] at q;have f:=Same.new (u:=.q [.int (i:Int),x]) e;obtain⟨v,h,L1,j,t1⟩:=qy9 qu6 r d L o S1 (Ra.same f) (S1.ok.same f);exact qL6 b qu6 (S1.same f) v h L1 j (s.trans t1) (qak6 e (.cons (.int _) (.cons t .nil))) q};intro Y H m;rw[Oi (by rw[qaK7,(qaS3 c.1 c.2)];exact zA3 _)] at m;exact k _ _ m
theorem qaC5{Q:Hp->Prop}(b:Blk X NY sc src tg ifs elt g qf te)(m:Mid src av (λ_ _=>True) [] τ o0 Dd F0 H0 A0 g qf te K (Bo lo n) Y' H)(a:∀σ2 H2,Mid src av (λ_ _=>True) [] τ o0 Dd F0 H0 A0 g qf te K [] σ2 H2->Q H2):qz5 (Itr lo n) (qr9 src g) (qr8 src qf) (Bu src te) Dd Q Y' H:=by refine qao4 (λi Y H=>Mid src av (λ_ _=>True) [] τ o0 Dd F0 H0 A0 g qf te K ((Bo lo n).drop i) Y H) m ?_ ?_;{rintro i Y H c ⟨F,Z,A,d,B,Ao,S1,r,e,L,f,s,q⟩;rw[qo5 (qai4 c)] at q;exact qL6 b qX0 S1 r e L f s (.int _) q};intro Y H m;rw[Oi (by rw[qay8];exact zA3 _)] at m;exact a _ _ m
end
def Imp(c:Vc)(X:Cx)(t:VT)(tc:TE):Prop:=∀Fm s a H Q,Q9 X Fm a H s->Bj c t a H Q->tc a H Q
def Ii(t:VT):Prop:=∀ds (Q Q':DK) (xe xe':XKd),(∀d a,Q d a->Q' d a)->(∀x a,xe x a->xe' x a)->t ds Q xe->t ds Q' xe'
section
variable{c:Vc}{X:Cx}{NY:List Str}{sc:Scope}{src:List (Option Nat)}{tg elt e o:Nu}{ifs:List Nu}{g:VTG}{qf:VTT}{te t0:VT}{pf:PF}
theorem Mh(h:PE X e tc)(i:Imp c X t tc)(m:Ii t):VE c X e t:=⟨λFm s σ H Q I q=>h Fm s σ H Q I (i Fm s σ H Q I q),m⟩
theorem qaX6(h:PS X (.Assign [.Name x px] e spos) (Kw tc (Ia i)))(j:Imp c X t tc)(m:Ii t)(k:c.W i=false)(hi:X.N[i]?=some x):VS c X (.Assign [.Name x px] e spos) (G1 t (gNm i)):=by refine⟨λFm s σ H E I q=>h Fm s σ H E I (j Fm s σ H _ I ?_),λb n f g=>m _ _ _ _ _ (λd a=>g.nx _) g.xe⟩;obtain⟨F,f,A,b,S,l,q⟩:=q;refine⟨F,f,A,b.xe,S,l.xe,m _ _ _ _ _ (λd a q v H' F' T A' r S' o p=>?_) (λ_ _ z=>z) q⟩;obtain⟨A2,S2,u⟩:=S'.store k (qn6 hi Fm σ H s I) r o;exact l.nx _ _ H' F' A2 q S2 (p.trans u)
def Ij(src:List (Option Nat))(g:VTG)(qf:VTT)(te:VT)(ys:List D):Ds->DK->Prop:=λds1 Q=>Hh g qf te (λacc ι'=>Q (.l false acc) (Ho src ι' (Bw src ds1).2)) ys [] (Bw src ds1).1
theorem qM3(b:Blk X NY sc src tg ifs elt g qf te){Q:DK}(h:∀d a,Q d a->Q' d a):Ij src g qf te ys ds1 Q->Ij src g qf te ys ds1 Q':=qm2 b (λc ι=>h _ _) _ _ _
def tCL(src:List (Option Nat))(t0:VT)(g:VTG)(qf:VTT)(te:VT):VT:=λds Q xe=>t0 ds (λd ds1=>orF d.lstOf λys=>D.imms ys=true/\Ij src g qf te ys ds1 Q) xe
theorem qaD2(b:Blk X NY sc src tg ifs elt g qf te)(hi:VE c X e t0):Ii (tCL src t0 g qf te):=λj Q Q' k a f h=>hi.m _ _ _ _ _ (λd i=>qa5 λl=>P7 (qM3 b f)) h
theorem qbd9(b:Blk X NY sc src tg ifs elt g qf te)(hi:VE c X e t0):Imp c X (tCL src t0 g qf te) (Gp (Jx K (Bj c t0)) src (qr9 src g) (qr8 src qf) (Bu src te)):=by rintro Fm s σ H Q I ⟨F,k,A,l,S,x,q⟩;have f:=b.lt Fm σ H s I;refine⟨F,k,A,l,S,x,hi.m _ _ _ _ _ (λd n q v H1 F1 T A1 i S1 o p=>?_) (λ_ _ z=>z) q⟩;obtain⟨E,t,u,h⟩:=qa7.mp q;obtain⟨z,rfl⟩:=qD1 t;obtain⟨a,w,Ael,rfl,j,G,_⟩:=i.lst_inv;refine⟨a,rfl,⟨w,.inl (.inl j)⟩,λDd y=>qQ7 b u (qL7 f S1 o ⟨i,j⟩ qu6 y (qm2 b (λC ι q v H' F' B A' r S' _ D s=>q v H' F' B A' r S' (D.count λb=>by simp only[zA0];lia) ((p.trans s).count λb=>by simp only[zA0];lia)) _ _ _ h)) λσ2 H2 m=>qL8 f S1 m⟩
def tCPx(en:Ds->List D)(src:List (Option Nat))(pf:PF)(g:VTG)(qf:VTT)(te:VT):VT:=λds Q xe=>orF (pf ds) λq=>orF (Bb ds q.1 q.2) λd=>orF d.lstOf λys=>D.imms ys=true/\∀w,Hh g qf te (λacc ι'=>orF (bk1 q.1 q.2 w d (Ho src ι' (Bw src (Bn ds q.1 q.2 (.hole w))).2)) λa=>Q (.l false acc) a) (en ys) [] (Bw src (Bn ds q.1 q.2 (.hole w))).1
theorem qaq6(b:Blk X NY sc src tg ifs elt g qf te):Ii (tCPx en src pf g qf te):=λf Q Q' i a c j=>qa5 λq=>qa5 λd=>qa5 λk=>P7 λh w=>qm2 b (λe ι=>qa5 λz=>c _ _) _ _ _ (h w)
theorem qaW4{J:γ->It}(b:Blk X NY sc src tg ifs elt g qf te)(M:∀{a:γ}{vs:List V}{z:Bool}{ys:Ds}{T:List γ}{τ:List (Option V)}{o0:Ds}{Dd:γ}{F0:γ->Prop}{H0 H:Hp}{A0:List γ}{K0:Ds->Ds->Prop}{av:List (Option V)}{Q:Hp->Prop}{σ':St},D.imms ys=true->Mid src av (λF H=>Q8 F H (.ref a) (.l z ys) T/\H a=some (.l vs)) T τ o0 Dd F0 H0 A0 g qf te K0 (en ys) σ' H->(∀σ2 H2,Mid src av (λF H=>Q8 F H (.ref a) (.l z ys) T/\H a=some (.l vs)) T τ o0 Dd F0 H0 A0 g qf te K0 [] σ2 H2->Q H2)->qz5 (J a) (qr9 src g) (qr8 src qf) (Bu src te) Dd Q σ' H)(j:∀σ H R,Ki c pf σ H (λx H1=>∃a,x=.ref a/\(∃xs,SqL K H1 a xs)/\R (J a) H1)->wi σ H R):Imp c X (tCPx en src pf g qf te) (Gp wi src (qr9 src g) (qr8 src qf) (Bu src te)):=by
 rintro Fm s σ H Q I ⟨F,t,A,xe,S,x,q⟩;have h:=b.lt Fm σ H s I;refine j σ H _ ?_;obtain⟨⟨i,p⟩,N,q⟩:=qa7.mp q;obtain⟨d,e2,q⟩:=qa7.mp q;obtain⟨ys,O,P,q⟩:=qa7.mp q;obtain⟨z,rfl⟩:=qD1 O;refine⟨F,t,A,i,p,_,S,N,e2,D.noConfusion,λu w H1 U k l=>?_⟩;obtain⟨B,C,r,y,Y⟩:=(S.same l).place e2 D.noConfusion U k;obtain⟨A1,Z,q2⟩:=Y (.hole w) [] (Kp.same λ_ _ z=>z) (λ_ _ z=>z) (.hole w);have E:Ok F H1 (B++A1):=(S.same l).ok.count λb=>by rw[zA0,q2,y];simp
 have s1:Ra F H A F H1 (B++A1):=⟨λb o e _=>l b o e,λb o e z=>by rw[zA0,q2];have:=y b;simp;lia,λ_ f=>f,λ_ _ _ _ f=>f⟩;have S1:Rb c F H1 σ (Bn t i p (.hole w)) A1:=⟨Z,E.right,S.len,S.ag⟩;obtain⟨a,vs,Ael,rfl,G,rs,_⟩:=r.lst_inv;refine⟨a,rfl,⟨vs,.inl (.inl G)⟩,λDd hD=>M P (qL7 h S1 E ⟨r,G⟩ qu6 hD (qm2 b (λa0 ι q v H' F' B' A' rv S' hp L s=>?_) _ _ _ (q (.ref a)))) λσ2 H2 m=>qL8 h S1 m⟩;obtain⟨a1,eb,q⟩:=qa7.mp q;obtain⟨A2,k1,k2⟩:=qx9 (.so .nil) (.cons hp.1 .nil) S'.loc eb;have n:∀b,(B'++A2).count b<=(B'++(B++A')).count b:=λb=>by have:=k2 b;simp only[zAa,zA0] at *;lia
 exact q v H' F' B' A2 rv ⟨k1,(L.count n).right,S.len,S.ag⟩ (L.count n) ((s1.trans s).count n)
theorem qbd8(b:Blk X NY sc src tg ifs elt g qf te):Imp c X (tCPx (λys=>ys) src pf g qf te) (Gp (Jx K (Ki c pf)) src (qr9 src g) (qr8 src qf) (Bu src te)):=qaW4 b (λa m d=>qQ7 b a m d) λσ H R h=>h
def tCR1(src:List (Option Nat))(tr:VTA)(g:VTG)(qf:VTT)(te:VT):VT:=λds Q xe=>tr ds (λxs ds1=>orF (Mg xs) λj=>I8 j=true/\Ij src g qf te (Bo 0 j.toNat) ds1 Q) xe
theorem qaq5{es:List Nu}{tr:VTA}(b:Blk X NY sc src tg ifs elt g qf te)(hi:VOs c X es tr):Ii (tCR1 src tr g qf te):=λi Q Q' j a e f=>hi.m _ _ _ _ _ (λd h=>qa5 λk=>P7 (qM3 b e)) f
theorem qaE5{F:γ->Prop}{H:Hp}{A:List γ}{F1:γ->Prop}{H1:Hp}{A1:List γ}{σ:St}{ds1:Ds}(b:Blk X NY sc src tg ifs elt g qf te)(a:∀j,some j∈src->j<σ.length)(S1:Rb c F1 H1 σ ds1 A1)(f:Ra F H A F1 H1 A1)(q:Ij src g qf te (Bo lo n) ds1 (λd e=>∀v H' F' T A',Q8 F' H' v d T->Rb c F' H' σ e A'->Ok F' H' (T++A')->Ra F H A F' H' (T++A')->Q v H')):∀Dd,H1 Dd=none->qz5 (Itr lo n) (qr9 src g) (qr8 src qf) (Bu src te) Dd (λH'=>Q (.ref Dd) H') (Fy σ src) (upd H1 Dd (.l [])):=λDd h=>
 qaC5 b (qL7 a S1 S1.ok trivial qX0 h (qm2 b (λi ι q v H' F' B A' r S' _ k s=>q v H' F' B A' r S' k (f.trans s)) _ _ _ q)) λσ2 H2 m=>qL8 a S1 m
theorem qaT7{es:List Nu}{tr:VTA}(b:Blk X NY sc src tg ifs elt g qf te)(hi:VOs c X es tr):Imp c X (tCR1 src tr g qf te) (Gp (iRng1 (qaH9 c tr)) src (qr9 src g) (qr8 src qf) (Bu src te)):=by rintro Fm s σ H Q I ⟨F,d,A,e,S,x,q⟩;refine⟨F,d,A,e,S,x,hi.m _ _ _ _ _ (λo f q p H1 F1 T A1 h S1 i=>?_) (λ_ _ z=>z) q⟩;obtain⟨j,k,l,a⟩:=qa7.mp q;cases qaz9 k;obtain⟨v,rfl,n⟩:=h.one_inv;cases n;have:=qal0 l;exact⟨j,rfl,this.1,this.2,qaE5 b (b.lt Fm σ H s I) S1 i a⟩
noncomputable def capOk(X:Cx)(src:List (Option Nat)):Bool:=src.all λo=>match o with|none=>true|some j=>decide (j<X.N.length)
theorem blk(b:∀av C a H0 ex,VG (cIn src av) (qk7 X NY sc C a H0 ex) tg g)(c:∀av C a H0 ex,VF (cIn src av) (qk7 X NY sc C a H0 ex) ifs qf)(d:∀av C a H0 ex,VE (cIn src av) (qk7 X NY sc C a H0 ex) elt te)(e:capOk X src=true:=by rfl):Blk X NY sc src tg ifs elt g qf te:=⟨b,c,d,λFm σ H s I j f=>by
   have:=zBe.mp e _ f
   rw[I.len];exact zAh this⟩
end
theorem qn7{X:Cx}{NY:List Str}{sc:Scope}{C:γ}{a:δ}{H0:Hp}{ex:List γ}{src:List (Option Nat)}{av:List (Option V)}:Lands (qk7 X NY sc C a H0 ex) (cIn src av).E:=λ_ _ _ _ _ _ _ _ _ z=>z.elim
section
variable{c:Vc}{X:Cx}{NY:List Str}{n:Scope}{src:List (Option Nat)}{q l k a:Nu}{m:List Nu}{g:VTG}{r:VTT}{te s:VT}{o:Pos}{pf:PF}{x:Str}
theorem ecL(hi:VE c X k s)(bl:Blk X NY n src q m l g r te)(a:X.calm=true:=by rfl)(b:qy6 X NY src n=true:=by rfl)(d:∀x,M9 k X.env x=pure x:=by intro _;rfl):VE c X (.ListComp l [⟨q,k,m,0⟩] n o) (tCL src s g r te):=Mh (qG6 NY src (qC0 hi.h) bl.pg bl.pf bl.pe a b d) (qbd9 bl hi) (qaD2 bl hi)
theorem ecP(hi:VP c X k pf)(bl:Blk X NY n src q m l g r te)(a:X.calm=true:=by rfl)(b:qy6 X NY src n=true:=by rfl)(d:∀x,M9 k X.env x=pure x:=by intro _;rfl):VE c X (.ListComp l [⟨q,k,m,0⟩] n o) (tCPx (λys=>ys) src pf g r te):=Mh (qG6 NY src (qC0 hi.h) bl.pg bl.pf bl.pe a b d) (qbd8 bl) (qaq6 bl)
theorem ecR1{tr:VTA}{p cpos:Pos}(hm:X.mg "range"=none)(b:VOs c X [a] tr)(bl:Blk X NY n src q m l g r te)(d:Gl X "range" := by rfl)(e:M6 [a] X.env=[(false,eval a X.env)]:=by rfl)(f:X.calm=true:=by rfl)(i:qy6 X NY src n=true:=by rfl)(j:∀x,M9 (.Call (.Name "range" p) [a] [] cpos) X.env x=pure x:=by intro _;rfl):VE c X (.ListComp l [⟨q,.Call (.Name "range" p) [a] [] cpos,m,0⟩] n o) (tCR1 src tr g r te):=Mh (qG6 NY src (qX7 d hm b.h e) bl.pg bl.pf bl.pe f i j) (qaT7 bl b) (qaq5 bl b)
end
section
variable{c:Vc}{X:Cx}{t:List Nu}{p:VTB}
def Ld(p:VTB):VTA:=λds Q xe=>p ds (λxs _ ds1=>Q xs ds1) xe
theorem Gv(h:VAs c X t p):VOs c X t (Ld p):=⟨PA.mono h.h λn H Q ⟨F,d,A,e,S,x,q⟩=>⟨F,d,A,e,S,x,h.m _ _ _ _ _ (λf g a q i H' F' T A' r _ S' o s=>q i H' F' T A' r S' (s.count λb=>by rw[zA0];lia)) (λ_ _ z=>z) q⟩,λd Q Q' e j k l=>h.m _ _ _ _ _ (λf g a=>k _ _) l⟩
end
structure Bg(x y z:Int)(ns:List Int):Prop where
 x0:0<=x
 y0:0<=y
 y1:y<2147483647
 z0:0<=z
 nn:∀n∈ns,0<=n
noncomputable def bagD(x y z:Int)(ns:List Int):D:=.l false [.int x,.int y,.int z,.l false (ns.map .int)]
def lawE:VEnds where
 nx _:=False
 rt d _:=d.asB=some true
 bk _:=False
 ct _:=False
 xe _ _:=False
theorem qat9{c:Vc}{X:Cx}{rest:List Nv}{t:VTS}{H:Hp}{E:B7}{p L:γ}{x y z:Int}{ns:List Int}(e:c.av.length=2+n)(k:∀i,c.W i=false)(a:c.gv=[])(l:H p=some (.l [.int x,.int y,.int z,.ref L]))(m:H L=some (.l (ns.map V.int)))(o:L≠p)(s:∀H',E.rt (.bl true) H')(u:t lawE (.hole w::bagD x y z ns::N8 n .u)):G6 c t E (some w::some (.ref p)::N8 n none) H:=by
 have L0:Locs (λ_=>False) H (some w::some (.ref p)::N8 n none) (.hole w::bagD x y z ns::N8 n .u) ([]++((p::([]++([]++([]++((L::[])++[])))))++[])) :=
  .so (.hole w) (.so (.l l (.cons (.int x) (.cons (.int y) (.cons (.int z) (.cons (.l m (qJ4 ns)) .nil))))) (qK5 n))
 refine⟨λ_=>False,_,_,lawE,⟨by rw[a,zAa];exact L0,⟨λb=>?_,λb f=>f.elim,λb f=>f.elim⟩,by rw[a,e];simp;lia,λi h=>by rw[k i] at h;cases h⟩,⟨λ_ _ _ _ _ z=>Qv z,λd A v B' H' F' T A' q r _ _ _=>by rw[r.asB q];exact s H',λ_ _ _ _ _ z=>Qv z,λ_ _ _ _ _ z=>Qv z,λ_ _ _ _ _ _ _ z=>Qv z⟩,u⟩;by_cases g:p=b;{subst g;simp[o]};by_cases j:L=b;{subst j;simp[g]};simp[g,j]
section
variable{c:Vc}{b d e o:Nu}{Y Z oc:Bool}{fa fb X:FV}
def f3(g g':D->D->Option D)(fa fb X:FV):FV:=λds=>(fa ds).bind λx=>(fb ds).bind λy=>(g x y).bind λz=>z.asB.bind λk=>if k=true then (X ds).bind λu=>g' y u else some (.bl false)
theorem qao7{j:R2}(h:A8 true r g)(h':A8 true j g'):∀W H Q,liftV c true (f3 g g' fa fb X) W H Q->qaD1 r j (liftV c Y fa) (liftV c Z fb) (liftV c oc X) W H Q:=by rintro W H Q ⟨F,f,A,d,S,e,q⟩;obtain⟨x,B,e⟩:=zA1.mp e;obtain⟨y,e2,e⟩:=zA1.mp e;obtain⟨z,C,e⟩:=zA1.mp e;obtain⟨k,E,e⟩:=zA1.mp e;refine⟨F,f,A,x,S,B,λv H1 B1 G l R=>⟨F,f,A,y,S.same l,e2,λw H2 B2 m n T=>?_⟩⟩;refine h F H2 v w x y _ z _ (Hw (G.same n) m) C λu H3 B3 I p U=>⟨k,I.asB E,?_⟩;have a:=(l.trans n).trans p;cases k with|false=>rw[if_neg ∅] at e ⊢;cases e;exact q _ H3 [] (.bl _) a λ_=>New.nil|true=>rw[if_pos rfl] at e ⊢;obtain⟨s,J,K⟩:=zA1.mp e;refine⟨F,f,A,s,S.same a,J,λL H4 B4 M i V=>?_⟩;refine h' F H4 w L y s _ d Q (Hw ((m.same p).same i) M) K λN H5 B5 O P t=>q N H5 B5 O ((a.trans i).trans P) λ_=>⟨t.one,λb o e=>t.new b o (i b o (a b o e))⟩
end
section
variable{c:Vc}{X:Cx}{a b d e:Nu}{N:Pos}{R U T:Bool}{fa fb O:FV}
theorem vch{e:CmpOp}{i:R2}(j:OpR X (M8 op) r)(h:A8 true r g)(f:OpR X (M8 e) i)(h':A8 true i g')(k:VV c X a R fa)(l:VV c X b U fb)(m:VV c X d T O)(hm:lastMarks [op,e] [b,d]=false:=by with_unfolding_all rfl):VV c X (.Compare a [op,e] [b,d] N) true (f3 g g' fa fb O):=⟨PE.mono (qaj5 j f k.h l.h m.h hm) (qao7 h h')⟩
theorem qch{e:CmpOp}{r i:R2}{g g':D->D->Option D}(j:OpR X (M8 op) r)(h:A8 true r g)(f:OpR X (M8 e) i)(h':A8 true i g')(k:VV c X a R fa)(l:VV c X b U fb)(m:VV c X d T O)(hm:lastMarks [op,e] [b,d]=false:=by with_unfolding_all rfl):VTe c X (.Compare a [op,e] [b,d] N) (ttV (f3 g g' fa fb O)):=⟨PT.mono (qaE8 j f k.h l.h m.h hm) λM H Q q=>qao7 h h' M H _ (qaC8 M H Q q),qR0⟩
def Kq(x:D):Option D:=match x with|.l _ ys=>(intsD ys).bind λns=>gd (ns.length<=1000) (.int (qs1 ns))|_=>none
theorem vlenS(g:X.mg "len"=none)(i:X.mg "set"=none)(o:VV c X a R fa)(j:Gl X "len" := by rfl)(k:Gl X "set" := by rfl)(r:X.calm=true:=by rfl)(n:M6 [a] X.env=(false,eval a X.env)::M6 [] X.env:=by rfl)(l:((backTo cpos (M6 [] X.env)).any λx=>x.1)=false:=by rfl)(b:M6 [.Call (.Name "set" p2) [a] [] cpos] X.env=(false,eval (.Call (.Name "set" p2) [a] [] cpos) X.env)::M6 [] X.env:=by rfl)(f:((backTo N (M6 [] X.env)).any λx=>x.1)=false:=by rfl):VV c X (.Call (.Name "len" p) [.Call (.Name "set" p2) [a] [] cpos] [] N) true (f1 Kq fa):=by refine⟨PE.mono (cbi qax0 g (qc6 (cty (qaw8 r) i (qc6 o.h qk1 n) k (by rfl) ∅ ∅ n l) qk1 b) j (by rfl) ∅ ∅ b f) λM H Q m=>?_⟩;obtain⟨F,s,A,d,S,e,q⟩:=m;obtain⟨x,t,e2⟩:=qav4.mp e;cases x with|l z J=>obtain⟨u,w,y⟩:=zA1.mp e2;obtain⟨B,rfl⟩:=qk6 y;refine⟨F,s,A,_,S,t,λv H1 B1 C D K=>?_⟩;obtain⟨a,L,A2,rfl,E,G,_⟩:=C.lst_inv;cases G.intsD w;exact⟨a,u,rfl,.inl (.inl E),B,λp St I=>⟨p,St,_,rfl,qb7,(q _ _ [] (.int _) (D.trans (Same.new I)) λ_=>New.nil)⟩⟩|_=>cases e2
def Fs(f:Ds->Option D):VSp:=λds Q _=>orF (f ds) λd=>Q d ds
theorem qz0:Fq (Fs f):=λa Q Q' e b c _=>qa5 λd=>c d a
noncomputable def wOf(l:List Bool)(i:Nat):Bool:=l.getD i false
end
section
variable{c:Vc}{X:Cx}{NY:List Str}{sc:Scope}{src:List (Option Nat)}{tg elt e o a b:Nu}{ifs:List Nu}{g:VTG}{qf:VTT}{te:VT}{pos px spos p0:Pos}{x xn:Str}
def Jt(en:Ds->List D)(src:List (Option Nat))(i:Nat)(g:VTG)(qf:VTT)(te:VT):VT:=λds Q xe=>orF (rdN i ds) λd=>orF d.lstOf λys=>D.imms ys=true/\Hh g qf te (λacc ι'=>Q (.l false acc) ((Ho src ι' (Bw src (ds.set i .u)).2).set i d)) (en ys) [] (Bw src (ds.set i .u)).1
theorem qH9(bl:Blk X NY sc src tg ifs elt g qf te):Ii (Jt en src i g qf te):=λe Q Q' f a b h=>qa5 λd=>qa5 λj=>P7 (qm2 bl (λc ι=>b _ _) _ _ _)
theorem qaB7{J:γ->It}(bl:Blk X NY sc src tg ifs elt g qf te)(E:X.N[i]?=some xn)(G:∀{a:γ}{vs:List V}{z:Bool}{ys:Ds}{T:List γ}{τ:List (Option V)}{o0:Ds}{Dd:γ}{F0:γ->Prop}{H0 H:Hp}{A0:List γ}{K0:Ds->Ds->Prop}{av:List (Option V)}{Q:Hp->Prop}{σ':St},D.imms ys=true->Mid src av (λF H=>Q8 F H (.ref a) (.l z ys) T/\H a=some (.l vs)) T τ o0 Dd F0 H0 A0 g qf te K0 (en ys) σ' H->(∀σ2 H2,Mid src av (λF H=>Q8 F H (.ref a) (.l z ys) T/\H a=some (.l vs)) T τ o0 Dd F0 H0 A0 g qf te K0 [] σ2 H2->Q H2)->qz5 (J a) (qr9 src g) (qr8 src qf) (Bu src te) Dd Q σ' H)(j:∀σ H R,Hs i σ H (λx H1=>∃a,x=.ref a/\(∃xs,SqL K H1 a xs)/\R (J a) H1)->wi σ H R):Imp c X (Jt en src i g qf te) (Gp wi src (qr9 src g) (qr8 src qf) (Bu src te)):=by
 rintro Fm s σ H Q I ⟨F,L,A,xe,S,x,q⟩;have h:=bl.lt Fm σ H s I;refine j σ H _ ?_;obtain⟨d,k,q⟩:=qa7.mp q;obtain⟨k,hk⟩:=qn3.mp k;obtain⟨ys,M,O,q⟩:=qa7.mp q;obtain⟨z,rfl⟩:=qD1 M;obtain⟨v,B,C,l,r,t,P⟩:=S.put1 k D.noConfusion;have n:=l;rw[zAu (qn6 E Fm σ H s I)] at l;obtain⟨A1,U,q2⟩:=P .u [] (Kp.same λ_ _ z=>z) (λ_ _ z=>z) (.u v);have u:Ok F H (B++A1):=S.ok.count λb=>by rw[zA0,q2,t];simp
 have Y:Ra F H A F H (B++A1):=⟨λb o e _=>e,λb o e z=>by rw[zA0,q2];have:=t b;simp;lia,λ_ f=>f,λ_ _ _ _ f=>f⟩;have S1:Rb c F H σ (L.set i .u) A1:=⟨U,u.right,S.len,S.ag⟩;obtain⟨a,vs,Ael,rfl,w,rs,_⟩:=r.lst_inv;refine⟨.ref a,l,a,rfl,⟨vs,.inl (.inl w)⟩,λDd Z=>G O (qL7 h S1 u ⟨r,w⟩ qu6 Z (qm2 bl (λa0 ι q v H' F' B' A' rv S' hp y s=>?_) _ _ _ q)) λσ2 H2 m=>qL8 h S1 m⟩;obtain⟨A2,k1,k2⟩:=qI4 S'.loc n hp.1;have p:∀b,(B'++A2).count b<=(B'++(B++A')).count b:=λb=>by have:=k2 b;simp only[zA0] at *;lia
 exact q v H' F' B' A2 rv ⟨k1,(y.count p).right,S.len,S.ag⟩ (y.count p) ((Y.trans s).count p)
theorem qaT8(bl:Blk X NY sc src tg ifs elt g qf te)(a:X.N[i]?=some xn):Imp c X (Jt (λys=>ys) src i g qf te) (Gp (Jx K (Hs i)) src (qr9 src g) (qr8 src qf) (Bu src te)):=qaB7 bl a (λb m d=>qQ7 bl b m d) λσ H R h=>h
theorem qaT9(bl:Blk X NY sc src tg ifs elt g qf te)(b:X.N[i]?=some xn):Imp c X (Jt enD src i g qf te) (Gp (iEnum K (tCons (Hs i) tNil)) src (qr9 src g) (qr8 src qf) (Bu src te)):=qaB7 bl b (λd m f=>qaq2 bl d m f) λσ H R ⟨v,h,a,e,j,k⟩=>⟨v,h,a,by rw[e],j,k⟩
theorem ecN(i:Nat)(bl:Blk X NY sc src tg ifs elt g qf te)(b:X.N[i]?=some xn:=by rfl)(d:Vis X.env.scope xn:=by first|exact Qx rfl|exact Qw (Qx rfl)|exact Qw (Qw rfl))(e:N' xn:=by decide)(a:(xn==("__classdict__" : Str))=false:=by decide)(f:X.calm=true:=by rfl)(h:qy6 X NY src sc=true:=by rfl)(j:∀x,M9 (.Name xn p0) X.env x=pure x:=by intro _;rfl):VE c X (.ListComp elt [⟨tg,.Name xn p0,ifs,0⟩] sc pos) (Jt (λys=>ys) src i g qf te):=Mh (qG6 NY src (qC0 (qo9 b d e a)) bl.pg bl.pf bl.pe f h j) (qaT8 bl b) (qH9 bl)
theorem ecEN(i:Nat){e:Nat}(hm:X.mg "enumerate"=none)(bl:Blk X NY sc src (.Tuple elts e tpos) ifs elt g qf te)(f:X.N[i]?=some xn:=by rfl)(h:Vis X.env.scope xn:=by first|exact Qx rfl|exact Qw (Qx rfl)|exact Qw (Qw rfl))(j:N' xn:=by decide)(b:(xn==("__classdict__" : Str))=false:=by decide)(d:Gl X "enumerate" := by rfl)(a:M6 [.Name xn p0] X.env=[(false,eval (.Name xn p0) X.env)]:=by rfl)(k:X.calm=true:=by rfl)(l:qy6 X NY src sc=true:=by rfl)(m:∀x,M9 (.Call (.Name "enumerate" p) [.Name xn p0] [] cpos) X.env x=pure x:=by intro _;rfl):VE c X (.ListComp elt [⟨.Tuple elts e tpos,.Call (.Name "enumerate" p) [.Name xn p0] [] cpos,ifs,0⟩] sc pos) (Jt enD src i g qf te):=Mh (qG6 NY src (qaP0 d hm (qc6 (qo9 f h j b) qk1 a) a) bl.pg bl.pf bl.pe k l m) (qaT9 bl f) (qH9 bl)
theorem scN(i j:Nat)(b:X.N.Nodup)(bl:Blk X NY sc src tg ifs elt g qf te)(k:c.W i=false:=by rfl)(h:X.N[j]?=some xn:=by rfl)(l:Vis X.env.scope xn:=by first|exact Qx rfl|exact Qw (Qx rfl)|exact Qw (Qw rfl))(m:N' xn:=by decide)(d:(xn==("__classdict__" : Str))=false:=by decide)(a:X.N[i]?=some x:=by rfl)(n:Loc X.env.scope x:=by first|exact Qx rfl|exact Qw rfl)(o:X.calm=true:=by rfl)(p:qy6 X NY src sc=true:=by rfl)(e:swapsWith (.ListComp elt [⟨tg,.Name xn p0,ifs,0⟩] sc pos) (some (.Name x px)) spos.line X.env=pure true:=by rfl)(q:∀x,M9 (.Name xn p0) X.env x=pure x:=by intro _;rfl)(f:X.fn x=true∨X.env.scope.names.lookup x=some .local:=by first|exact .inl rfl|exact .inr rfl|assumption):VS c X (.Assign [.Name x px] (.ListComp elt [⟨tg,.Name xn p0,ifs,0⟩] sc pos) spos) (G1 (Jt (λys=>ys) src j g qf te) (gNm i)):=qaX6 (qaO5 i NY src b (qC0 (qo9 h l m d)) bl.pg bl.pf bl.pe a n o p e q f) (qaT8 bl h) (qH9 bl) k a
theorem qaB9(h:ds[i]?=some (.hole w)):bk1 i [] w d0 ds=some (ds.set i d0):=by unfold bk1 Aq;rw[qK8 h];simp only[if_true];unfold Aq;rw[qI5 h]
theorem qi7{g:VTG}{qf:VTT}{te:VT}{K:Ds->Ds->Prop}(I:Ds->Prop)(f:D->Option D):∀(xs:List D)(acc ι:Ds),acc.length+xs.length<big->I ι->(∀x∈xs,∀ι acc,I ι->∀R:Ds->Ds->Prop,(∀ι',I ι'->R (acc++(f x).toList) ι')->acc.length<big->g x ι λι1=>qf ι1 (λb ι2=>if b=true then te ι2 (λd ι3=>acc.length<big/\R (acc++[d]) ι3) (λ_ _=>False) else R acc ι2) (λ_ _=>False))->(∀ι',I ι'->K (acc++xs.filterMap f) ι')->Hh g qf te K xs acc ι|[],acc,ι,_,h,_,hK=>by have:=hK ι h;rw[List.filterMap_nil,zAa] at this;exact this|x::xs,acc,ι,hl,h,hs,hK=>by refine hs x zA7 ι acc h (λa i=>Hh g qf te K xs a i) (λι' hι=>?_) (by simp at hl;lia);refine qi7 I f xs _ ι' ?_ hι (λy e=>hs y (zA6 _ e)) λι2 j=>?_;{cases c:f x with|none=>simp at hl ⊢;lia|some y=>simp at hl ⊢;lia};have:=hK ι2 j;rw[zCe] at this;cases c:f x with|none=>rw[c] at this;simpa using this|some y=>rw[c] at this;simpa using this
end
def spX1(C:γ)(fl:Str):Sp:=λvs H Q _=>∃(e:γ)(v:V),vs=[.ref e,v]/\H e=some (Bm e C none true)/\∀dx,H dx=none->dx≠e->Q .non (upd (upd H dx (XD dx [(fl,v)])) e (Bm e C (some dx) true))
section
variable{c:Vc}{X:Cx}{e:Nu}{te:VT}{pos cpos np:Pos}{k:Nat}{f C:γ}{fd:ε}{ps:List Str}{x fl:Str}
def qX2(C:γ)(fl:Str)(te:VT):VTS:=λe ds=>te ds (λd a=>d.imm=true/\e.xe ⟨C,[(fl,d)]⟩ a) e.xe
theorem qo7(M:MkE X.K C f)(Fn:Fx X.prog X.w X.K X.mg X.base CX0 k f fd ps (spX1 C fl))(L:Room (k+1) X.A)(hm:X.mg x=some (.ref C))(N:Binds X.K fd ps [])(O:Lands X c.E)(n:VE c X e te)(P:Gl X x:=by rfl)(p:N' x:=by decide)(I:M6 [e] X.env=(false,eval e X.env)::M6 [] X.env:=by rfl)(t:(backTo cpos (M6 [] X.env)).any (·.1)=false:=by rfl):VS c X (.Raise (some (.Call (.Name x np) [e] [] cpos)) none pos) (qX2 C fl te):=by
 refine⟨PS.mono (qaF0 M Fn L hm N O (qc6 n.h qk1 I) P p I t) λE Z H y=>?_,λe Y J h=>n.m _ _ _ _ _ (λd i z=>⟨z.1,h.xe _ _ z.2⟩) h.xe⟩;obtain⟨F,J,A,ends,S,l,q⟩:=y;refine⟨F,J,A,ends.xe,S,l.xe,n.m _ _ _ _ _ (λd i ⟨Q,q⟩ v H' F' T A' r S' o s=>?_) (λ_ _ z=>z) q⟩;refine⟨by show 1<=1000;decide,λa R=>⟨a,v,rfl,qb7,λg U B=>⟨rfl,some g,qb7,?_⟩⟩⟩;have V:H' g=none:=by rwa[qc0 B] at U
 obtain rfl:=r.imm Q;have D:Same H' (upd (upd (upd (upd H' a (Bm a C none true)) g (XD g [(fl,v)])) a (Bm a C (some g) true)) a (Bm a C (some g) false)):=λb u j=>by
  have G:b≠a:=λz=>by rw[z,R] at j;cases j
  have W:b≠g:=λz=>by rw[z,V] at j;cases j
  rw[qc0 G,qc0 G,qc0 W,qc0 G];exact j
 refine l.xe ⟨C,[(fl,d)]⟩ i Z a _ F' A' q ⟨some g,qb7,.inr ⟨g,[(fl,v)],rfl,?_,rfl,?_⟩⟩ (S'.same D) ((s.count λb=>by rw[zA0];lia).trans (Ra.same D));{rw[qc0 B,qc0 B,qb7]};exact .cons (r.same D) .nil
end
section
variable{a:Nu}
theorem qaC6:∀{xs:List V}{us:List V'},xs.length=us.length->(∀(i:Nat)(x:V)(u:V'),xs[i]?=some x->us[i]?=some u->Q6 x u)->Q7 xs us:=by intro l;induction l with|nil=>(intro u z _;cases u with|nil=>exact .nil|cons=>cases z)|cons x l k=>intro u z h;cases u with|nil=>cases z|cons u r=>exact .cons (h 0 x u rfl rfl) (k (Nat.succ.inj z) λi y v a b=>h (i+1) y v a b)
end
theorem vdct0{c:Vc}{X:Cx}{pos:Pos}:VV c X (.Dict [] [] pos) true (λ_=>some (.dct false [])):=⟨PE.mono qaF9 λf H Q ⟨F,b,A,d,S,e,q⟩ p a=>by
   cases e;exact q _ _ [p] (.dct (kvs:=[]) (kds:=[]) qb7 rfl .nil) (Same.new a) λ_=>qh2 a⟩
structure MdN(K:P')(C:γ)(m qual:Str)(st:Nv)(f:γ)(fd:ε)(ps:List Str):Prop where
 F:FunE K m qual st f fd
 b:Binds K fd ps []
 bn:Binds K fd ps [.none]
 me:Lu K C m f
 isf:W.isFn K (.ref f)=true
section
variable{X:Cx}{c:Vc}
theorem qaW1(i:Cl X.K X.mg x C)(M:Mk X.K C f)(D:MdN X.K C m qual st f fd ps)(G:G0 cm X.prog X.w X.K X.mg X.base k f fd ps s)(j:Lands X c.E)(l:Rc cm (k+1) X.A)(a:VAs c X (e::es) tr)(n:Gl X x:=by rfl)(d:N' x:=by decide)(o:M6 (e::es) X.env=(false,eval e X.env)::M6 es X.env:=by rfl)(g:(backTo pos (M6 es X.env)).any (·.1)=false:=by rfl):VE c X (.Call (.Name x p) (e::es) [] pos) (qR4 C s [] tr):=⟨PE.mono (qaj2 M G.ok l n i.m D.b .nil j.passes a.h d o g) (qal5 qx2 G.m a),qK2 G.m a⟩
end
theorem mdmkN{od:Option γ}{kV j:V'}(l:K.lookup f=some ⟨oc,od,.func (W.fnOf m qual (qg2 st) (qd9 st) (qa4 st) (.ref T) kV e h g d j),p⟩)(c:W.codeIn K d qual=true)(k:W.keepIn K (.ref f)=true)(a:W.findIn K (.ref C) m=some (some (.ref f)))(i:W.isFn K (.ref f)=true)(t:K.lookup T=some ⟨to,td,.seq #[.none] n,q⟩)(b:∀(kV e h:V')(g:Option γ)(d j:V')(us:List V'),us.length=ps.length->∃k,bindArgs (W.fnOf m qual (qg2 st) (qd9 st) (qa4 st) (.ref T) kV e h g d j) ⟨us,[]⟩=seqItems? (.ref T) >>= k/\k (some #[.none])=pure (ps.zip us))(v:∀(kV e h:V')(g:Option γ)(d j:V')(us:List V'),us.length+1=ps.length->∃k,bindArgs (W.fnOf m qual (qg2 st) (qd9 st) (qa4 st) (.ref T) kV e h g d j) ⟨us,[]⟩=seqItems? (.ref T) >>= k/\k (some #[.none])=pure (ps.zip (us++[.none]))):MdN K C m qual st f (W.fnOf m qual (qg2 st) (qd9 st) (qa4 st) (.ref T) kV e h g d j) ps:=⟨⟨⟨_,_,_,_,_,_,_,_,_,_,rfl,l,c⟩⟩,λs us X o=>(by
   rw[zAa] at o ⊢;obtain⟨k,r,u⟩:=b kV e h g d j us o;exact W.binds_K X rfl t rfl r u),λs us X o=>(by
   obtain⟨k,r,u⟩:=v kV e h g d j us (by rw[zAb] at o;exact o);exact W.binds_K X rfl t rfl r u),⟨a,i,k⟩,i⟩
end LV
namespace L2
open PySem PySem.Spec PyProof.Rows
section
variable{prog:Nq}{w:Nt}{A:Nr}{E:V'->δ->Prop}{s:δ}{K:P'}{x C:γ}
theorem qav8{Q:Option V'->δ->Prop}{ox:Obj}{a:Option Obj}(X:K.In s.heap)(c:Exc K C)(I:W.InstAt s.heap x ox C a)(b:W.findObj K C a "__class__"=some (.bind (.builtin "getset_descriptor.__get__") (.builtin "object.__class__")))(hm:W.mroIn K C (.type "object")=some true)(h:Q (some (.ref C)) {s with toks:=s.toks+1}):No (Np prog w) A (getAttr? (.ref x) "__class__") Q E s:=by
 have FB:=Qi;obtain⟨e,g,d,t,f⟩:=s;have L0:=I.type (M:=Np prog w);have L1:=W.looks_findIn (M:=Np prog w) X c.ga;have L2:=W.looks_findIn (M:=Np prog w) X c.gt;have L3:=W.looks_find (M:=Np prog w) X I b;have i:builtinKind "BaseException.__getattribute__"=some .slot:=by decide +kernel
 have j:splitId "BaseException.__getattribute__"=some ("BaseException", "__getattribute__"):=by decide +kernel
 unfold getAttr? getAttrBy? getAttrBy;refine G' (wpAny_mkText (G' (wpAny_attempt (M' (G' (L0.at (G' (L1.at ?_))))))));dsimp only;have k:(Py "BaseException.__getattribute__"==Py "object.__getattribute__")=false:=by decide +kernel
 rw[k,Bool.and_false,if_neg zAn];unfold getAttrByItsOwn hookBefore;refine G' ?_;rw[if_pos (by rfl)];refine L2.at ?_;unfold callGetattribute boundAndCalled;rw[if_neg ∅];refine G' (wpAny_attempt (M' ?_));rw[FB.ga.bind (.ref x)];refine G' (J' (wpAny_call ?_));refine codeAny_call_builtin FB.ga.plain Qr (@W.check_slot (Np prog w) _ _ _ "BaseException.__getattribute__" "BaseException" "__getattribute__" (.ref x) [.str "__class__" t] [] _ i j (L0.andThen (W.looks_mroIn X c.be)) (Qs (.ref x) (.str "__class__" t)) ?_);unfold Builtin.«object.__getattribute__»;refine G' (J' (G' (J' (G' (L0.at (G' (L3.at ?_)))))));dsimp only;refine G' (M' (wpAny_call (W.class_get (s:=⟨e,g,d,t+1,f⟩) (ox:=ox) (od:=a) X I hm ?_)));refine J' ?_;exact W.handed_on rfl (J' h)
end
structure IsX(K:P')(C:γ):Prop where
 ex:Exc K C
 ca:W.findIn K (.ref C) "__class__"=some (some (.builtin "object.__class__"))
 cn:W.specialIn K (.builtin "object.__class__") "__get__"=some (some (.builtin "getset_descriptor.__get__"))
 ct:W.takesIn K (.builtin "object.__class__")=some true
theorem qaI1{K:P'}{x C:γ}{ox od:Obj}(i:IsX K C):W.KitX K (.ref x) (.ref C) (λh=>W.InstAt h x ox C (some od)) where
 ty:=λ_ _ _ I=>I.type
 it:=λ_ _ X _=>by
  obtain⟨b,a,_⟩:=W.any_some i.ex.hd;unfold W.clsIn at a;split at a
  .rename_i c' d' cd' sl' ho
   intro A' Q' E' g k q;unfold isType loadHead;exact G' (wpAny_loadPart (k _ _ (X _ _ ho)) (J' q))
  cases a
 ne:=λh j l d n m X c=>by
  obtain⟨b,a,_⟩:=W.any_some i.ex.hd;refine Bool.eq_false_iff.mpr λq=>?_
  have e:=Value.ref.inj (zBm.mp q);subst e;unfold W.clsIn at a;split at a
  .rename_i c' d' cd' sl' ho
   cases ((X _ _ ho).symm.trans c)
  cases a
 ca:=λX I k=>qav8 X i.ex I (W.findObj_data (by obtain⟨o,f,_⟩:=W.any_some i.ex.hd;rw[f];rfl) i.ca i.cn i.ct) i.ex.ob k
def rIsX(K:P'):List V->Hp->VK->Prop:=λxs H Q=>∃a d u C dx fr fs b,xs=[.ref a,d]/\Q6 d u/\(∀c,Q6 d c->c=u)/\H a=some (Bm a C (some dx) fr)/\H dx=some (XD dx fs)/\IsX K C/\Qa K (.ref C) u=some b/\Q (.bl b) H
theorem qaL4{X:Cx}:CallR X (.builtin "isinstance") (rIsX X.K):=by intro Fm s T H D E Q I r h;obtain⟨a,d,u,C,F,G,J,b,rfl,L,c,e,f,ix,g,q⟩:=h;obtain⟨i,M,rfl,j,k⟩:=Ic r;obtain rfl:i=Pu a:=j;obtain rfl:=c _ k;obtain⟨l,N,m,n,o,p,_⟩:=qV7 I.hok e;obtain⟨O,t,r,P,_⟩:=L6 I.hok f;obtain⟨R,v,w⟩:=qz1 t;obtain⟨S,x,y,A⟩:=l;subst n o p;exact W.kia_one (qaI1 ix) I.kIn (⟨m,rfl,rfl,v⟩) g (λz=>nomatch z) λB=>⟨.bl b,H,I.tok B,rfl,q⟩
end L2
namespace LV
open PySem L2
section
theorem qG8{F:γ->Prop}{H:Hp}{f:Str}{d:D}:∀(a:List (Str×V))(b:List (Str×D)),a.map (·.1)=b.map (·.1)->Q2 F H (a.map (·.2)) (b.map (·.2)) []->b.lookup f=some d->∃v,a.lookup f=some v/\Q8 F H v d []|[],[],_,_,h=>by cases h|[],_::_,e,_,_=>by cases e|_::_,[],e,_,_=>by cases e|(k,v)::a,(k',d')::b,e,r,h=>by have g:=(List.cons.inj e).1;subst g;have r:=r;generalize i:([]:List γ)=N at r;cases r with|@cons _ _ B _ _ B' h1 t=>obtain⟨rfl,rfl⟩:=List.append_eq_nil_iff.mp i.symm;rw[zAv] at h ⊢;cases c:f==k with|true=>rw[c] at h;cases h;exact⟨v,rfl,h1⟩|false=>rw[c] at h;exact qG8 a b (List.cons.inj e).2 t h
end
theorem rm(r:Rc cm k A)(h:j<=k:=by decide):Rc cm j A:=r.mono h
theorem VFn.mk2(Fu:Fun K x qual st f fd)(Sc:qa9 N ps (qa4 st))(W:Nat->Bool)(c:Fq s)(h:∀ds Q xe,s ds Q xe->ds.length=ps.length/\Js W 0 ds=true)(hbody:∀(a:V')(A:Nr)(outer:List Env)(b:δ)(H:Hp)(E:XK)(av:List (Option V)),Rc cm k (A.deeper (PyProof.Rows.envOfC qual (qa4 st) b.heap.objs.size f a))->∃t,VSs ⟨λ_=>E,W,av,[]⟩ (Gz cm (CX1 P w) P w K mg base N qual (qa4 st) f a A outer b H E) (qd9 st) t/\∀ds Q xe,s ds Q xe->t (qaw0 W ds Q xe) (ds++N8 (N.length-ds.length) .u)):G0 cm P w K mg base (k+1) f fd ps s:=VFn.mk' Fu Sc W c (λds Q xe z=>(h ds Q xe z).1) (λds Q xe z=>(h ds Q xe z).2) hbody
def spPu(g:D->D->Option D):Sp:=λvs H Q _=>∃F u x d a b A B w,vs=[u,x]/\Q8 F H u a A/\Q8 F H x b B/\g a b=some d/\d.flat=some w/\Q w H
section
variable{c:Vc}{X:Cx}{e:Nu}{pos apos:Pos}{m qual:Str}{st:Nv}{f C:γ}{fd:ε}{ps:List Str}{k:Nat}{g:D->D->Option D}{fb:FV}{ob:Bool}
def fPu(C:γ)(m:Str)(g:D->D->Option D)(i:Nat)(fb:FV):FV:=λds=>(rdN i ds).bind λx=>if x.isM C m=true then (fb ds).bind λy=>(g x y).bind λd=>d.flat.map λ_=>d else none
theorem Q8.ofFlat(h:d.flat=some w):Q8 F H w d []:=by cases d with|non=>cases h;exact .non|bl b=>cases h;exact .bl b|int i=>cases h;exact .int i|str x=>cases h;exact .str x|_=>cases h
theorem qaX7{pl:Sem Bool}(i:Nat){xn:Str}{p0:Pos}(D:Md X.K C m qual st f fd ps)(P:Cls X.K C)(G:Fx X.prog X.w X.K X.mg X.base CX0 k f fd ps (spPu g))(R:Room k X.A)(T:VV c X e ob fb)(J:X.N[i]?=some xn:=by rfl)(U:Vis X.env.scope xn:=by first|exact Qx rfl|exact Qw (Qx rfl)|exact Qw (Qw rfl))(V:N' xn:=by decide)(n:(xn==("__classdict__" : Str))=false:=by decide)(l:M6 [e] X.env=(false,eval e X.env)::M6 [] X.env:=by rfl)(o:(backTo pos (M6 [] X.env)).any (·.1)=false:=by rfl)(W:eval (.Call (.Attribute (.Name xn p0) m apos) [e] [] pos) X.env=(do
 let ov<-eval (.Name xn p0) X.env
 standAt apos.atName
 let (f,first)<-holding [ov] (getMethod ov m pl)
 callWith pos f first (backTo pos (M6 [e] X.env)) (backToKw pos (Ni [] X.env))):=by rfl):VV c X (.Call (.Attribute (.Name xn p0) m apos) [e] [] pos) true (fPu C m g i fb):=by refine⟨λFm s σ H Q I p=>?_⟩;obtain⟨F,Y,A,d,S,j,q⟩:=p;refine qaz6 (qo9 J U V n) P D.me G R D.b .nil pass0 (qc6 T.h qk1 l) l o W Fm s σ H Q I ?_;obtain⟨x,Z,j⟩:=zA1.mp j;by_cases t:x.isM C m=true;{rw[if_pos t] at j;obtain⟨y,h2,j⟩:=zA1.mp j;obtain⟨d',h3,j⟩:=zA1.mp j;obtain⟨w,L,j⟩:=zA8.mp j;cases j;obtain⟨v,B0,u,M,_⟩:=S.name (qn6 J Fm σ H s I) Z;obtain⟨a,dx,fs,rfl,z,E⟩:=M.isM t;refine⟨.ref a,u,a,dx,fs,rfl,z,E,F,Y,A,y,S,h2,λv' H1 B r O _=>?_⟩;exact⟨F,_,_,_,x,y,B0,B,w,rfl,M.same O,r,h3,L,q w H1 [] (Q8.ofFlat L) O λ_=>New.nil⟩};rw[if_neg t] at j;cases j
def tbBV(pf:PF)(f:FV):VTB:=λds Q _=>orF (pf ds) λq=>orF (Bb ds q.1 q.2) λd=>d.known=true/\orF (f ds) λx=>x.imm=true/\∀w,Q [d,x] [.pl q.1 q.2 w,.no] (Bn ds q.1 q.2 (.hole w))
theorem vaBV{e2:Nu}{m:FV}(G:VP c X o pf)(I:VV c X e2 own m)(J:M6 (o::[e2]) X.env=(false,eval o X.env)::M6 [e2] X.env:=by rfl)(a:M6 [e2] X.env=(false,eval e2 X.env)::M6 [] X.env:=by rfl):VAs c X [o,e2] (tbBV pf m):=by
 refine⟨PA.mono (qc6 G.h (qc6 I.h qk1 a) J) λσ H Q g=>?_,λj Q Q' K L M Y=>qa5 λz=>qa5 λd=>P7 (qa5 λy=>P7 λh w=>M _ _ _ (h w))⟩;obtain⟨F,j,A,K,S,x,q⟩:=g;obtain⟨⟨i,p⟩,N,q⟩:=qa7.mp q;obtain⟨d,e2,n,q⟩:=qa7.mp q;obtain⟨y,O,P,q⟩:=qa7.mp q;refine⟨F,j,A,i,p,d,S,N,e2,qn8 n,λu w H0 R T k=>?_⟩;refine⟨F,j,A,y,S.same k,O,λv H1 Bv t l _=>?_⟩;obtain rfl:=t.imm P;have s:=λb o e=>l b o (k b o e);obtain⟨B,C,r,D,U⟩:=(S.same k).place e2 (qn8 n) R T;obtain⟨A1,V,q2⟩:=U (.hole w) [] (Kp.same λ_ _ z=>z) (λ_ _ z=>z) (.hole w);have E:Ok F H1 (B++A1):=(S.same s).ok.count λb=>by rw[zA0,q2,D];simp
 have W:Ra F H A F H1 (B++A1):=⟨λb o e _=>s b o e,λb o e z=>by rw[zA0,q2];have:=D b;simp;lia,λ_ f=>f,λ_ _ _ _ f=>f⟩;refine q w [w,v] H1 F B A1 ?_ (.so (.no .nil)) (⟨(V.same l),E.right,S.len,S.ag⟩) E W;have:=Q2.cons (r.same l) (Q2.cons t .nil);rwa[zAa,zAa] at this
end
end LV
namespace S6
open PySem PyProof.Rows
variable{N bs q:Nat}{arr xs:Array N2}{f:Nat->N2}{key:N2}{kf:V'->Int×Int}{l:Bool}{vs:List V'}
section
variable{f:Type}{le:f->f->Bool}
theorem mg_l{A2:List f}:∀{A1 Y:List f},(∀a∈A1,∀y∈Y,le a y=true)->N9 (A1++A2) Y le=A1++N9 A2 Y le|[],_,_=>rfl|x::A1,[],_=>by simp|x::A1,y::Y,h=>by rw[zBw,zBd,if_pos (h x (by simp) y (by simp)),mg_l λa b=>h a (by simp[b])];rfl
theorem mg_r{B2:List f}:∀{B1 X:List f},(∀b∈B1,∀x∈X,le x b=false)->N9 X (B1++B2) le=B1++N9 X B2 le|[],_,_=>rfl|b::B1,[],_=>by simp|b::B1,x::X,h=>by rw[zBw,zBd,if_neg (by simp[h b (by simp) x (by simp)]),mg_r λa c=>h a (by simp[c])];rfl
theorem Mi{A2:List f}:∀{A1 Y:List f},(∀a∈A2,∀y∈Y,le a y=false)->N9 (A1++A2) Y le=N9 A1 Y le++A2|[],Y,h=>by have:=mg_r (B2:=[]) λy c a b=>h a b y c;simpa using this|x::A1,[],_=>by simp|x::A1,y::Y,h=>by rw[zBw,zBd,zBd];split;{rw[Mi h];rfl};rw[<-zBw,Mi λa b z d=>h a b z (by simp[d])];rfl
theorem Kr{B2:List f}:∀{B1 X:List f},(∀b∈B2,∀x∈X,le x b=true)->N9 X (B1++B2) le=N9 X B1 le++B2|[],X,h=>by have:=mg_l (A2:=[]) λy d a c=>h a c y d;simpa using this|b::B1,[],_=>by simp|b::B1,x::X,h=>by rw[zBw,zBd,zBd];split;{rw[<-zBw,Kr λa c z e=>h a c z (by simp[e])];rfl};rw[Kr h];rfl
end
noncomputable def gal:Bool->N2->Array N2->Nat->Nat->Nat->StateT N3 Sem (Option Nat):=sortPriv% PySem.Builtin.gallop
def bey(l:Bool)(key:N2)(arr:Array N2)(i:Nat):StateT N3 Sem (Option Bool):=do
 let x<-elem' arr i
 if l then lt' x key else return (<- lt' key x).map (!·)
theorem qbe3(l:Bool)(key:N2)(arr:Array N2)(bs n g:Nat):gal l key arr bs n g=(do
 let mut p:=0
 let mut o:=1
 let mut u:=0
 let mut v:=0
 let some t<-bey l key arr (bs+g)|return none
 if t then
   let mo:=n-g
   for _ in [0:n] do
     if o ≥ mo then break
     let some c<-bey l key arr (bs+(g+o))|return none
     if !c then break
     p:=o
     o:=2*o+1
   u:=g+p+1
   v:=g+min o mo
 else
   let mo:=g+1
   for _ in [0:n] do
     if o ≥ mo then break
     let some c<-bey l key arr (bs+(g-o))|return none
     if c then break
     p:=o
     o:=2*o+1
   u:=g+1-min o mo
   v:=g-p
 for _ in [0:n] do
   if u ≥ v then break
   let m:=u+(v-u)/2
   let some c<-bey l key arr (bs+m)|return none
   if c then u:=m+1 else v:=m
 return some v):=rfl
section
variable{M:Model}{A:Nr}{E:V'->δ->Prop}{s:δ}{l n o:Type}{Q:o->l->Prop}{m:l}
theorem gB{f:l->StateT l Sem o}(h:wpS M A E s (f m) Q m):wpS M A E s (get >>= f) Q m:=Nw (wpS_get h)
theorem rB{f:Unit->StateT l Sem o}(h:wpS M A E s (f ()) Q m):wpS M A E s (liftM (rule t) >>= f) Q m:=Nw (wpS_lift (wpAny_rule ⟨rfl,h⟩))
theorem fB{f:Nat->n->StateT l Sem (ForInStep n)}(I:Nat->n->l->Prop)(R:n->l->Prop)(h1:∀F,f=F->∀i c m,a<=i->i<b->I i c m->∀K:ForInStep n->l->Prop,(∀e d,R e d->K (.done e) d)->(∀e d,I (i+1) e d->K (.yield e) d)->wpS M A E s (F i c) K m)(h2:∀c m,I (max a b) c m->R c m)(j:I a c m)(k:∀F,g=F->∀c m,R c m->wpS M A E s (F c) Q m):wpS M A E s (forIn [a:b] c f >>= g) Q m:=Nw (wpS_mono (wpS_forRange I (λi c m x y z=>h1 f rfl i c m x y z _ (λ_ _ h=>h) λ_ _ h=>h) h2 j) (k g rfl))
end
structure Od(lt:N2->N2->Bool):Prop where
 as:∀x y,lt x y=true->lt y x=false
 tr:∀x y z,lt y x=false->lt z y=false->lt z x=false
def Cm(prog:Nq)(w:Nt)(A:Nr)(s:δ)(kd:SortKind)(P:N2->Prop)(lt:N2->N2->Bool):Prop:=∀x y,P x->P y->∀(E:V'->δ->Prop)(Q:Bool->δ->Prop),Q (lt x y) s->No (Np prog w) A (keyLt' kd x.1 y.1) Q E s
section
variable{prog:Nq}{w:Nt}{A:Nr}{E:V'->δ->Prop}{s:δ}{kd:SortKind}{P:N2->Prop}{lt:N2->N2->Bool}{st:N3}
theorem Od.ir(h:Od lt)(x:N2):lt x x=false:=by cases e:lt x x with|false=>rfl|true=>rw[h.as x x e] at e;cases e
theorem wlt(a:Cm prog w A s kd P lt)(b:N4 st=kd)(c:P x)(d:P y)(h:Q (some (lt x y)) st):wpS (Np prog w) A E s (lt' x y) Q st:=by rw[lt'_eq];refine gB ?_;rw[b];exact Nw (wpS_lift (wpAny_attempt (a x y c d _ _ ⟨rfl,Nx h⟩)))
theorem wel(hi:arr[i]?=some p)(h:Q p st):wpS (Np prog w) A E s (elem' arr i) Q st:=by rw[elem'_eq,hi];exact Nx h
def B(lt:N2->N2->Bool)(l:Bool)(key x:N2):Bool:=if l then lt x key else !lt key x
theorem wif{α:Type}{c:Prop}[Decidable c]{m n:StateT N3 Sem α}{Q:α->N3->Prop}(h1:c->wpS (Np prog w) A E s m Q st)(h2:¬c->wpS (Np prog w) A E s n Q st):wpS (Np prog w) A E s (if c then m else n) Q st:=by by_cases h:c;{rw[if_pos h];exact h1 h};rw[if_neg h];exact h2 h
section
variable{u v n x i g o p:Nat}
theorem l2o(o:Nat):o+1<=2*o+1:=⋯
theorem g1(c:¬u ≥ v)(h:v-u<=n-x):u+(v-u)/2<v/\v-(u+(v-u)/2+1)<=n-(x+1)/\u+(v-u)/2-u<=n-(x+1):=by
 have q:=Nat.div_lt_self (Nat.sub_pos_of_lt (Nat.lt_of_not_le c)) (zA3 2);generalize (v-u)/2=m at *
 have t:=Nat.sub_le_sub_right h 1;exact⟨Nat.add_lt_of_lt_sub' q,zAg (Nat.sub_le_sub_left (zCh (Nat.le_add_right u m)) v) t,by rw[Nat.add_sub_cancel_left];exact zAg (Nat.le_pred_of_lt q) t⟩
theorem g2(h:v-u<=n-max 0 n)(hi:i<v):i<u:=⋯
theorem g3(h:max 0 n+1<=o)(h':o<n-g):False:=⋯
theorem g8(h:max 0 n+1<=o)(a:g<n)(h':o<g+1):False:=⋯
theorem g4(h:p<o)(h':g+p<n):g+p+1<=g+min o (n-g)/\g+min o (n-g)<=n:=⋯
theorem g5(h:g+min o (n-g)<=i)(h':i<n):g+o<=i/\o<n-g:=⋯
theorem g6(h:p<o)(h':p<=g):g+1-min o (g+1)<=g-p:=⋯
theorem g7(h:i<g+1-min o (g+1)):i<=g-o/\o<g+1:=by by_cases c:o<g+1;{rw[zCm (zBc c)] at h;exact⟨⋯,c⟩};rw[Nat.min_eq_right (zC2 c),Nat.sub_self] at h;exact absurd h (zCn _)
end
theorem yB{β:Type}{x:N2}{i:Nat}{f:Option Bool->StateT N3 Sem β}{Q:β->N3->Prop}(a:Cm prog w A s kd P lt)(b:N4 st=kd)(hi:arr[i]?=some x)(c:P x)(d:P key)(h:B lt l key x=true->wpS (Np prog w) A E s (f (some true)) Q st)(h':B lt l key x=false->wpS (Np prog w) A E s (f (some false)) Q st):wpS (Np prog w) A E s (bey l key arr i >>= f) Q st:=by
 have e:wpS (Np prog w) A E s (f (some (B lt l key x))) Q st:=by cases e:B lt l key x with|true=>exact h e|false=>exact h' e
 refine Nw ?_;unfold bey;refine Nw (wel hi ?_);cases l with|true=>exact wlt a b c d e|false=>exact Nw (wlt a b d c (Nx e))
theorem wgal(O:Cm prog w A s kd P lt)(R:N4 st=kd)(S:P key)(T:∀i,i<n->arr[bs+i]?=some (f i))(U:∀i,i<n->P (f i))(hm:∀i j,i<=j->j<n->B lt l key (f j)=true->B lt l key (f i)=true)(J:g<n)(h:∀k,k<=n->(∀i,i<k->B lt l key (f i)=true)->(∀i,k<=i->i<n->B lt l key (f i)=false)->Q (some k) st):wpS (Np prog w) A E s (gal l key arr bs n g) Q st:=by
 have L:∀i j,i<=j->j<n->B lt l key (f i)=false->B lt l key (f j)=false:=λi j a b c=>by cases e:B lt l key (f j) with|false=>rfl|true=>rw[hm i j a b e] at c;cases c
 have fin:∀u v,u<=v->v<=n->(∀i,i<u->B lt l key (f i)=true)->(∀i,v<=i->i<n->B lt l key (f i)=false)->wpS (Np prog w) A E s (do
  let mut u:=u
  let mut v:=v
  for _ in [0:n] do
   if u ≥ v then break
   let m:=u+(v-u)/2
   let some c<-bey l key arr (bs+m)|return none
   if c then u:=m+1 else v:=m
  return some v) Q st:=by
  intro u v Z X a3 a4;refine fB (λx c d=>d=st/\c.1=none/\c.2.1<=c.2.2/\c.2.2<=n/\c.2.2-c.2.1<=n-x/\(∀i,i<c.2.1->B lt l key (f i)=true)/\(∀i,c.2.2<=i->i<n->B lt l key (f i)=false)) (λc d=>d=st/\c.1=none/\c.2.2<=n/\(∀i,i<c.2.2->B lt l key (f i)=true)/\(∀i,c.2.2<=i->i<n->B lt l key (f i)=false)) ?_ ?_ ⟨rfl,rfl,Z,X,zAg (zC9 v u) X,a3,a4⟩ ?_
  .rintro F z x ⟨_,u,v⟩ d-Y ⟨rfl,rfl,y,C,t,r,H⟩ K p q
   subst z;refine wif (λc=>Nx (p _ _ ⟨rfl,rfl,C,λi I=>r i (zAc I c),H⟩)) λc=>?_
   have m:=g1 (u:=u) (v:=v) c t;have V:=zAc m.1 C;exact yB O R (T _ V) (U _ V) S (λG=>Nx (q _ _ ⟨rfl,rfl,m.1,C,m.2.1,λi I=>hm i _ (zBy I) V G,H⟩)) λG=>Nx (q _ _ ⟨rfl,rfl,Nat.le_add_right _ _,zBc V,m.2.2,r,λi D M=>L _ i D M G⟩)
  .exact λc d ⟨N,D,y,C,t,r,H⟩=>⟨N,D,C,λi I=>r i (g2 t I),H⟩
  rintro F z ⟨_,u,v⟩ d ⟨rfl,rfl,C,r,H⟩;subst z;exact Nx (h v C r H)
 rw[qbe3];refine yB O R (T _ J) (U _ J) S (λW=>wif (λ_=>?_) λc=>absurd rfl c) λW=>wif (λc=>nomatch c) λ_=>?_;{refine fB (λx c d=>d=st/\c.1=none/\c.2.1<c.2.2/\x+1<=c.2.2/\g+c.2.1<n/\B lt l key (f (g+c.2.1))=true) (λc d=>d=st/\c.1=none/\c.2.1<c.2.2/\g+c.2.1<n/\B lt l key (f (g+c.2.1))=true/\(c.2.2<n-g->B lt l key (f (g+c.2.2))=false)) ?_ ?_ ⟨rfl,rfl,Nat.one_pos,zA3 _,J,W⟩ ?_;{rintro F z x ⟨_,p,o⟩ d-Y ⟨rfl,rfl,y,C,t,r⟩ K u v;subst z;refine wif (λc=>Nx (u _ _ ⟨rfl,rfl,y,t,r,λh=>absurd h (Nat.not_lt_of_le c)⟩)) λc=>?_;have m:g+o<n:=Nat.add_lt_of_lt_sub' (Nat.lt_of_not_le c);exact yB O R (T _ m) (U _ m) S (λG=>Nx (v _ _ ⟨rfl,rfl,l2o o,zAg (zCh C) (l2o o),m,G⟩)) λG=>Nx (u _ _ ⟨rfl,rfl,y,t,r,λ_=>G⟩)};{exact λc d ⟨N,D,y,C,t,r⟩=>⟨N,D,y,t,r,λh=>(g3 C h).elim⟩};rintro F z ⟨_,p,o⟩ d ⟨rfl,rfl,y,t,r,H⟩;subst z;exact fin (g+p+1) (g+min o (n-g)) (g4 y t).1 (g4 y t).2 (λi I=>hm i _ (zBy I) t r) λi D M=>L (g+o) i (g5 D M).1 M (H (g5 D M).2)};refine fB (λx c d=>d=st/\c.1=none/\c.2.1<c.2.2/\x+1<=c.2.2/\c.2.1<=g/\B lt l key (f (g-c.2.1))=false) (λc d=>d=st/\c.1=none/\c.2.1<c.2.2/\c.2.1<=g/\B lt l key (f (g-c.2.1))=false/\(c.2.2<g+1->B lt l key (f (g-c.2.2))=true)) ?_ ?_ ⟨rfl,rfl,Nat.one_pos,zA3 _,zBi _,W⟩ ?_;{rintro F z x ⟨_,p,o⟩ d-Y ⟨rfl,rfl,y,C,t,r⟩ K u v;subst z;have m:g-o<n:=zC3 (zC9 g o) J;exact wif (λc=>Nx (u _ _ ⟨rfl,rfl,y,t,r,λh=>absurd h (Nat.not_lt_of_le c)⟩)) λc=>yB O R (T _ m) (U _ m) S (λG=>Nx (u _ _ ⟨rfl,rfl,y,t,r,λ_=>G⟩)) λG=>Nx (v _ _ ⟨rfl,rfl,l2o o,zAg (zCh C) (l2o o),zBy (Nat.lt_of_not_le c),G⟩)};{exact λc d ⟨N,D,y,C,t,r⟩=>⟨N,D,y,t,r,λh=>(g8 C J h).elim⟩};rintro F z ⟨_,p,o⟩ d ⟨rfl,rfl,y,t,r,H⟩;subst z;exact fin (g+1-min o (g+1)) (g-p) (g6 y t) (zAg (zC9 g p) (zBc J)) (λi I=>hm i (g-o) (g7 I).1 (zC3 (zC9 g o) J) (H (g7 I).2)) λi D M=>L _ i D M r
end
noncomputable abbrev lee(lt:N2->N2->Bool):N2->N2->Bool:=λx y=>!lt y x
section
variable{d:Type}{le:d->d->Bool}
theorem Mj{A2 Y:List d}{y:d}:∀{A1:List d},(∀a∈A1,le a y=true)->N9 (A1++A2) (y::Y) le=A1++N9 A2 (y::Y) le|[],_=>rfl|x::A1,h=>by rw[zBw,zBd,if_pos (h x (by simp)),Mj λa b=>h a (by simp[b])];rfl
theorem Ml{B2 X:List d}{x:d}:∀{B1:List d},(∀b∈B1,le x b=false)->N9 (x::X) (B1++B2) le=B1++N9 (x::X) B2 le|[],_=>rfl|b::B1,h=>by rw[zBw,zBd,if_neg (by simp[h b (by simp)]),Ml λa c=>h a (by simp[c])];rfl
end
noncomputable def att(a:Array N2)(i:Nat):N2:=a.getD i (Pw,Pw)
theorem qW5(h:i<a.size):a[i]?=some (att a i):=by simp[att,Array.getD,h]
theorem Gw(h:i<a.size):a.toList.drop i=att a i::a.toList.drop (i+1):=by rw[zC6 (by simpa using h)];simp[att,Array.getD,h]
def Srt(lt:N2->N2->Bool)(f:Nat->N2)(n:Nat):Prop:=∀i j,i<=j->j<n->lt (f j) (f i)=false
theorem Srt.drop(h:Srt lt f n):Srt lt (λi=>f (k+i)) (n-k):=λi j a b=>h _ _ ⋯ ⋯
theorem qx6(h:x∈(a.toList.drop i).take k):∃j,j<k/\i+j<a.size/\x=att a (i+j):=by obtain⟨j,b,e⟩:=List.mem_iff_getElem.mp h;rw[zBp,zCj,zB6] at b;refine⟨j,⋯,⋯,?_⟩;rw[<-e,Pc,Pd];simp[att,Array.getD,show i+j<a.size by lia]
theorem qd6{a:Array N2}:(a.extract i j).toList=(a.toList.drop i).take (j-i):=by simp[List.take_drop]
section
variable{prog:Nq}{w:Nt}{A:Nr}{E:V'->δ->Prop}{s:δ}{kd:SortKind}{P:N2->Prop}{lt:N2->N2->Bool}{st:N3}
theorem wgs(b:Od lt)(m:Cm prog w A s kd P lt)(o:N4 st=kd)(p:P key)(x:bs+n<=arr.size)(q:∀i,i<arr.size->P (att arr i))(r:Srt lt (λi=>att arr (bs+i)) n)(t:g<n)(h:∀k,k<=n->(∀i,i<k->B lt l key (att arr (bs+i))=true)->(∀i,k<=i->i<n->B lt l key (att arr (bs+i))=false)->Q (some k) st):wpS (Np prog w) A E s (gal l key arr bs n g) Q st:=by
 refine wgal (f:=λi=>att arr (bs+i)) m o p (λi u=>qW5 ⋯) (λi u=>q _ ⋯) (λi j a v c=>?_) t h;have d:=r i j a v;cases l with
 |false=>
  have e:lt key (att arr (bs+j))=false:=by simpa[B] using c
  show (!lt key (att arr (bs+i)))=true;rw[b.tr _ _ _ d e];rfl
 |true=>show lt (att arr (bs+i)) key=true;cases e:lt (att arr (bs+i)) key with|true=>rfl|false=>have:=b.tr _ _ _ e d;rw[show lt (att arr (bs+j)) key=true from c] at this;cases this
def R(st a:N3):Prop:=N4 a=N4 st/\N1 a=N1 st/\Ny a=Ny st/\Nz a=Nz st
noncomputable def mlo:Array N2->Array N2->StateT N3 Sem (Array N2):=sortPriv% PySem.Builtin.mergeLo
noncomputable def smg:Nat->StateT N3 Sem Unit:=sortPriv% PySem.Builtin.setMinGallop
theorem qbc1(a b:Array N2):mlo a b=(do
 rule "list.sort.merge-lo"
 let tt:=a.size+b.size
 let dn (o:Array N2) (i j:Nat):=o++a.extract i a.size++b.extract j b.size
 let la (o:Array N2) (i j:Nat):=o++b.extract j b.size++a.extract i a.size
 let mut o:Array N2:=#[<-elem' b 0]
 let mut i:=0
 let mut j:=1
 if j==b.size then return dn o i j
 if i+1==a.size then return la o i j
 let mut g:=gallopOf (<- get)
 for _ in [0:tt] do
   let mut x:=0
   let mut y:=0
   for _ in [0:tt] do
     let some t<-lt' (<- elem' b j) (<- elem' a i)|return dn o i j
     if t then
       o:=o.push (<- elem' b j);j:=j+1;y:=y+1;x:=0
       if j==b.size then return dn o i j
       if y ≥ g then break
     else
       o:=o.push (<- elem' a i);i:=i+1;x:=x+1;y:=0
       if i+1==a.size then return la o i j
       if x ≥ g then break
   rule "list.sort.gallop"
   g:=g+1
   for _ in [0:tt] do
     if g>1 then g:=g-1
     smg g
     let some k<-gal false (<- elem' b j) a i (a.size-i) 0|return dn o i j
     x:=k
     if k>0 then
       o:=o++a.extract i (i+k);i:=i+k
       if i+1==a.size then return la o i j
       if i==a.size then return dn o i j
     o:=o.push (<- elem' b j);j:=j+1
     if j==b.size then return dn o i j
     let some k<-gal true (<- elem' a i) b j (b.size-j) 0|return dn o i j
     y:=k
     if k>0 then
       o:=o++b.extract j (j+k);j:=j+k
       if j==b.size then return dn o i j
     o:=o.push (<- elem' a i);i:=i+1
     if i+1==a.size then return la o i j
     if x<7&&y<7 then break
   g:=g+1
   smg g
 unsupported "internal:list.sort.merge-bound"):=rfl
def Eq2(lt:N2->N2->Bool)(a b o:Array N2)(i j:Nat):Prop:=o.toList++N9 (a.toList.drop i) (b.toList.drop j) (lee lt)=N9 a.toList b.toList (lee lt)
variable{a b o:Array N2}{i j k:Nat}
theorem Eq2.done(h:Eq2 lt a b o i j)(c:j=b.size∨i=a.size):(o++a.extract i a.size++b.extract j b.size).toList=N9 a.toList b.toList (lee lt):=by rw[<-h,zB7,zB7,qd6,qd6,zAs];congr 1;rw[zAr (by simp),zAr (by simp)];rcases c with rfl|rfl;{rw[show b.toList.drop b.size=[] by simp,zAa,Pf]};rw[show a.toList.drop a.size=[] by simp,zB4,Pj]
theorem Eq2.last(h:Eq2 lt a b o i j)(hi:i+1=a.size)(d:∀n,n<b.size->lt (att b n) (att a i)=true):(o++b.extract j b.size++a.extract i a.size).toList=N9 a.toList b.toList (lee lt):=by
 rw[<-h,zB7,zB7,qd6,qd6,zAs];congr 1;rw[zAr (by simp),zAr (by simp),Gw (i:=i) ⋯,show a.toList.drop (i+1)=[] from Oj (by simp;lia)];have:=Ml (le:=lee lt) (B2:=[]) (X:=[]) (x:=att a i) (B1:=b.toList.drop j) λx c=>by rw[<-zAr (l:=b.toList.drop j) (zA3 _)] at c;obtain⟨n,_,e,rfl⟩:=qx6 c;simp[d _ e]
 rw[zAa] at this;rw[this];simp
theorem Eq2.pb(h:Eq2 lt a b o i j)(hi:i<a.size)(c:j<b.size)(d:lt (att b j) (att a i)=true):Eq2 lt a b (o.push (att b j)) i (j+1):=by unfold Eq2 at h ⊢;rw[<-h,Array.toList_push,zAs,Gw hi,Gw c,zBd,if_neg (by simp[d])];rfl
theorem Eq2.pa(h:Eq2 lt a b o i j)(hi:i<a.size)(c:j<b.size)(d:lt (att b j) (att a i)=false):Eq2 lt a b (o.push (att a i)) (i+1) j:=by unfold Eq2 at h ⊢;rw[<-h,Array.toList_push,zAs,Gw hi,Gw c,zBd,if_pos (by simp[d])];rfl
theorem Eq2.ga(h:Eq2 lt a b o i j)(c:j<b.size)(d:∀n,n<k->i+n<a.size->lt (att b j) (att a (i+n))=false):Eq2 lt a b (o++a.extract i (i+k)) (i+k) j:=by
 unfold Eq2 at h ⊢;rw[<-h,zB7,qd6,zAs,show i+k-i=k by lia,Gw c];congr 1;conv=>rhs;rw[<-zBh k (a.toList.drop i)]
 rw[Mj,O2];intro x e;obtain⟨n,f,g,rfl⟩:=qx6 e;simp[d n f g]
theorem Eq2.gb(h:Eq2 lt a b o i j)(hi:i<a.size)(c:∀n,n<k->j+n<b.size->lt (att b (j+n)) (att a i)=true):Eq2 lt a b (o++b.extract j (j+k)) i (j+k):=by
 unfold Eq2 at h ⊢;rw[<-h,zB7,qd6,zAs,show j+k-j=k by lia,Gw hi];congr 1;conv=>rhs;rw[<-zBh k (b.toList.drop j)]
 rw[Ml,O2];intro x d;obtain⟨n,e,f,rfl⟩:=qx6 d;simp[c n e f]
section
variable{β:Type}{Q:β->N3->Prop}
theorem eB{f:N2->StateT N3 Sem β}(hi:i<a.size)(h:wpS (Np prog w) A E s (f (att a i)) Q st):wpS (Np prog w) A E s (elem' a i >>= f) Q st:=Nw (wel (qW5 hi) h)
theorem lB{f:Option Bool->StateT N3 Sem β}(a:Cm prog w A s kd P lt)(b:N4 st=kd)(c:P x)(d:P y)(h:lt x y=true->wpS (Np prog w) A E s (f (some true)) Q st)(h':lt x y=false->wpS (Np prog w) A E s (f (some false)) Q st):wpS (Np prog w) A E s (lt' x y >>= f) Q st:=Nw (wlt a b c d (by cases e:lt x y<;>simp_all))
theorem mB{a:N3}{f:Unit->StateT N3 Sem β}(c:R a st)(h:∀b,R a b->wpS (Np prog w) A E s (f ()) Q b):wpS (Np prog w) A E s (smg g >>= f) Q st:=Nw (N0 (h _ c))
theorem sB{f:Option Nat->StateT N3 Sem β}(e:Od lt)(g:Cm prog w A s kd P lt)(j:N4 st=kd)(m:P key)(n:∀i,i<arr.size->P (att arr i))(o:Srt lt (att arr) arr.size)(p:bs<arr.size)(h:∀k,bs+k<=arr.size->(∀i,i<k->B lt l key (att arr (bs+i))=true)->(bs+k<arr.size->B lt l key (att arr (bs+k))=false)->wpS (Np prog w) A E s (f (some k)) Q st):wpS (Np prog w) A E s (gal l key arr bs (arr.size-bs) 0 >>= f) Q st:=Nw (wgs e g j m ⋯ n o.drop ⋯ λk a b c=>h k ⋯ b λd=>c k (zA3 _) ⋯)
end
theorem ltn{y:Nat}(h:¬(x==y)=true)(h':x<=y):x<y:=Nat.lt_of_le_of_ne h' λe=>h (zBm.mpr e)
theorem sa{x i j:Nat}(h:x<=i+j):x+1<=i+1+j:=Nat.succ_add i j ▸ zCh h
theorem la{x i j k:Nat}(h:x<=i+j):x<=i+(j+k):=⋯
theorem lb{x i j k:Nat}(h:x<=i+j):x<=i+k+j:=⋯
theorem nt{b:Bool}(h:(!b)=true):b=false:=by simpa using h
theorem nf{b:Bool}(h:(!b)=false):b=true:=by simpa using h
theorem wmlo(hO:Od lt)(Y:Cm prog w A s kd P lt)(Z:N4 st=kd)(L:∀n,n<a.size->P (att a n))(M:∀n,n<b.size->P (att b n))(a0:Srt lt (att a) a.size)(a1:Srt lt (att b) b.size)(V:0<a.size)(N:0<b.size)(h0:lt (att b 0) (att a 0)=true)(hl:∀n,n<b.size->lt (att b n) (att a (a.size-1))=true)(h:∀r f,R st f->r.toList=N9 a.toList b.toList (lee lt)->Q r f):wpS (Np prog w) A E s (mlo a b) Q st:=by
 have H:∀i,i+1=a.size->∀n,n<b.size->lt (att b n) (att a i)=true:=λi e n hn=>by rw[Nat.eq_sub_of_add_eq e];exact hl n hn
 have e1:Eq2 lt a b #[att b 0] 0 1:=Eq2.pb (o:=#[]) (i:=0) (j:=0) rfl V N h0;rw[qbc1];refine rB (eB N (wif (λc=>Nx (h _ st ⟨rfl,rfl,rfl,rfl⟩ (e1.done (.inl (eq_of_beq c))))) λc1=>wif (λc=>Nx (h _ st ⟨rfl,rfl,rfl,rfl⟩ (e1.last (eq_of_beq c) (H 0 (eq_of_beq c))))) λc2=>gB ?_));let D (c:Option (Array N2)):Prop:=∃r,c=some r/\r.toList=N9 a.toList b.toList (lee lt)
 let G (n:Nat) (o:Array N2) (i j:Nat):Prop:=Eq2 lt a b o i j/\i+1<a.size/\j<b.size/\n<=i+j;refine fB (λx c f=>R st f/\c.1=none/\G (x+1) c.2.1 c.2.2.1 c.2.2.2.1) (λc f=>R st f/\D c.1) ?_ ?_ ⟨⟨rfl,rfl,rfl,rfl⟩,rfl,e1,ltn c2 V,ltn c1 N,zA3 _⟩ ?_
 .rintro F z x ⟨_,o,i,j,g⟩ O-hx ⟨W,rfl,g1,g2,g3,g4⟩ K p n;subst z;refine fB (λy c f=>R st f/\c.1=none/\G (x+1+y) c.2.1 c.2.2.1 c.2.2.2.1) (λc f=>R st f/\(D c.1∨c.1=none/\G (x+2) c.2.1 c.2.2.1 c.2.2.2.1)) ?_ ?_ ⟨W,rfl,g1,g2,g3,g4⟩ ?_;{rintro F z y ⟨_,o,i,j,_,_⟩ S-hy ⟨m,rfl,v,t,l,B⟩ K p n;subst z;have I:=zCc t;have k6:=zAg (Nat.le_add_right (x+1) y) B;refine eB l (eB I (lB Y (m.1.trans Z) (M _ l) (L _ I) (λhb=>?_) λhb=>?_));{have e2:=v.pb I l hb;exact eB l (wif (λc=>Nx (p _ _ ⟨m,.inl ⟨_,rfl,e2.done (.inl (eq_of_beq c))⟩⟩)) λc=>wif (λ_=>Nx (p _ _ ⟨m,.inr ⟨rfl,e2,t,ltn c l,zCh k6⟩⟩)) λ_=>Nx (n _ _ ⟨m,rfl,e2,t,ltn c l,zCh B⟩))};have e2:=v.pa I l hb;exact eB I (wif (λc=>Nx (p _ _ ⟨m,.inl ⟨_,rfl,e2.last (eq_of_beq c) (H _ (eq_of_beq c))⟩⟩)) λc=>wif (λ_=>Nx (p _ _ ⟨m,.inr ⟨rfl,e2,ltn c t,l,sa k6⟩⟩)) λ_=>Nx (n _ _ ⟨m,rfl,e2,ltn c t,l,sa B⟩))};{rintro c S ⟨m,k0,v,t,l,B⟩;exact⟨m,.inr ⟨k0,v,t,l,⋯⟩⟩};rintro F z ⟨c,c'⟩ S ⟨m,⟨r,rfl,e⟩|⟨e,v,t,l,B⟩⟩;{subst z;exact Nx (p _ _ ⟨m,r,rfl,e⟩)};cases e;subst z;refine rB (fB (λy c f=>R st f/\c.1=none/\G (x+2) c.2.1 c.2.2.1 c.2.2.2.1) (λc f=>R st f/\(D c.1∨c.1=none/\G (x+2) c.2.1 c.2.2.1 c.2.2.2.1)) ?_ ?_ ⟨m,rfl,v,t,l,B⟩ ?_)
  .rintro F z y ⟨_,o,i,j,g,_,_⟩ a2-hy ⟨r3,rfl,v,t,l,B⟩ K p n;subst z;have I:=zCc t;dsimp -zeta only;extract_lets +onlyGivenNames _ _ _ _ _ _ _ _ _ _ _ _ J;suffices u:∀g,wpS (Np prog w) A E s (J () g) K a2 from wif (λ_=>u _) λ_=>u _
   intro g;dsimp +zetaDelta -zeta only;refine mB r3 λT C=>eB l (sB hO Y (C.1.trans Z) (M _ l) L a0 I λk q1 q2 q3=>?_);dsimp -zeta only;extract_lets +onlyGivenNames _ J;have ea:=v.ga (k:=k) l λn h1 _=>nt (q2 n h1);suffices u:∀o i,Eq2 lt a b o i j->i+1<a.size->x+2<=i+j->lt (att b j) (att a i)=true->wpS (Np prog w) A E s (J () o i) K T from wif (λc=>wif (λd=>Nx (p _ _ ⟨C,.inl ⟨_,rfl,ea.last (eq_of_beq d) (H _ (eq_of_beq d))⟩⟩)) λd=>wif (λX=>Nx (p _ _ ⟨C,.inl ⟨_,rfl,ea.done (.inr (eq_of_beq X))⟩⟩)) λX=>u _ _ ea (ltn d (ltn X q1)) (lb B) (nf (q3 (ltn X q1)))) λc=>by obtain rfl:=Nat.eq_zero_of_not_pos c;exact u _ _ v t B (nf (q3 I))
   intro o i e z1 zb z;dsimp +zetaDelta -zeta only;have U:=zCc z1;have e2:=e.pb U l z;refine eB l (wif (λd=>Nx (p _ _ ⟨C,.inl ⟨_,rfl,e2.done (.inl (eq_of_beq d))⟩⟩)) λd=>?_);have z2:=ltn d l;refine eB U (sB hO Y (C.1.trans Z) (L _ U) M a1 z2 λq p1 p2 p3=>?_);dsimp -zeta only;extract_lets +onlyGivenNames _ _ J;have eb:=e2.gb (k:=q) U λn h1 h2=>p2 n h1;suffices u:∀o j,Eq2 lt a b o i j->j<b.size->x+2<=i+j->lt (att b j) (att a i)=false->wpS (Np prog w) A E s (J () o j) K T from wif (λc=>wif (λd=>Nx (p _ _ ⟨C,.inl ⟨_,rfl,eb.done (.inl (eq_of_beq d))⟩⟩)) λd=>u _ _ eb (ltn d p1) (la (la zb)) (p3 (ltn d p1))) λc=>by obtain rfl:=Nat.eq_zero_of_not_pos c;exact u _ _ e2 z2 (la zb) (p3 z2)
   intro o j e3 z3 zc z4;have z5:=e3.pa U z3 z4;refine eB U (wif (λd=>Nx (p _ _ ⟨C,.inl ⟨_,rfl,z5.last (eq_of_beq d) (H _ (eq_of_beq d))⟩⟩)) λd=>?_);exact wif (λ_=>Nx (p _ _ ⟨C,.inr ⟨rfl,z5,ltn d z1,z3,lb zc⟩⟩)) λ_=>Nx (n _ _ ⟨C,rfl,z5,ltn d z1,z3,lb zc⟩)
  {exact λ_ _ z=>⟨z.1,.inr z.2⟩};rintro F z ⟨c,c'⟩ S ⟨m,⟨r,rfl,e⟩|⟨e,v,t,l,B⟩⟩<;>subst z;{exact Nx (p _ _ ⟨m,r,rfl,e⟩)};cases e;exact mB m λT C=>Nx (n _ _ ⟨C,rfl,v,t,l,B⟩)
 {rintro c O ⟨W,_,g1,g2,g3,g4⟩;lia};rintro F z ⟨c,c'⟩ O ⟨W,r,rfl,e⟩;subst z;exact Nx (h r O W e)
end
section
variable{prog:Nq}{w:Nt}{A:Nr}{E:V'->δ->Prop}{s:δ}{kd:SortKind}{P:N2->Prop}{lt:N2->N2->Bool}{st:N3}
noncomputable def mhi:Array N2->Array N2->StateT N3 Sem (Array N2):=sortPriv% PySem.Builtin.mergeHi
theorem qbc2(a b:Array N2):mhi a b=(do
 rule "list.sort.merge-hi"
 let tt:=a.size+b.size
 let dn (o:Array N2) (i j:Nat):=a.extract 0 i++b.extract 0 j++o.reverse
 let fb (o:Array N2) (i j:Nat):=b.extract 0 j++a.extract 0 i++o.reverse
 let mut i:=a.size-1
 let mut j:=b.size
 let mut o:Array N2:=#[<-elem' a i]
 if i==0 then return dn o i j
 if j==1 then return fb o i j
 let mut g:=gallopOf (<- get)
 for _ in [0:tt] do
   let mut x:=0
   let mut y:=0
   for _ in [0:tt] do
     let some t<-lt' (<- elem' b (j-1)) (<- elem' a (i-1))|return dn o i j
     if t then
       i:=i-1;o:=o.push (<- elem' a i);x:=x+1;y:=0
       if i==0 then return dn o i j
       if x ≥ g then break
     else
       j:=j-1;o:=o.push (<- elem' b j);y:=y+1;x:=0
       if j==1 then return fb o i j
       if y ≥ g then break
   rule "list.sort.gallop"
   g:=g+1
   for _ in [0:tt] do
     if g>1 then g:=g-1
     smg g
     let some q<-gal false (<- elem' b (j-1)) a 0 i (i-1)|return dn o i j
     let k:=i-q
     x:=k
     if k>0 then
       o:=o++(a.extract q i).reverse;i:=q
       if i==0 then return dn o i j
     j:=j-1;o:=o.push (<- elem' b j)
     if j==1 then return fb o i j
     let some q<-gal true (<- elem' a (i-1)) b 0 j (j-1)|return dn o i j
     let k:=j-q
     y:=k
     if k>0 then
       o:=o++(b.extract q j).reverse;j:=q
       if j==1 then return fb o i j
       if j==0 then return dn o i j
     i:=i-1;o:=o.push (<- elem' a i)
     if i==0 then return dn o i j
     if x<7&&y<7 then break
   g:=g+1
   smg g
 unsupported "internal:list.sort.merge-bound"):=rfl
def Eq3(lt:N2->N2->Bool)(a b o:Array N2)(i j:Nat):Prop:=N9 (a.toList.take i) (b.toList.take j) (lee lt)++o.toList.reverse=N9 a.toList b.toList (lee lt)
variable{a b o:Array N2}{i j k:Nat}
theorem Mm{a:Array N2}{k:Nat}{x:N2}(h:x∈a.toList.take k):∃j,j<k/\j<a.size/\x=att a j:=by obtain⟨j,b,c,e⟩:=qx6 (i:=0) (by simpa using h);exact⟨j,b,⋯,by rw[e,zAl]⟩
theorem qag0{a:Array N2}{i:Nat}(h:q<=i):a.toList.take i=a.toList.take q++(a.extract q i).toList:=by rw[qd6];conv=>lhs;rw[show i=q+(i-q) by lia,Ps]
theorem ext1{a:Array N2}{i:Nat}(h:0<i)(hi:i<=a.size):(a.extract (i-1) i).toList=[att a (i-1)]:=by rw[qd6,Gw ⋯,show i-(i-1)=1 by lia];rfl
theorem Eq3.done(h:Eq3 lt a b o i j)(c:i=0∨j=0):(a.extract 0 i++b.extract 0 j++o.reverse).toList=N9 a.toList b.toList (lee lt):=by rw[<-h,zB7,zB7,qd6,qd6,Array.toList_reverse];congr 1;rcases c with rfl|rfl;{simp};simp
theorem Eq3.first(h:Eq3 lt a b o i j)(c:j=1)(k:0<b.size)(d:∀n,n<a.size->lt (att b 0) (att a n)=true):(b.extract 0 j++a.extract 0 i++o.reverse).toList=N9 a.toList b.toList (lee lt):=by
 rw[<-h,zB7,zB7,qd6,qd6,Array.toList_reverse];congr 1;subst c;have:=mg_r (le:=lee lt) (B2:=[]) (B1:=b.toList.take 1) (X:=a.toList.take i) λy e x f=>by obtain⟨n,_,g,rfl⟩:=Mm f;obtain⟨m,l,p,rfl⟩:=Mm e;obtain rfl:m=0:=⋯;simp[d _ g]
 rw[zAa] at this;rw[this];simp
theorem Eq3.ga(h:Eq3 lt a b o i j)(f:Od lt)(c:Srt lt (att b) b.size)(g:q<=i)(s:0<j)(k:j<=b.size)(l:∀n,q<=n->n<i->n<a.size->lt (att b (j-1)) (att a n)=true):Eq3 lt a b (o++(a.extract q i).reverse) q j:=by unfold Eq3 at h ⊢;rw[<-h,qag0 g,Mi];{simp};intro x d y p;rw[qd6] at d;obtain⟨n,t,r,rfl⟩:=qx6 d;obtain⟨m,u,v,rfl⟩:=Mm p;have e:=l (q+n) ⋯ ⋯ r;show (!lt (att b m) (att a (q+n)))=false;cases e2:lt (att b m) (att a (q+n)) with|true=>rfl|false=>rw[f.tr _ _ _ e2 (c m (j-1) ⋯ ⋯)] at e;cases e
theorem Eq3.gb(h:Eq3 lt a b o i j)(e:Od lt)(c:Srt lt (att a) a.size)(f:q<=j)(hi:0<i)(g:i<=a.size)(k:∀n,q<=n->n<j->n<b.size->lt (att b n) (att a (i-1))=false):Eq3 lt a b (o++(b.extract q j).reverse) i q:=by unfold Eq3 at h ⊢;rw[<-h,qag0 f,Kr];{simp};intro y d x l;rw[qd6] at d;obtain⟨n,r,p,rfl⟩:=qx6 d;obtain⟨m,s,t,rfl⟩:=Mm l;show (!lt (att b (q+n)) (att a m))=true;rw[e.tr _ _ _ (c m (i-1) ⋯ ⋯) (k (q+n) ⋯ ⋯ p)];rfl
theorem Eq3.pa(h:Eq3 lt a b o i j)(f:Od lt)(c:Srt lt (att b) b.size)(hi:0<i)(d:i<=a.size)(g:0<j)(e:j<=b.size)(k:lt (att b (j-1)) (att a (i-1))=true):Eq3 lt a b (o.push (att a (i-1))) (i-1) j:=by
 have:=h.ga f c (q:=i-1) ⋯ g e λn l m _=>by rw[show n=i-1 by lia];exact k
 rwa[show o++(a.extract (i-1) i).reverse=o.push (att a (i-1)) from Array.toList_inj.mp (by rw[zB7,Array.toList_reverse,ext1 hi d,Array.toList_push];rfl)] at this
theorem Eq3.pb(h:Eq3 lt a b o i j)(f:Od lt)(c:Srt lt (att a) a.size)(hi:0<i)(d:i<=a.size)(g:0<j)(e:j<=b.size)(k:lt (att b (j-1)) (att a (i-1))=false):Eq3 lt a b (o.push (att b (j-1))) i (j-1):=by
 have:=h.gb f c (q:=j-1) ⋯ hi d λn l m _=>by rw[show n=j-1 by lia];exact k
 rwa[show o++(b.extract (j-1) j).reverse=o.push (att b (j-1)) from Array.toList_inj.mp (by rw[zB7,Array.toList_reverse,ext1 g e,Array.toList_push];rfl)] at this
theorem pz(h:¬(x==0)=true):0<x:=Nat.pos_of_ne_zero λe=>h (zBm.mpr e)
theorem p1(h:¬(x==1)=true)(h':0<x):1<x:=Nat.lt_of_le_of_ne h' λe=>h (zBm.mpr e.symm)
theorem dy{x y i j:Nat}(h:x+y+i+j<=N):x+i+j<=N:=⋯
theorem lc{x i j:Nat}(h:x+i+j<=N)(h':q<=i):x+q+j<=N:=⋯
theorem ld{x i j:Nat}(h:x+i+j<=N)(h':q<=j):x+i+q<=N:=⋯
theorem mw{x i j:Nat}(h:x+i+j<=N)(h':0<i):x+1+(i-1)+j<=N:=⋯
theorem mv{x i j:Nat}(h:x+i+j<=N)(h':0<j):x+1+i+(j-1)<=N:=⋯
theorem sH{β:Type}{Q:β->N3->Prop}{n:Nat}{f:Option Nat->StateT N3 Sem β}(e:Od lt)(g:Cm prog w A s kd P lt)(m:N4 st=kd)(o:P key)(p:∀i,i<arr.size->P (att arr i))(r:Srt lt (att arr) arr.size)(t:0<n)(u:n<=arr.size)(h:∀q,q<=n->(0<q->B lt l key (att arr (q-1))=true)->(∀i,q<=i->i<n->B lt l key (att arr i)=false)->wpS (Np prog w) A E s (f (some q)) Q st):wpS (Np prog w) A E s (gal l key arr 0 n (n-1) >>= f) Q st:=Nw (wgs e g m o ⋯ p (λi j a b=>r _ _ ⋯ ⋯) ⋯ λk a b c=>h k a (λd=>zAl (k-1) ▸ b _ (Nat.sub_one_lt_of_lt d)) λi x y=>zAl i ▸ c i x y)
theorem wmhi(S:Od lt)(hC:Cm prog w A s kd P lt)(hk:N4 st=kd)(W:∀n,n<a.size->P (att a n))(X:∀n,n<b.size->P (att b n))(T:Srt lt (att a) a.size)(L:Srt lt (att b) b.size)(Y:0<a.size)(B:0<b.size)(h0:∀n,n<a.size->lt (att b 0) (att a n)=true)(hl:lt (att b (b.size-1)) (att a (a.size-1))=true)(h:∀r f,R st f->r.toList=N9 a.toList b.toList (lee lt)->Q r f):wpS (Np prog w) A E s (mhi a b) Q st:=by
 have e1:Eq3 lt a b #[att a (a.size-1)] (a.size-1) b.size:=Eq3.pa (o:=#[]) (i:=a.size) (j:=b.size) (by unfold Eq3;rw[show a.toList.take a.size=a.toList from zAr (zCd zB6),show b.toList.take b.size=b.toList from zAr (zCd zB6)];simp) S L Y (zA3 _) B (zA3 _) hl;rw[qbc2];refine rB (eB (Nat.sub_one_lt_of_lt Y) (wif (λc=>Nx (h _ st ⟨rfl,rfl,rfl,rfl⟩ (e1.done (.inl (eq_of_beq c))))) λc1=>wif (λc=>Nx (h _ st ⟨rfl,rfl,rfl,rfl⟩ (e1.first (eq_of_beq c) B h0))) λc2=>gB ?_));let D (c:Option (Array N2)):Prop:=∃r,c=some r/\r.toList=N9 a.toList b.toList (lee lt)
 let G (n:Nat) (o:Array N2) (i j:Nat):Prop:=Eq3 lt a b o i j/\0<i/\i<=a.size/\1<j/\j<=b.size/\n+i+j<=a.size+b.size;refine fB (λx c f=>R st f/\c.1=none/\G (x+1) c.2.2.2.1 c.2.1 c.2.2.1) (λc f=>R st f/\D c.1) ?_ ?_ ⟨⟨rfl,rfl,rfl,rfl⟩,rfl,e1,pz c1,zC9 _ _,p1 c2 B,zA3 _,mw (x:=0) ⋯ Y⟩ ?_
 .rintro F z x ⟨_,i,j,o,g⟩ Z-hx ⟨r1,rfl,g1,g2,g3,g4,g5,g6⟩ K p n;subst z;refine fB (λy c f=>R st f/\c.1=none/\G (x+1+y) c.2.2.2.1 c.2.1 c.2.2.1) (λc f=>R st f/\(D c.1∨c.1=none/\G (x+2) c.2.2.2.1 c.2.1 c.2.2.1)) ?_ ?_ ⟨r1,rfl,g1,g2,g3,g4,g5,g6⟩ ?_;{rintro F z y ⟨_,i,j,o,_,_⟩ a0-hy ⟨l,rfl,M,k,m,C,v,H⟩ K p n;subst z;have U:=zCc C;have N:=Nat.sub_one_lt_of_le k m;have I:=Nat.sub_one_lt_of_le U v;refine eB I (eB N (lB hC (l.1.trans hk) (X _ I) (W _ N) (λhb=>?_) λhb=>?_));{have e2:=M.pa S L k m U v hb;exact eB N (wif (λc=>Nx (p _ _ ⟨l,.inl ⟨_,rfl,e2.done (.inl (eq_of_beq c))⟩⟩)) λc=>wif (λ_=>Nx (p _ _ ⟨l,.inr ⟨rfl,e2,pz c,zBc N,C,v,mw (dy H) k⟩⟩)) λ_=>Nx (n _ _ ⟨l,rfl,e2,pz c,zBc N,C,v,mw H k⟩))};have e2:=M.pb S T k m U v hb;have y0:=Nat.sub_pos_of_lt C;exact eB I (wif (λc=>Nx (p _ _ ⟨l,.inl ⟨_,rfl,e2.first (eq_of_beq c) B h0⟩⟩)) λc=>wif (λ_=>Nx (p _ _ ⟨l,.inr ⟨rfl,e2,k,m,p1 c y0,zBc I,mv (dy H) U⟩⟩)) λ_=>Nx (n _ _ ⟨l,rfl,e2,k,m,p1 c y0,zBc I,mv H U⟩))};{rintro c a0 ⟨l,k0,M,k,m,C,v,H⟩;exact⟨l,.inr ⟨k0,M,k,m,C,v,⋯⟩⟩};rintro F z ⟨c,c'⟩ a0 ⟨l,⟨r,rfl,e⟩|⟨e,M,k,m,C,v,H⟩⟩;{subst z;exact Nx (p _ _ ⟨l,r,rfl,e⟩)};cases e;subst z;refine rB (fB (λy c f=>R st f/\c.1=none/\G (x+2) c.2.2.2.1 c.2.1 c.2.2.1) (λc f=>R st f/\(D c.1∨c.1=none/\G (x+2) c.2.2.2.1 c.2.1 c.2.2.1)) ?_ ?_ ⟨l,rfl,M,k,m,C,v,H⟩ ?_)
  .rintro F z y ⟨_,i,j,o,g,_,_⟩ a2-hy ⟨r3,rfl,M,k,m,C,v,H⟩ K p n;subst z;have U:=zCc C;have I:=Nat.sub_one_lt_of_le U v;have y0:=Nat.sub_pos_of_lt C;dsimp -zeta only;extract_lets +onlyGivenNames _ _ _ _ _ _ _ _ _ _ _ _ J;suffices u:∀g,wpS (Np prog w) A E s (J () g) K a2 from wif (λ_=>u _) λ_=>u _
   intro g;dsimp +zetaDelta -zeta only;refine mB r3 λa1 O=>eB I (sH S hC (O.1.trans hk) (X _ I) W T k m λq V q2 q3=>?_);dsimp -zeta only;extract_lets +onlyGivenNames _ _ J;have ea:=M.ga S L V U v λn h1 h2 _=>nf (q3 n h1 h2);suffices u:∀i o,Eq3 lt a b o i j->0<i->i<=a.size->x+2+i+j<=a.size+b.size->lt (att b (j-1)) (att a (i-1))=false->wpS (Np prog w) A E s (J () i o) K a1 from wif (λc=>wif (λd=>Nx (p _ _ ⟨O,.inl ⟨_,rfl,ea.done (.inl (eq_of_beq d))⟩⟩)) λd=>u _ _ ea (pz d) (zAg V m) (lc H V) (nt (q2 (pz d)))) λc=>by obtain rfl:=Nat.le_antisymm V (Nat.le_of_sub_eq_zero (Nat.eq_zero_of_not_pos c));exact u _ _ M k m H (nt (q2 k))
   intro i o e z1 z2 zb z;dsimp +zetaDelta -zeta only;have N:=Nat.sub_one_lt_of_le z1 z2;have e2:=e.pb S T z1 z2 U v z;refine eB I (wif (λd=>Nx (p _ _ ⟨O,.inl ⟨_,rfl,e2.first (eq_of_beq d) B h0⟩⟩)) λd=>?_);refine eB N (sH S hC (O.1.trans hk) (W _ N) X L y0 (zBc I) λq V q2 q3=>?_);dsimp -zeta only;extract_lets +onlyGivenNames _ _ _ J;have eb:=e2.gb S T V z1 z2 λn h1 h2 _=>q3 n h1 h2;suffices u:∀j o,Eq3 lt a b o i j->1<j->j<=b.size->x+2+i+j<=a.size+b.size->lt (att b (j-1)) (att a (i-1))=true->wpS (Np prog w) A E s (J () j o) K a1 from wif (λc=>wif (λd=>Nx (p _ _ ⟨O,.inl ⟨_,rfl,eb.first (eq_of_beq d) B h0⟩⟩)) λd=>wif (λt=>Nx (p _ _ ⟨O,.inl ⟨_,rfl,eb.done (.inr (eq_of_beq t))⟩⟩)) λt=>u _ _ eb (p1 d (pz t)) (zAg V (zBc I)) (ld (ld zb (zC9 _ 1)) V) (q2 (pz t))) λc=>by obtain rfl:=Nat.le_antisymm V (Nat.le_of_sub_eq_zero (Nat.eq_zero_of_not_pos c));exact u _ _ e2 (p1 d y0) (zBc I) (ld zb (zC9 _ 1)) (q2 y0)
   intro j o e3 y1 y2 y5 y4;have e4:=e3.pa S L z1 z2 (zCc y1) y2 y4;exact eB N (wif (λd=>Nx (p _ _ ⟨O,.inl ⟨_,rfl,e4.done (.inl (eq_of_beq d))⟩⟩)) λd=>wif (λ_=>Nx (p _ _ ⟨O,.inr ⟨rfl,e4,pz d,zBc N,y1,y2,lc y5 (zC9 _ 1)⟩⟩)) λ_=>Nx (n _ _ ⟨O,rfl,e4,pz d,zBc N,y1,y2,lc y5 (zC9 _ 1)⟩))
  {exact λ_ _ z=>⟨z.1,.inr z.2⟩};rintro F z ⟨c,c'⟩ a0 ⟨l,⟨r,rfl,e⟩|⟨e,M,k,m,C,v,H⟩⟩<;>subst z;{exact Nx (p _ _ ⟨l,r,rfl,e⟩)};cases e;exact mB l λa1 O=>Nx (n _ _ ⟨O,rfl,M,k,m,C,v,H⟩)
 {rintro c Z ⟨r1,_,g1,g2,g3,g4,g5,g6⟩;lia};rintro F z ⟨c,c'⟩ Z ⟨r1,r,rfl,e⟩;subst z;exact Nx (h r Z r1 e)
end
theorem qo6(h:xs[i]?=ys[j]?):att xs i=att ys j:=by
 have e:∀(a:Array N2) k,att a k=(a[k]?).getD (Pw,Pw):=λa k=>by simp[att,Array.getD_eq_getD_getElem?]
 rw[e,e,h]
theorem qap2(a:src<xs.size)(b:d<=src)(k:Nat):att (bubble xs src d) k=if k=src-d then att xs src else if src-d<k/\k<=src then att xs (k-1) else att xs k:=by have e:=getElem?_bubble a d b k;split at e;{rw[if_pos (by assumption)];exact qo6 e};rw[if_neg (by assumption)];split at e;{rw[if_pos (by assumption)];exact qo6 e};rw[if_neg (by assumption)];exact qo6 e
theorem qap1(a:j<=xs.size)(k:Nat):att (mirror xs i j ((j-i)/2)) k=if i<=k/\k<j then att xs (i+j-1-k) else att xs k:=by have e:=getElem?_mirror_all (i:=i) a k;split at e;{rw[if_pos (by assumption)];exact qo6 e};rw[if_neg (by assumption)];exact qo6 e
theorem qaC1(h:i<a.size):att a i∈a.toList:=by simp[att,Array.getD,h]
theorem Srt.more(h:Srt lt f x)(d:Od lt)(e:0<x->lt (f x) (f (x-1))=false):Srt lt f (x+1):=λi j a b=>by
 by_cases c:j<x
 .exact h i j a c
 obtain rfl:j=x:=⋯
 by_cases q:i=j
 .rw[q];exact d.ir _
 exact d.tr _ _ _ (h i (j-1) ⋯ ⋯) (e ⋯)
structure Bt(a0:Array N2)(lo:Nat)(st st':N3):Prop where
 kd:N4 st'=N4 st
 fl:Nz st'=Nz st
 pd:Ny st'=Ny st
 pm:(N1 st').Perm a0
 pr:∀i,i<lo->att (N1 st') i=att (N1 st) i
section
variable{prog:Nq}{w:Nt}{A:Nr}{E:V'->δ->Prop}{s:δ}{kd:SortKind}{lt:N2->N2->Bool}{st X:N3}{Z:Array N2}{Y:Nat}
theorem Bt.sz(h:Bt Z Y st X):(N1 X).size=Z.size:=h.pm.size_eq
theorem Bt.mem(h:Bt Z Y st X)(hi:i<Z.size):att (N1 X) i∈Z.toList:=(zBq.mp h.pm).mem_iff.mp (qaC1 (by rw[h.sz];exact hi))
theorem Bt.set(h:Bt Z Y st X)(b:xs.Perm (N1 X))(c:∀i,i<Y->att xs i=att (N1 X) i):Bt Z Y st (N5 X xs):=⟨h.kd,h.fl,h.pd,b.trans h.pm,λi a=>(c i a).trans (h.pr i a)⟩
abbrev Cn(prog:Nq)(w:Nt)(A:Nr)(s:δ)(kd:SortKind)(Z:Array N2)(lt:N2->N2->Bool):Prop:=Cm prog w A s kd (λx=>x∈Z.toList) lt
theorem aB{β:Type}{i j:Nat}{Q:β->N3->Prop}{f:Option Bool->StateT N3 Sem β}(b:Cn prog w A s kd Z lt)(c:N4 st=kd)(h:Bt Z Y st X)(hi:i<Z.size)(a:j<Z.size)(h':lt (att (N1 X) i) (att (N1 X) j)=true->wpS (Np prog w) A E s (f (some true)) Q X)(d:lt (att (N1 X) i) (att (N1 X) j)=false->wpS (Np prog w) A E s (f (some false)) Q X):wpS (Np prog w) A E s (ltAt' i j >>= f) Q X:=by refine Nw ?_;rw[ltAt'_eq];refine gB (eB (by rw[h.sz];exact hi) (eB (by rw[h.sz];exact a) (wlt b (h.kd.trans c) (h.mem hi) (h.mem a) ?_)));cases e:lt (att (N1 X) i) (att (N1 X) j) with|true=>exact h' e|false=>exact d e
theorem wmv(h:Q () (N5 X (bubble (N1 X) p (p-q)))):wpS (Np prog w) A E s (moveDown' p q) Q X:=by rw[moveDown'_eq];exact N0 h
theorem qaW6(h:p<xs.size)(a:q<=p)(hi:i<q):att (bubble xs p (p-q)) i=att xs i:=by rw[qap2 h (zC9 _ _),Nat.sub_sub_self a,if_neg (zAk hi),if_neg λc=>Nat.lt_asymm hi c.1]
theorem qbf7(h:p<xs.size)(a:q<=p):att (bubble xs p (p-q)) q=att xs p:=by rw[qap2 h (zC9 _ _),Nat.sub_sub_self a,if_pos rfl]
theorem qbf6(h:p<xs.size)(a:q<=p)(h1:q<=i)(h2:i<p):att (bubble xs p (p-q)) (i+1)=att xs i:=by rw[qap2 h (zC9 _ _),Nat.sub_sub_self a,if_neg (Nat.ne_of_gt (Nat.lt_succ_of_le h1)),if_pos ⟨Nat.lt_succ_of_le h1,h2⟩,Nat.add_sub_cancel]
theorem qaN0{F:Nat->N2}{l:Nat}(e:Od lt)(c:l<=k)(s2:∀i j,i<=j->j<k->lt (f j) (f i)=false)(g:∀i,i<l->lt x (f i)=false)(n:∀i,l<=i->i<k->lt (f i) x=false)(h1:∀i,i<l->F i=f i)(h2:F l=x)(d:∀i,l<=i->i<k->F (i+1)=f i)(i j:Nat)(a:i<=j)(o:j<k+1):lt (F j) (F i)=false:=by rcases Nat.lt_trichotomy j l with h|h|h;{rw[h1 j h,h1 i (zC3 a h)];exact s2 i j a (zAc h c)};{subst h;rw[h2];rcases Nat.lt_or_eq_of_le a with q|rfl;{rw[h1 i q];exact g i q};rw[h2];exact e.ir _};cases j with|zero=>exact absurd h (zCn _)|succ m=>have b:=Nat.lt_of_succ_lt_succ o;rw[d m (zBy h) b];rcases Nat.lt_trichotomy i l with q|q|q;{rw[h1 i q];exact s2 i m (zAg (zBc q) (zBy h)) b};{subst q;rw[h2];exact n m (zBy h) b};cases i with|zero=>exact absurd q (zCn _)|succ p=>rw[d p (zBy q) (zC3 (Nat.le_of_succ_le_succ a) b)];exact s2 p m (Nat.le_of_succ_le_succ a) b
theorem wbin(D:Od lt)(J:Cn prog w A s kd Z lt)(L:N4 st=kd)(V:Y+n<=Z.size)(M:C<=n)(h1:1<=C)(N:Bt Z Y st X)(O:Srt lt (λi=>att (N1 X) (Y+i)) C)(h:∀e,Bt Z Y st e->Srt lt (λi=>att (N1 e) (Y+i)) n->Q true e):wpS (Np prog w) A E s (binarySort' Y n C) Q X:=by
 rw[binarySort'_eq];refine fB (λk c e=>c=(none,())/\Bt Z Y st e/\Srt lt (λi=>att (N1 e) (Y+i)) (min k n)) (λc e=>c=(none,())/\Bt Z Y st e/\Srt lt (λi=>att (N1 e) (Y+i)) n) ?_ ?_ ⟨rfl,N,λi j a b=>O i j a ⋯⟩ ?_
 .rintro F z k c f P R ⟨rfl,m,g⟩ K p q;subst z;rw[show min k n=k by lia] at g;refine fB (λx c e=>e=f/\∃l r,c=(none,l,r)/\l<=r/\r<=k/\r-l<=k-x/\(∀i,i<l->lt (att (N1 f) (Y+k)) (att (N1 f) (Y+i))=false)/\(∀i,r<=i->i<k->lt (att (N1 f) (Y+i)) (att (N1 f) (Y+k))=false)) (λc e=>e=f/\∃l,c=(none,l,l)/\l<=k/\(∀i,i<l->lt (att (N1 f) (Y+k)) (att (N1 f) (Y+i))=false)/\(∀i,l<=i->i<k->lt (att (N1 f) (Y+i)) (att (N1 f) (Y+k))=false)) ?_ ?_ ⟨rfl,0,k,rfl,⋯,⋯,⋯,λi t=>⋯,λi h1 I=>⋯⟩ ?_;{rintro F z x c o-W ⟨rfl,l,r,rfl,S,u,T,v,B⟩ K p q;subst z;dsimp only;refine wif (λd=>?_) λd=>?_;{obtain rfl:l=r:=⋯;exact Nx (p _ _ ⟨rfl,l,rfl,u,v,B⟩)};exact aB J L m ⋯ ⋯ (λG=>Nx (q _ _ ⟨rfl,l,_,rfl,⋯,⋯,⋯,v,λi h1 I=>D.tr _ _ _ (D.as _ _ G) (g _ _ h1 I)⟩)) λG=>Nx (q _ _ ⟨rfl,_,r,rfl,⋯,⋯,⋯,λi h1=>D.tr _ _ _ (g i _ ⋯ ⋯) G,B⟩)};{rintro c o ⟨rfl,l,r,rfl,S,u,T,v,B⟩;obtain rfl:l=r:=⋯;exact⟨rfl,l,rfl,u,v,B⟩};rintro F z c o ⟨rfl,l,rfl,u,v,B⟩;subst z;dsimp only;have z:Y+k<(N1 o).size:=by rw[m.sz];lia
  have y:=Nat.add_le_add_left u Y;refine Nw (wmv (Nx (q _ _ ⟨rfl,m.set (bubble_perm _ _ _) λi t=>?_,?_⟩)));{exact qaW6 z y (zAc t (Nat.le_add_right _ _))};rw[show min (k+1) n=k+1 by lia];exact qaN0 D u g v B (λi t=>qaW6 z y (Nat.add_lt_add_left t Y)) (qbf7 z y) λi t H=>qbf6 z y (Nat.add_le_add_left t Y) (Nat.add_lt_add_left H Y)
 {rintro c f ⟨U,m,g⟩;rw[show min (max (max C 1) n) n=n by lia] at g;exact⟨U,m,g⟩};rintro F z c f ⟨rfl,m,g⟩;subst z;exact Nx (h f m g)
def Ds(lt:N2->N2->Bool)(Z:Array N2):Prop:=Z.toList.Pairwise λx y=>lt x y=true∨lt y x=true
theorem Ds.at(h:Ds lt Z)(b:Bt Z Y st X)(c:i≠j)(hi:i<Z.size)(n:j<Z.size)(e:lt (att (N1 X) i) (att (N1 X) j)=false):lt (att (N1 X) j) (att (N1 X) i)=true:=by have d:=((zBq.mp b.pm).pairwise_iff λh=>h.symm).mpr h;rw[Ou] at d;have g:∀k,k<Z.size->∃a,(N1 X).toList[k]'a=att (N1 X) k:=λk a=>⟨by rw[zB6,b.sz];exact a,by simp[att,Array.getD,show k<(N1 X).size by rw[b.sz];exact a]⟩;obtain⟨f,l⟩:=g i hi;obtain⟨m,e2⟩:=g j n;rcases Nat.lt_or_gt_of_ne c with q|q;{have:=d i j f m q;rw[l,e2,e] at this;simpa using this};have:=d j i m f q;rw[l,e2,e] at this;simpa using this
theorem wcnt(v:Od lt)(D:Cn prog w A s kd Z lt)(M:Ds lt Z)(G:N4 st=kd)(T:Y+m<=Z.size)(h1:1<=m)(r:Bt Z Y st X)(h:∀n f,Bt Z Y st f->1<=n->n<=m->Srt lt (λi=>att (N1 f) (Y+i)) n->Q (some n) f):wpS (Np prog w) A E s (countRun' Y m) Q X:=by
 rw[countRun'_eq];refine fB (λx c f=>f=X/\c=(none,x)/\Srt lt (λi=>att (N1 X) (Y+i)) x) (λc f=>f=X/\∃n,c=(none,n)/\1<=n/\n<=m/\Srt lt (λi=>att (N1 X) (Y+i)) n/\(n=m∨lt (att (N1 X) (Y+n)) (att (N1 X) (Y+n-1))=true)) ?_ ?_ ⟨rfl,rfl,λi j a b=>by rw[show i=j by lia];exact v.ir _⟩ ?_;{rintro F z x c g o N ⟨rfl,rfl,t⟩ K p q;subst z;exact aB D G r ⋯ ⋯ (λu=>Nx (p _ _ ⟨rfl,x,rfl,o,⋯,t,.inr u⟩)) λu=>Nx (q _ _ ⟨rfl,rfl,t.more v λ_=>by rw[<-Nat.add_sub_assoc o];exact u⟩)};{rintro c g ⟨rfl,rfl,t⟩;rw[show max 1 m=m by lia] at t ⊢;exact⟨rfl,m,rfl,h1,zA3 _,t,.inl rfl⟩};rintro F z c g ⟨rfl,n,rfl,J,L,t,d⟩;subst z;dsimp only;refine wif (λ_=>Nx (h n g r J L t)) λc=>?_;have d:=d.resolve_left (by simpa using c);refine wif (λP=>aB D G r ⋯ ⋯ (λ_=>Nx (h n g r J L t)) λe=>?_) λP=>?_;{rw[M.at r ⋯ ⋯ ⋯ (by rw[Nat.add_sub_assoc J];exact t 0 (n-1) ⋯ ⋯)] at e;cases e};obtain rfl:n=1:=⋯;simp at c;refine rB ?_;have O:Od λx y=>lt y x:=⟨λx y q=>v.as _ _ q,λx y z p q=>v.tr _ _ _ q p⟩;refine fB (λx c f=>f=g/\c=(none,x,0)/\Srt (λx y=>lt y x) (λi=>att (N1 g) (Y+i)) x) (λc f=>f=g/\∃n,c=(none,n,0)/\2<=n/\n<=m/\Srt (λx y=>lt y x) (λi=>att (N1 g) (Y+i)) n) ?_ ?_ ⟨rfl,rfl,?_⟩ ?_;{rintro F z x c l o N ⟨rfl,rfl,B⟩ K p q;subst z;exact aB D G r ⋯ ⋯ (λu=>wif (λ_=>wif (λc=>absurd c (zC5 0)) λ_=>Nx (q _ _ ⟨rfl,rfl,B.more O λ_=>by rw[<-Nat.add_sub_assoc ⋯];exact v.as _ _ u⟩)) λc=>absurd rfl c) λu=>aB D G r ⋯ ⋯ (λ_=>Nx (p _ _ ⟨rfl,x,rfl,o,⋯,B⟩)) λe=>by rw[M.at r ⋯ ⋯ ⋯ u] at e;cases e};{rintro c l ⟨rfl,rfl,B⟩;rw[show max (1+1) m=m by lia] at B ⊢;exact⟨rfl,m,rfl,⋯,zA3 _,B⟩};{refine Srt.more (λi j a b=>?_) O λ_=>v.as _ _ d;obtain rfl:i=j:=⋯;exact v.ir _};rintro F z c l ⟨rfl,n,rfl,J,L,B⟩;subst z;refine wif (λc=>absurd c (zC5 0)) λ_=>?_;dsimp only;have z:Y+n<=(N1 l).size:=by rw[r.sz];lia
 have H:=r.set (mirror_perm (N1 l) Y (Y+n) ((Y+n-Y)/2)) λi U=>by rw[qap1 z,if_neg ⋯]
 refine Nw (wpS_reverse ?_);refine fB (λx c f=>f=N5 l (mirror (N1 l) Y (Y+n) ((Y+n-Y)/2))/\c=(none,x)/\Srt lt (λi=>att (N1 f) (Y+i)) x) (λc f=>f=N5 l (mirror (N1 l) Y (Y+n) ((Y+n-Y)/2))/\∃k,c=(none,k)/\1<=k/\k<=m/\Srt lt (λi=>att (N1 f) (Y+i)) k) ?_ ?_ ⟨rfl,rfl,λi j a b=>?_⟩ ?_;{rintro F z x c I o N ⟨rfl,rfl,C⟩ K p q;subst z;exact aB D G H ⋯ ⋯ (λ_=>Nx (p _ _ ⟨rfl,x,rfl,⋯,⋯,C⟩)) λu=>Nx (q _ _ ⟨rfl,rfl,C.more v λ_=>by rw[<-Nat.add_sub_assoc ⋯];exact u⟩)};{rintro c I ⟨rfl,rfl,C⟩;rw[show max n m=m by lia] at C ⊢;exact⟨rfl,m,rfl,⋯,zA3 _,C⟩};{show lt (att (mirror _ _ _ _) _) (att (mirror _ _ _ _) _)=false;rw[qap1 z,qap1 z,if_pos ⋯,if_pos ⋯];have:=B (n-1-j) (n-1-i) ⋯ ⋯;rw[show Y+(Y+n)-1-(Y+j)=Y+(n-1-j) by lia,show Y+(Y+n)-1-(Y+i)=Y+(n-1-i) by lia];exact this};rintro F z c I ⟨rfl,k,rfl,R,S,C⟩;subst z;exact Nx (h k _ H R S C)
end
theorem qbc3(i:Nat):mergeAt' i=(do
 let s<-get
 let (some (p,n,pw),some (q,m,_)):=((Ny s)[i]?,(Ny s)[i+1]?)|unsupported "internal:list.sort.pending"
 set (N6 s (((Ny s).setIfInBounds i (p,n+m,pw)).eraseIdxIfInBounds (i+1)))
 let some k<-gal false (<- elem' (N1 s) q) (N1 s) p n 0|return false
 let (p,n):=(p+k,n-k)
 if n==0 then return true
 let some m<-gal true (<- elem' (N1 s) (p+n-1)) (N1 s) q m (m-1)|return false
 if m==0 then return true
 let x:=(N1 s).extract p q
 let y:=(N1 s).extract q (q+m)
 let r<-if n<=m then mlo x y else mhi x y
 modify λs=>N5 s (r.toList.zipIdx.foldl (λa (z,j)=>a.setIfInBounds (p+j) z) (N1 s))
 return (Nz (<- get)).isNone):=rfl
theorem wr{p:Nat}:∀(L:List N2)(n:Nat)(a:Array N2),p+n+L.length<=a.size->((L.zipIdx n).foldl (λ(a:Array N2)(z:N2×Nat)=>a.setIfInBounds (p+z.2) z.1) a).toList=a.toList.take (p+n)++L++a.toList.drop (p+n+L.length)
 |[],n,a,_=>by simp|x::L,n,a,h=>by
  rw[zAm] at h;rw[List.zipIdx_cons,Pg,wr L (n+1) _ (by rw[Array.size_setIfInBounds];lia),Array.toList_setIfInBounds,<-Nat.add_assoc,zAm,
   List.drop_set_of_lt ⋯,List.take_set,Oc,show a.toList[p+n]?.toList=[att a (p+n)] from ?_,O1 _ _ (by simp;lia),show p+n+1+L.length=p+n+(L.length+1) by lia]
  {simp[show min (p+n) a.size=p+n by lia]};rw[Array.getElem?_toList,qW5 ⋯];rfl
theorem qaC2(h:i+n<j)(b:j<=a.size):att (a.extract i j) n=att a (i+n):=qo6 (by rw[Array.getElem?_extract];rw[if_pos ⋯])
section
variable{prog:Nq}{w:Nt}{A:Nr}{E:V'->δ->Prop}{s:δ}{kd:SortKind}{lt:N2->N2->Bool}{st:N3}{a0:Array N2}
theorem wset(h:Q ⟨⟩ a):wpS (Np prog w) A E s (set a:StateT N3 Sem PUnit) Q st:=by unfold wpS;rw[StateT.run_set];exact J' ⟨rfl,h⟩
theorem wmat(G:Od lt)(I:Cn prog w A s kd a0 lt)(J:N4 st=kd)(K:Nz st=none)(Y:Ny st = #[(0,n,F),(n,m,pv)])(H:(N1 st).Perm a0)(Z:0<n)(hm:0<m)(hz:n+m=a0.size)(h1:Srt lt (att (N1 st)) n)(h2:Srt lt (λi=>att (N1 st) (n+i)) m)(h:∀u,Nz u=none->Ny u = #[(0,n+m,F)]->(N1 u).toList=N9 ((N1 st).toList.take n) ((N1 st).toList.drop n) (lee lt)->Q true u):wpS (Np prog w) A E s (mergeAt' 0) Q st:=by
 have a1:(N1 st).size=n+m:=H.size_eq.trans hz.symm;have D:∀i,i<(N1 st).size->att (N1 st) i∈a0.toList:=λi C=>(zBq.mp H).mem_iff.mp (qaC1 C);rw[qbc3];refine gB ?_;rw[Y];have ep:(#[(0,n,F),(n,m,pv)].setIfInBounds 0 (0,n+m,F)).eraseIdxIfInBounds (0+1) = #[(0,n+m,F)]:=by simp[Array.eraseIdxIfInBounds]
 refine Nw (wset ?_);rw[ep];refine eB ⋯ (Nw (wgs G I J (D _ ⋯) ⋯ D (λi j a b=>by dsimp only;rw[zAl,zAl];exact h1 i j a b) Z λk S T N=>?_));simp only[zAl] at T N ⊢;have sD:(N1 st).toList.drop n=att (N1 st) n::(N1 st).toList.drop (n+1):=Gw ⋯;have O:N9 ((N1 st).toList.take n) ((N1 st).toList.drop n) (lee lt)=(N1 st).toList.take k++N9 (((N1 st).toList.drop k).take (n-k)) ((N1 st).toList.drop n) (lee lt):=by
  rw[<-List.drop_take,<-show ((N1 st).toList.take n).take k=(N1 st).toList.take k by rw[Pk,zCm S]];conv=>lhs;rw[<-zBh k ((N1 st).toList.take n)]
  rw[sD,Mj (le:=lee lt)];intro x L;rw[Pk,zCm S] at L;obtain⟨i,U,i2,rfl⟩:=Mm L;exact T i U
 refine wif (λc=>Nx (h _ K rfl ?_)) λc=>?_
 .obtain rfl:k=n:=by simp at c;lia
  rw[O,Nat.sub_self,Pm,Pj,zBh]
 have c:k<n:=by simp at c;lia
 rw[show k+(n-k)-1=n-1 by lia];refine eB ⋯ (Nw (wgs G I J (D _ ⋯) ⋯ D h2 ⋯ λv v1 v2 v3=>?_));have V:N9 (((N1 st).toList.drop k).take (n-k)) ((N1 st).toList.drop n) (lee lt)=N9 (((N1 st).toList.drop k).take (n-k)) (((N1 st).toList.drop n).take v) (lee lt)++(N1 st).toList.drop (n+v):=by
  conv=>lhs;rw[<-zBh v ((N1 st).toList.drop n)]
  rw[O2,Kr (le:=lee lt)];intro y W x L;obtain⟨i,U,i2,rfl⟩:=qx6 L;rw[<-zAr (l:=(N1 st).toList.drop (n+v)) (zA3 _)] at W;obtain⟨j,_,j2,rfl⟩:=qx6 W;have e1:=h1 (k+i) (n-1) ⋯ ⋯;have e2:lt (att (N1 st) (n+(v+j))) (att (N1 st) (n-1))=false:=v3 (v+j) ⋯ ⋯;rw[<-Nat.add_assoc] at e2;show (!lt _ _)=true;rw[G.tr _ _ _ e1 e2];rfl
 dsimp only;refine wif (λc=>Nx (h _ K rfl ?_)) λd=>?_
 .obtain rfl:v=0:=by simpa using c
  rw[O,V,Pm,Pf,Nat.add_zero,<-zAs,<-Ps,show k+(n-k)=n by lia,zBh]
 have d:0<v:=by simp at d;lia
 have P:((N1 st).extract k n).size=n-k:=by rw[Array.size_extract];lia
 have X:((N1 st).extract n (n+v)).size=v:=by rw[Array.size_extract];lia
 have g:∀i,i<n-k->att ((N1 st).extract k n) i=att (N1 st) (k+i):=λi C=>qaC2 ⋯ ⋯;have o:∀i,i<v->att ((N1 st).extract n (n+v)) i=att (N1 st) (n+i):=λi C=>qaC2 ⋯ ⋯;have post:∀(r:Array N2)(f:N3),R (N6 st #[(0,n+m,F)]) f->r.toList=N9 ((N1 st).extract k n).toList ((N1 st).extract n (n+v)).toList (lee lt)->wpS (Np prog w) A E s (do
  modify λs=>N5 s (On (λ(a:Array N2)(x:N2×Nat)=>match x with|(z,j)=>a.setIfInBounds (k+j) z) (N1 s) r.toList.zipIdx)
  let t<-get
  pure (Nz t).isNone) Q f:=by
  intro r f M e;have len:r.toList.length=n-k+v:=by rw[e,List.length_merge,zB6,zB6,P,X]
  refine Nw (N0 (gB ?_));show wpS _ _ _ _ (pure (Nz f).isNone) Q _;rw[M.2.2.2];show wpS _ _ _ _ (pure (Nz st).isNone) Q _;rw[K];refine Nx (h _ (M.2.2.2.trans K) M.2.2.1 ?_);show (On _ (N1 f) _).toList=_;rw[show N1 f=N1 st from M.2.1];have q:=wr (p:=k) r.toList 0 (N1 st) ⋯;rw[Nat.add_zero,len,show k+(n-k+v)=n+v by lia,e,qd6,qd6,show n+v-n=v by lia,zAs,<-V,<-O] at q;rw[e,qd6,qd6,show n+v-n=v by lia];exact q
 refine wif (λ_=>Nw (wmlo G I J (λi C=>?_) (λi C=>?_) (λi j a b=>?_) (λi j a b=>?_) ⋯ ⋯ ?_ (λi C=>?_) post)) λ_=>Nw (wmhi G I J (λi C=>?_) (λi C=>?_) (λi j a b=>?_) (λi j a b=>?_) ⋯ ⋯ (λi C=>?_) ?_ post);{rw[g i ⋯];exact D _ ⋯};{rw[o i ⋯];exact D _ ⋯};{rw[g i ⋯,g j ⋯];exact h1 _ _ ⋯ ⋯};{rw[o i ⋯,o j ⋯];exact h2 _ _ ⋯ ⋯};{rw[g 0 ⋯,o 0 ⋯];simpa[B] using N k (zA3 _) c};{rw[P,g _ ⋯,o i ⋯,show k+(n-k-1)=n-1 by lia];exact v2 i ⋯};{rw[g i ⋯];exact D _ ⋯};{rw[o i ⋯];exact D _ ⋯};{rw[g i ⋯,g j ⋯];exact h1 _ _ ⋯ ⋯};{rw[o i ⋯,o j ⋯];exact h2 _ _ ⋯ ⋯};{rw[g i ⋯,o 0 ⋯];simpa[B] using N (k+i) ⋯ ⋯};rw[P,X,g _ ⋯,o _ ⋯,show k+(n-k-1)=n-1 by lia];exact v2 _ ⋯
end
section
variable{prog:Nq}{w:Nt}{A:Nr}{E:V'->δ->Prop}{s:δ}{kd:SortKind}{lt:N2->N2->Bool}{st:N3}{a0:Array N2}
theorem qaD5(a:Srt lt (λj=>att xs (i+j)) n)(f:i+n<=xs.size):((xs.toList.drop i).take n).Pairwise λx y=>lee lt x y=true:=by
 rw[Ou];intro p q b c d;rw[zBp,zCj,zB6] at b c;have e:∀p (h:p<((xs.toList.drop i).take n).length),((xs.toList.drop i).take n)[p]=att xs (i+p):=λp h=>by rw[Pc,Pd];rw[zBp,zCj,zB6] at h;simp[att,Array.getD,show i+p<xs.size by lia]
 rw[e,e];show (!lt _ _)=true;rw[a p q ⋯ ⋯];rfl
def Ju(lt:N2->N2->Bool)(a0:Array N2)(st:N3):Prop:=(N1 st).toList.Perm a0.toList/\(N1 st).toList.Pairwise (λx y=>lee lt x y=true)/\Nz st=none
structure One(lt:N2->N2->Bool)(kd:SortKind)(a0:Array N2)(n:Nat)(st:N3):Prop where
 pm:(N1 st).Perm a0
 k:N4 st=kd
 f:Nz st=none
 p:Ny st = #[(0,n,0)]
 s:Srt lt (att (N1 st)) n
structure Two(lt:N2->N2->Bool)(kd:SortKind)(a0:Array N2)(n m pw:Nat)(st:N3):Prop where
 pm:(N1 st).Perm a0
 k:N4 st=kd
 f:Nz st=none
 p:Ny st = #[(0,n,pw),(n,m,0)]
 s:Srt lt (att (N1 st)) n
 t:Srt lt (λi=>att (N1 st) (n+i)) m
theorem One.fin(h:One lt kd a0 n st)(c:n=a0.size):Ju lt a0 st:=by refine⟨zBq.mp h.pm,?_,h.f⟩;have:=qaD5 (λi j a b=>by dsimp only;rw[zAl,zAl];exact h.s i j a b) (by rw[h.pm.size_eq];lia);rwa[Oq,zAr (by rw[zB6,h.pm.size_eq];lia)] at this
theorem wrun(D:Od lt)(J:Cn prog w A s kd a0 lt)(T:Ds lt a0)(O:N4 st=kd)(hf:Nz st=none)(P:Ny st = #[])(L:(N1 st).Perm a0)(G:a0.size=64)(h:∀l,Ju lt a0 l->Q () l):wpS (Np prog w) A E s sortRuns' Q st:=by
 rw[sortRuns'_eq];refine gB ?_;dsimp only;rw[L.size_eq.trans G];have hm:minRun' 64 64 0=32:=rfl;rw[hm];refine fB (λx c l=>(x=0/\c=(none,0)/\l=st)∨(x=1/\∃n,c=(none,n)/\32<=n/\n<=64/\One lt kd a0 n l)∨(2<=x/\c=(none,64)/\∃n m B,n+m=64/\0<n/\0<m/\Two lt kd a0 n m B l)) (λc l=>c=(none,64)/\(One lt kd a0 64 l∨∃n m B,n+m=64/\0<n/\0<m/\Two lt kd a0 n m B l)) ?_ ?_ (.inl ⟨rfl,rfl,rfl⟩) ?_
 .rintro F z x c u-hx (⟨rfl,rfl,rfl⟩|⟨rfl,n,rfl,I,n2,o⟩|⟨x2,rfl,n,m,B,e,I,R,o⟩) K p q<;>subst z
  .dsimp only;refine wif (λc=>absurd c ⋯) λ_=>?_;have S:Bt a0 0 u u:=⟨rfl,rfl,rfl,L,λ_ _=>rfl⟩;refine Nw (wcnt D J T O ⋯ ⋯ S λn r C I n2 M=>?_);have fin:∀k g,Bt a0 0 u g->32<=k->k<=64->Srt lt (λi=>att (N1 g) (0+i)) k->One lt kd a0 k (N6 g ((Ny g).push (0,k,0))):=λk g v _ _ H=>
    ⟨v.pm,v.kd.trans O,v.fl.trans hf,by show (Ny g).push _=_;rw[v.pd,P];rfl,λi j a b=>by have:=H i j a b;dsimp only at this;rwa[zAl,zAl] at this⟩
   refine wif (λc=>?_) λc=>?_;{refine rB ?_;refine Nw (wbin D J O ⋯ ⋯ I C M λg v H=>?_);refine wif (λc=>by cases c) λ_=>?_;refine gB ?_;rw[show (Ny g).back?=none by rw[v.pd,P];rfl];exact Nw (N0 (Nx (q _ _ (.inr (.inl ⟨rfl,_,rfl,⋯,⋯,fin _ g v ⋯ ⋯ H⟩)))))};refine gB ?_;rw[show (Ny r).back?=none by rw[C.pd,P];rfl];exact Nw (N0 (Nx (q _ _ (.inr (.inl ⟨rfl,_,rfl,⋯,⋯,by rw[zAl];exact fin _ r C ⋯ ⋯ M⟩)))))
  .dsimp only;refine wif (λc=>?_) λc=>?_;{obtain rfl:n=64:=⋯;exact Nx (p _ _ ⟨rfl,.inl o⟩)};have S:Bt a0 n u u:=⟨rfl,rfl,rfl,o.pm,λ_ _=>rfl⟩;refine Nw (wcnt D J T o.k ⋯ ⋯ S λk r C k1 k2 M=>?_);have U:∀q g,Bt a0 n u g->q=64-n->Srt lt (λi=>att (N1 g) (n+i)) q->∀B,Two lt kd a0 n q B (N6 (N6 g ((Ny g).modify ((Ny g).size-1) λx=>(x.fst,x.2.fst,B))) (((Ny g).modify ((Ny g).size-1) λx=>(x.fst,x.2.fst,B)).push (n,q,0))):=λq g v hq H B=>
    ⟨v.pm,v.kd.trans o.k,v.fl.trans o.f,by show ((Ny g).modify _ _).push _=_;rw[v.pd,o.p];rfl,λi j a b=>by show lt (att (N1 g) j) (att (N1 g) i)=false;rw[v.pr i ⋯,v.pr j b];exact o.s i j a b,H⟩
   have N:∀g,Bt a0 n u g->(Ny g).back?=some (0,n,0)/\¬(Ny g).size>1:=λg v=>by rw[v.pd,o.p];exact⟨rfl,zC5 1⟩
   refine wif (λd=>?_) λd=>?_;{refine rB ?_;refine Nw (wbin D J o.k ⋯ ⋯ k1 C M λg v H=>?_);refine wif (λc=>by cases c) λ_=>?_;refine gB ?_;rw[(N g v).1];refine fB (λx c l=>l=g/\c=(none,())) (λc l=>l=g/\c=(none,())) ?_ (λ_ _ h=>h) ⟨rfl,rfl⟩ ?_;{rintro F z x c y - - ⟨rfl,rfl⟩ K p q;subst z;refine gB ?_;rw[if_neg (N y v).2];exact Nx (p _ _ ⟨rfl,rfl⟩)};rintro F z c y ⟨rfl,rfl⟩;subst z;exact Nw (N0 (Nw (N0 (Nx (q _ _ (.inr (.inr ⟨zA3 2,by rw[show n+min (64-n) 32=64 by lia],n,_,_,⋯,⋯,⋯,U _ y v ⋯ H _⟩)))))))};refine gB ?_;rw[(N r C).1];refine fB (λx c l=>l=r/\c=(none,())) (λc l=>l=r/\c=(none,())) ?_ (λ_ _ h=>h) ⟨rfl,rfl⟩ ?_;{rintro F z x c y - - ⟨rfl,rfl⟩ K p q;subst z;refine gB ?_;rw[if_neg (N y C).2];exact Nx (p _ _ ⟨rfl,rfl⟩)};rintro F z c y ⟨rfl,rfl⟩;subst z;exact Nw (N0 (Nw (N0 (Nx (q _ _ (.inr (.inr ⟨zA3 2,by rw[show n+k=64 by lia],n,_,_,⋯,⋯,⋯,U _ y C ⋯ M _⟩)))))))
  dsimp only;exact wif (λ_=>Nx (p _ _ ⟨rfl,.inr ⟨n,m,B,e,I,R,o⟩⟩)) λc=>absurd (zA3 _) c
 {rintro c u (⟨V,_⟩|⟨V,_⟩|⟨x2,rfl,o⟩);{lia};{lia};exact⟨rfl,.inr o⟩};rintro F z c u ⟨rfl,o⟩;subst z;refine fB (λx c l=>c=(none,())/\(x=0/\l=u∨Ju lt a0 l/\(Ny l).size<=1)) (λc l=>c=(none,())/\Ju lt a0 l) ?_ ?_ ⟨rfl,.inl ⟨rfl,rfl⟩⟩ ?_;{rintro F t x c r - - ⟨rfl,⟨rfl,rfl⟩|⟨f,z⟩⟩ K W q'<;>subst t;{refine gB ?_;rcases o with o|⟨n,m,B,e,I,R,o⟩;{rw[if_pos (by rw[o.p];exact zA3 1)];exact Nx (W _ _ ⟨rfl,o.fin G.symm⟩)};rw[o.p];refine wif (λc=>absurd c (by simp)) λ_=>?_;refine Nw (wmat D J o.k o.f o.p o.pm I R ⋯ o.s o.t λg f3 p3 X=>?_);refine Nx (q' _ _ ⟨rfl,.inr ⟨⟨?_,?_,f3⟩,by rw[p3];exact zA3 1⟩⟩);{rw[X];have q:=List.merge_perm_append (le:=lee lt) (xs:=(N1 r).toList.take n) (ys:=(N1 r).toList.drop n);rw[zBh] at q;exact q.trans (zBq.mp o.pm)};rw[X];have sz:(N1 r).size=64:=o.pm.size_eq.trans G;refine List.pairwise_merge (λa b c Y Z=>?_) (λa b=>?_) _ _ ?_ ?_;{simp only[Bool.not_eq_true',lee] at Y Z ⊢;exact D.tr _ _ _ Y Z};{cases q:lt b a with|false=>simp[lee,q]|true=>simp[lee,q,D.as _ _ q]};{have:=qaD5 (i:=0) (n:=n) (xs:=N1 r) (λi j a b=>by dsimp only;rw[zAl,zAl];exact o.s i j a b) ⋯;rwa[Oq] at this};have:=qaD5 o.t ⋯;rwa[zAr (by rw[zCj,zB6];lia)] at this};refine gB ?_;rw[if_pos z];exact Nx (W _ _ ⟨rfl,f⟩)};{rintro c r ⟨rfl,⟨V,_⟩|⟨f,z⟩⟩;{lia};exact⟨rfl,f⟩};rintro F z c r ⟨rfl,f⟩;subst z;exact Nx (h r f)
end
noncomputable def plt(p q:Int×Int):Bool:=decide (p.1<q.1∨p.1=q.1/\p.2<q.2)
def TP(h:Heap)(v:V')(p:Int×Int):Prop:=∃b t u o n,v=.ref b/\h.get? b=some o/\o.cls=.type "tuple" /\ o.data=.seq #[.int p.1 t,.int p.2 u] n
section
variable{prog:Nq}{w:Nt}{A:Nr}{E:V'->δ->Prop}{s:δ}{kd:SortKind}{lt:N2->N2->Bool}{X:N3}{U:Array N2}
theorem wrunS(D:Od lt)(G:Cn prog w A s kd U lt)(I:Ds lt U)(u:N4 X=kd)(J:Nz X=none)(v:Ny X = #[])(t:(N1 X).Perm U)(h2:2<=U.size)(y:U.size<64)(h:∀d,Ju lt U d->Q () d):wpS (Np prog w) A E s sortRuns' Q X:=by
 rw[sortRuns'_eq];refine gB ?_;obtain⟨f,L⟩:∃f,U.size=f+1:=⟨U.size-1,⋯⟩;have M:minRun' U.size U.size 0=U.size:=by
  conv=>lhs;rw[show minRun' U.size=minRun' (f+1) by rw[L]]
  rw[minRun'_succ,if_pos y];rfl
 dsimp only;rw[t.size_eq,M];refine fB (λx c d=>(x=0/\c=(none,0)/\d=X)∨(1<=x/\c=(none,U.size)/\One lt kd U U.size d)) (λc d=>c=(none,U.size)/\One lt kd U U.size d) ?_ ?_ (.inl ⟨rfl,rfl,rfl⟩) ?_
 .rintro F z x c l-R (⟨rfl,rfl,rfl⟩|⟨N,rfl,o⟩) K p q<;>subst z
  .dsimp only;refine wif (λc=>absurd c ⋯) λ_=>?_;have O:Bt U 0 l l:=⟨rfl,rfl,rfl,t,λ_ _=>rfl⟩;refine Nw (wcnt D G I u ⋯ ⋯ O λn m B P S H=>?_);have fin:∀k g,k=U.size->Bt U 0 l g->Srt lt (λi=>att (N1 g) (0+i)) k->One lt kd U U.size (N6 g ((Ny g).push (0,k,0))):=λk g e r C=>
    ⟨r.pm,r.kd.trans u,r.fl.trans J,by show (Ny g).push _=_;rw[r.pd,v,e];rfl,λi j a b=>by have:=C i j a ⋯;dsimp only at this;rwa[zAl,zAl] at this⟩
   refine wif (λc=>?_) λc=>?_;{refine rB ?_;refine Nw (wbin D G u ⋯ ⋯ P B H λg r C=>?_);refine wif (λc=>by cases c) λ_=>?_;refine gB ?_;rw[show (Ny g).back?=none by rw[r.pd,v];rfl];exact Nw (N0 (Nx (q _ _ (.inr ⟨⋯,by rw[show 0+min (U.size-0) U.size=U.size by lia],fin _ g ⋯ r C⟩))))};refine gB ?_;rw[show (Ny m).back?=none by rw[B.pd,v];rfl];exact Nw (N0 (Nx (q _ _ (.inr ⟨⋯,by rw[show 0+n=U.size by lia],fin _ m ⋯ B H⟩))))
  dsimp only;exact wif (λ_=>Nx (p _ _ ⟨rfl,o⟩)) λc=>absurd (zA3 _) c
 {rintro c l (⟨T,_⟩|⟨N,rfl,o⟩);{lia};exact⟨rfl,o⟩};rintro F z c l ⟨rfl,o⟩;subst z;refine fB (λx c d=>c=(none,())/\d=l) (λc d=>c=(none,())/\d=l) ?_ (λ_ _ h=>h) ⟨rfl,rfl⟩ ?_;{rintro F z x c m - - ⟨rfl,rfl⟩ K p q;subst z;refine gB ?_;rw[if_pos (by rw[o.p];exact zA3 1)];exact Nx (p _ _ ⟨rfl,rfl⟩)};rintro F z c m ⟨rfl,rfl⟩;subst z;exact Nx (h m (o.fin rfl))
theorem cmpP{q:Int×Int}(f:TP s.heap x p)(g:TP s.heap y q)(h:Q (plt p q) s):No (Np prog w) A (keyLt' (tuples' true) x y) Q E s:=by obtain⟨b,t,u,o,n,rfl,i,_,j⟩:=f;obtain⟨c,m,v,B,C,rfl,k,_,l⟩:=g;have z:∀r:Bool,r=plt p q->Q r s:=λr e=>e ▸ h;refine W.kat_lt i j k l (W.kat_cons (wpAny_eqBool_int (W.kat_go (λa=>W.kat_yes (W.kat_cons (wpAny_eqBool_int (W.kat_go (λd=>W.kat_yes (W.kat_nil (z _ ?_))) λd=>W.kat_no (W.kat_one _ _ (lt_int (z _ ?_))))))) λa=>W.kat_no (oneLt_int (z _ ?_)))));{simp at a d;simp[plt,a,d]};{simp at a d;simp[plt,a]};simp at a;simp[plt,a]
theorem TP.keep(t:TP h v p)(k:∀b o,h.get? b=some o->o.cls=.type "tuple" -> h'.get? b=some o):TP h' v p:=by obtain⟨b,t,u,o,n,rfl,c,a,d⟩:=t;exact⟨b,t,u,o,n,rfl,k _ _ c a,a,d⟩
end
def kl(kf:V'->Int×Int)(x y:N2):Bool:=plt (kf x.1) (kf y.1)
theorem kl_od(kf:V'->Int×Int):Od (kl kf):=⟨λx y h=>by simp[kl,plt] at h ⊢;lia,λx y z a b=>by simp[kl,plt] at a b ⊢;lia⟩
section
variable{prog:Nq}{w:Nt}{A:Nr}{E:V'->δ->Prop}{s:δ}
theorem kl_ds(c:(vs.map kf).Nodup):Ds (kl kf) (pairsOf vs):=by unfold Ds;rw[pairsOf_toList,show vs.zip vs=vs.map λv=>(v,v) by induction vs with|nil=>rfl|cons v vs d=>simp at c;rw[List.zip_cons_cons,d c.2];rfl,zBx];unfold List.Nodup at c;rw[zBx] at c;refine c.imp λ{a b} h=>?_;have e:¬((kf a).1=(kf b).1/\(kf a).2=(kf b).2):=λq=>h (Prod.ext q.1 q.2);simp only[kl,plt,zB5];lia
theorem qar5(i:s.heap.get? a=some (seqObj "list" vs.toArray n))(D:vs.length<=64)(l:(vs.map kf).Nodup)(F:∀h',(∀b o,s.heap.get? b=some o->o.cls=.type "tuple" -> h'.get? b=some o)->2<=vs.length->(∀(Q':SortKind->δ->Prop),Q' kd {s with heap:=h'}->No (Np prog w) A (keyKind' vs.toArray) Q' E {s with heap:=h'})/\Cm prog w A {s with heap:=h'} kd (λx=>x.1∈vs) (kl kf))(h:∀g:List V',g.Perm vs->(g.map kf).Pairwise (λp q=>plt q p=false)->P (.done (.ret .none)) {s with heap:=sortedHeap s.heap a vs g.toArray}):No (Np prog w) A (Builtin.«list.sort» ⟨[.ref a],[]⟩) P E s:=by
 have G:vs.toArray.size=vs.length:=zA5;have la:a<s.heap.objs.size:=zA9 i;obtain⟨m,r⟩:∃e,(s.heap.update a (Obj.mapSeq λ_=>#[])).get? a=some (seqObj "list" #[] e):=⟨_,get?_update_seq i λ_=>#[]⟩;have u:(((s.heap.update a (Obj.mapSeq λ_=>#[])).push (seqObj "tuple" vs.toArray 0)).push (seqObj "list" #[] 0)).get? a=some (seqObj "list" #[] m):=zA2 _ (zA2 _ r);have H:∀b o,s.heap.get? b=some o->o.cls=.type "tuple" -> (((s.heap.update a (Obj.mapSeq λ_=>#[])).push (seqObj "tuple" vs.toArray 0)).push (seqObj "list" #[] 0)).get? b=some o:=λb o q I=>by
  have J:b≠a:=λz=>by rw[z,i] at q;cases q;simp at I
  exact zA2 _ (zA2 _ (by rw[Heap.get?_update_ne _ _ _ _ J];exact q))
 rw[list_sort_plain];refine G' (listItems_at i rfl (G' (listUpdate_at i rfl (G' (seqEpoch_at r rfl (G' (wpAny_newTuple (G' (wpAny_newList (M' ?_) (zBi _))) (by show vs.length<=_;rw[Nd];lia))))) (by rw[G,Nd];lia) (zBi _))));show No (Np prog w) A _ P E {s with heap:=((s.heap.update a (Obj.mapSeq λ_=>#[])).push (seqObj "tuple" vs.toArray 0)).push (seqObj "list" #[] 0)};have last:∀d:N3,(N1 d).toList.Perm (pairsOf vs).toList->(N1 d).toList.Pairwise (λx y=>lee (kl kf) x y=true)->Nz d=none->P (.done (.ret .none)) {s with heap:=sortedHeap s.heap a vs ((N1 d).map (·.2))}/\((N1 d).map (·.2)).size<=M7+1:=λd j K _=>by
  rw[pairsOf_toList] at j;have B:∀p∈(N1 d).toList,p.1=p.2:=λp L=>(mem_zip_self (j.mem_iff.mp L)).1;have e2:((N1 d).map (·.2))=((N1 d).toList.map (·.2)).toArray:=Array.toList_inj.mp (by rw[Array.toList_map]);have pv:((N1 d).toList.map (·.2)).Perm vs:=by have:=j.map Prod.snd;rwa[List.map_snd_zip (zA3 _)] at this
  rw[e2];refine⟨h _ pv ?_,by rw[zA5,pv.length_eq,Nd];lia⟩;rw[zC4,zBx];refine(List.Pairwise.and_mem.mp K).imp λ{x y} ⟨M,N,q⟩=>?_;show plt (kf y.2) (kf x.2)=false;rw[<-B x M,<-B y N];simpa[lee,kl] using q
 have tail:∀d:N3,Ju (kl kf) (pairsOf vs) d->No (Np prog w) A (do
  let t:=(<- seqEpoch a) != m
  Builtin.List.listUpdate (.ref a) λ_=>(N1 d).map (·.2)
  if let some e:=Nz d then rule "list.sort.comparison-raised";throw e
  if t then rule "list.sort.modified";raiseError "ValueError" "list modified during sort"
  ret .none) P E {s with heap:=((s.heap.update a (Obj.mapSeq λ_=>#[])).push (seqObj "tuple" vs.toArray 0)).push (seqObj "list" #[] 0)}:=λd f=>by
  have z:=last d f.1 f.2.1 f.2.2;refine G' (seqEpoch_at u rfl (G' (listUpdate_at u rfl ?_ (zBi _) z.2)));rw[f.2.2];simp only[bne_self_eq_false,Bool.false_eq_true,if_false];exact J' z.1
 by_cases c:vs.toArray.size<2;{rw[if_pos c,if_pos c];refine G' (J' ?_);dsimp only;rw[StateT.run_pure];refine G' (J' (tail (SortSt.mk' general' (vs.toArray.zip vs.toArray) #[] 7 none) ⟨List.Perm.refl _,?_,rfl⟩));show (pairsOf vs).toList.Pairwise _;rw[pairsOf_toList];match vs,c with|[],_=>exact .nil|[v],_=>simp|_::_::_,c=>simp at c;lia};rw[if_neg c,if_neg c];obtain⟨O,Q⟩:=F _ H ⋯;refine G' (O _ ?_);have C:Cn prog w A {s with heap:=((s.heap.update a (Obj.mapSeq λ_=>#[])).push (seqObj "tuple" vs.toArray 0)).push (seqObj "list" #[] 0)} kd (pairsOf vs) (kl kf):=λx y R S=>Q x y (mem_zip_self (pairsOf_toList vs ▸ R)).2 (mem_zip_self (pairsOf_toList vs ▸ S)).2;have k:wpS (Np prog w) A E {s with heap:=((s.heap.update a (Obj.mapSeq λ_=>#[])).push (seqObj "tuple" vs.toArray 0)).push (seqObj "list" #[] 0)} sortRuns' (λ_ d=>Ju (kl kf) (pairsOf vs) d) (SortSt.mk' kd (vs.toArray.zip vs.toArray) #[] 7 none):=by rcases Nat.lt_or_ge vs.length 64 with q|q;{exact wrunS (kl_od kf) C (kl_ds l) rfl rfl rfl (Array.Perm.refl _) (by rw[pairsOf_size];lia) (by rw[pairsOf_size];exact q) λ_ f=>f};exact wrun (kl_od kf) C (kl_ds l) rfl rfl rfl (Array.Perm.refl _) (by rw[pairsOf_size];lia) λ_ f=>f
 refine G' (Nj k ?_ λ_ _ e=>e);rintro⟨⟨⟩,d⟩ T ⟨rfl,f⟩;exact tail d f
theorem sorted6{l:γ}(g:s.heap.IsList l vs.toArray)(d:vs.length<=64)(i:(vs.map kf).Nodup)(j:∀(A:Nr)(E:V'->δ->Prop) h',(∀b o,s.heap.get? b=some o->o.cls=.type "tuple" -> h'.get? b=some o)->2<=vs.length->(∀(Q':SortKind->δ->Prop),Q' kd {s with heap:=h'}->No (Np prog w) A (keyKind' vs.toArray) Q' E {s with heap:=h'})/\Cm prog w A {s with heap:=h'} kd (λx=>x.1∈vs) (kl kf))(h:∀a:List V',a.Perm vs->(a.map kf).Pairwise (λp q=>plt q p=false)->Q (.ref (s.heap.objs.size+1)) {s with heap:=sortedAll s.heap vs a.toArray}):No (Np prog w) A (call (.builtin "sorted") [.ref l]) Q E s:=by
 refine Calls.call_function_entry kind_sorted plain_sorted entry_sorted (args_sorted1 _) ?_;unfold Builtin.«sorted»;refine G' (J' (G' (collect_list g (G' (wpAny_newList ?_ (by rw[Nd];lia))) (by rw[Nd];lia))));have e:((s.heap.push (seqObj "list" #[] 0)).update s.heap.objs.size (Obj.mapSeq (·++vs.toArray))).objs.size=s.heap.objs.size+1:=by rw[Heap.size_update,size_push']
 have f:(((s.heap.push (seqObj "list" #[] 0)).update s.heap.objs.size (Obj.mapSeq (·++vs.toArray))).push (seqObj "list" vs.toArray 0)).get? (s.heap.objs.size+1)=some (seqObj "list" vs.toArray 0):=by rw[<-e];exact zAx _ rfl
 have m:∀b o,s.heap.get? b=some o->(((s.heap.push (seqObj "list" #[] 0)).update s.heap.objs.size (Obj.mapSeq (·++vs.toArray))).push (seqObj "list" vs.toArray 0)).get? b=some o:=λb o q=>
  zA2 _ (by rw[Heap.get?_update_ne _ _ _ _ (zAk (zA9 q))];exact zA2 _ q)
 rw[e];exact G' (M' (wpAny_call_entry slot_list_sort ⟨_,f,rfl⟩ entry_list_sort (qar5 f d i (λh' k c=>j _ _ h' (λb o q n=>k b o (m _ _ q) n) c) λa r t=>⟨_,rfl,(J' ⟨_,rfl,h a r t⟩)⟩) (args_list_sort _)))
end
end S6
namespace LV
open PySem L2 PyProof.Rows
variable{ps:List (Int×Int)}
abbrev Gk(ps:List (Int×Int)):List (Int×Int):=ps.mergeSort λp q=>!S6.plt q p
def PrA(H:Hp)(v:V)(p:Int×Int):Prop:=∃b,v=.ref b/\H b=some (.q [.int p.1,.int p.2])
noncomputable def kfh(h:Heap):V'->Int×Int
 |.ref b=>match h.get? b with|some o=>(match o.data with|.seq xs _=>(numOf (xs.getD 0 .none),numOf (xs.getD 1 .none))|_=>(0,0))|none=>(0,0)
 |_=>(0,0)
theorem qbc9(t:S6.TP h v p):kfh h v=p:=by obtain⟨b,t,u,o,n,rfl,a,d,c⟩:=t;simp only[kfh,a,c];rfl
noncomputable def vOf:V'->V|.ref b=>.ref b|_=>.non
section
variable{X:Cx}{Fm:List (γ×Obj)}{σ:List (Option V)}{H:Hp}{s:δ}
theorem qaO8(I:Q9 X Fm σ H s)(r:Q7 vs its)(t:Paired (PrA H) vs ps):its.map (kfh s.heap)=ps/\∀u∈its,S6.TP s.heap u (kfh s.heap u)/\∃b,u=.ref b/\H b=some (.q [.int (kfh s.heap u).1,.int (kfh s.heap u).2]):=by
 induction t generalizing its with
 |nil=>cases r;exact⟨rfl,nofun⟩|@cons v p vs ps h t f=>
  cases r with
  |@cons _ u _ its ru rt=>
   obtain⟨b,rfl,c⟩:=h;cases ru;obtain⟨w,q,⟨o,g,i,n,j⟩,_⟩:=I.tuple (.inl (.inl c));have d:S6.TP s.heap (.ref b) p:=by obtain⟨x,y,rfl,⟨t1,rfl⟩,t2,rfl⟩:=Q7.two q;exact⟨b,t1,t2,o,n,rfl,g,i,j⟩
   have e:=qbc9 d;obtain⟨k,l⟩:=f rt;refine⟨by rw[zAy,e,k],λu a=>?_⟩;rcases zAj.mp a with rfl|a;{rw[e];exact⟨d,b,rfl,c⟩};exact l u a
theorem qaz4{h:Heap}:∀{a:List V'},(∀u∈a,∃b,u=.ref b/\H b=some (.q [.int (kfh h u).1,.int (kfh h u).2]))->Q7 (a.map vOf) a/\Paired (PrA H) (a.map vOf) (a.map (kfh h))|[],_=>⟨.nil,.nil⟩|u::a,k=>by obtain⟨b,rfl,d⟩:=k u zA7;have c:=qaz4 λv e=>k v (zA6 _ e);exact⟨.cons rfl c.1,.cons ⟨b,rfl,d⟩ c.2⟩
theorem qW8{h:Heap}{kf:V'->Int×Int}:∀{its:List V'},(∀u∈its,S6.TP h u (kf u))->∃fs,W.KatTups h its fs/\fs.length=its.length/\∀f∈fs,∃i t,f=Px i t|[],_=>⟨[],trivial,rfl,nofun⟩|u::its,k=>by obtain⟨fs,f1,f2,f3⟩:=qW8 λv c=>k v (zA6 _ c);obtain⟨b,t,w,o,n,rfl,d,e,g⟩:=k u zA7;refine⟨Px _ t::fs,W.KatTups.cons d e g rfl f1,by rw[zAm,f2];rfl,λf a=>?_⟩;rcases zAj.mp a with rfl|a;{exact⟨_,_,rfl⟩};exact f3 f a
theorem qah0(ps:List (Int×Int)):(Gk ps).Pairwise λp q=>S6.plt q p=false:=by
 refine(List.pairwise_mergeSort (λa b c d e=>?_) (λa b=>?_) ps).imp λ{a b} h=>by simpa using h
 {simp[S6.plt] at d e ⊢;lia};simp[S6.plt];lia
theorem qaD8(d:c.Perm ps)(e:c.Pairwise λp q=>S6.plt q p=false):c=Gk ps:=by refine List.Perm.eq_of_pairwise (le:=λp q=>S6.plt q p=false) (λa b _ _ f g=>?_) e (qah0 ps) (d.trans (O5 _ _).symm);simp[S6.plt] at f g;exact Prod.ext ⋯ ⋯
def qaN6(K:P'):List V->Hp->VK->Prop:=λxs H Q=>∃a vs ps,xs=[.ref a]/\SqL K H a vs/\Paired (PrA H) vs ps/\ps.Nodup/\ps.length<=64/\∀l b,H l=none->Paired (PrA H) b (Gk ps)->Q (.ref l) (upd H l (.l b))
theorem qao9:CallR X (.builtin "sorted") (qaN6 X.K):=by
 intro Fm s σ H S U Q I r h;obtain⟨a,V,Y,rfl,B,t,C,Z,q⟩:=h;obtain⟨u,rfl,D⟩:=B9 r;cases D;obtain⟨f,F,G,hz⟩:=I.list B;obtain⟨j,g⟩:=qaO8 I F t;have J:f.length<=64:=by have:=congrArg Ob j;rw[zAe] at this;lia
 refine S6.sorted6 (kd:=tuples' true) G.isList J (by rw[j];exact C) (λA E h' k c=>⟨λQ' l=>?_,λx y L M E Q l=>?_⟩) λd m N=>?_;{obtain⟨fs,f1,f2,f3⟩:=qW8 λu n=>(g u n).1.keep k;refine W.kat_kind (T:=.type "int") f1 ⋯ (λv O=>?_) rfl l;obtain⟨i,t,rfl⟩:=f3 v O;exact W.Looks.of_pure rfl};{exact S6.cmpP ((g _ L).1.keep k) ((g _ M).1.keep k) l};obtain⟨P,p⟩:=qaz4 λu n=>(g u (m.mem_iff.mp n)).2;obtain⟨e,R⟩:=sortedAll_at s.heap f d.toArray;rw[(qaD8 (j ▸ m.map _) N)] at p;refine⟨.ref _,_,I.laid (λb o z=>sortedAll_old z) (Nat.le_succ _) (show ObjOk X.prog X.w _ _ _ (.l (d.map vOf)) from⟨?_,d,e,P,R⟩),rfl,q _ _ (I.hok.fresh (Nat.le_succ _)) p⟩;rw[zAe,m.length_eq,Nd];lia
noncomputable def Lf:D->Option (Int×Int)|.q [.int a,.int b]=>some (a,b)|_=>none
noncomputable def prD2(p:Int×Int):D:=.q [.int p.1,.int p.2]
def qaB1(x:D):Option D:=match x with|.l _ ys=>(ys.mapM Lf).bind λps=>gd (ps.Nodup/\ps.length<=64) (.l false ((Gk ps).map prD2))|_=>none
theorem qai7:∀{ys:List D}{ps:List (Int×Int)},ys.mapM Lf=some ps->ys=ps.map prD2|[],ps,h=>by cases h;rfl|y::ys,ps,h=>by rw[Pn] at h;obtain⟨p,a,h⟩:=zA1.mp h;obtain⟨c,b,h⟩:=zA1.mp h;cases h;rw[zAy,qai7 b];congr 1;unfold Lf at a;split at a;{cases a;rfl};cases a
theorem qaO9{F:γ->Prop}{H:Hp}:∀{ps:List (Int×Int)}{vs:List V}{A:List γ},Q2 F H vs (ps.map prD2) A->Paired (PrA H) vs ps|[],_,_,r=>by cases r;exact .nil|p::ps,_,_,r=>by cases r with|cons h t=>obtain⟨a,d,rfl,e,r⟩:=h.tup_inv;obtain⟨v,w,_,_,rfl,b,c,_⟩:=r.two_inv;rw[b.int_inv,c.int_inv] at e;exact .cons ⟨_,rfl,e⟩ (qaO9 t)
theorem qaF3{F:γ->Prop}{H:Hp}{a:List V}(t:Paired (PrA H) a ps):Q2 F H a (ps.map prD2) []:=by induction t with|nil=>exact .nil|cons h t c=>obtain⟨b,rfl,d⟩:=h;exact .cons (.q d (.cons (.int _) (.cons (.int _) .nil))) c
theorem qaL1{K:P'}:CS1 true (qaN6 K) qaB1:=by intro F H v x B d Q r h q;cases x with|l z n=>obtain⟨c,e,f⟩:=zA1.mp h;obtain⟨⟨g,i⟩,rfl⟩:=qk6 f;cases qai7 e;obtain⟨a,j,A,rfl,k,m,_⟩:=r.lst_inv;exact⟨a,j,c,rfl,.inl (.inl k),qaO9 m,g,i,λl o b t=>q _ _ [l] (qC8 b (qaF3 t)) (Same.new b) (qh2 b)⟩|_=>cases h
end
theorem qY5{F:γ->Prop}{H:Hp}:∀ns:List Int,Q2 F H (ns.map V.int) (ns.map D.int) []|[]=>.nil|n::ns=>.cons (A:=[]) (B:=[]) (.int n) (qY5 ns)
end LV
namespace LV
open PySem L2
mutual
def D.plain:D->Bool|.q ds=>D.plains ds|.l z ds=>!z&&D.plains ds|.non=>true | .bl _=>true | .int _=>true | .str _=>true|_=>false
def D.plains:List D->Bool|[]=>true|d::r=>d.plain&&D.plains r
end
end LV
namespace LV
open PySem L2 PyProof.Rows
section
variable{c:Vc}{X:Cx}{e:Nu}{n o:VT}{s:VSp}
def tOrT(n o:VT):VT:=λds Q xe=>n ds Q xe∨o ds Q xe
theorem eAlt(g:VE c X e n)(i:VE c X e o):VE c X e (tOrT n o):=by refine⟨λFm s l H Q I b=>?_,λd Q Q' f k j a=>Qy (g.m _ _ _ _ _ j a) (i.m _ _ _ _ _ j a)⟩;obtain⟨F,d,A,f,S,a,q⟩:=b;rcases q with q|q;{exact g.h Fm s l H Q I ⟨F,d,A,f,S,a,q⟩};exact i.h Fm s l H Q I ⟨F,d,A,f,S,a,q⟩
end
end LV
namespace LV
open PySem L2 PyProof.Rows
theorem qbd4{k:Key}{u:V'}(h:Hi k u=true):Q6 (kV k) u:=by rcases qd5 h with⟨i,t,rfl,rfl⟩|⟨x,t,rfl,rfl⟩;{exact⟨t,rfl⟩};exact⟨t,rfl⟩
noncomputable def keyD:Key->D|.inl i=>.int i|.inr x=>.str x
end LV
namespace L2
open PySem PySem.Spec PyProof.Rows
section
variable{X:Cx}{j:List (γ×Obj)}{i:St}{H H':Hp}{s:δ}{h':Heap}
theorem Q9.many{t':Nat}(I:Q9 X j i H s)(k:∀b u,s.heap.get? b=some u->h'.get? b=some u)(a:Same H H')(d:∀b o,H b=none->H' b=some o->s.heap.objs.size<=b/\ObjOk X.prog X.w H' h' b o):Q9 X j i H' {s with heap:=h',toks:=t'}:=by refine I.un ⟨λb u q _ _ _=>k b u q,λb u q _ _ _=>⟨u.slots,k b u q⟩,λb u q n _=>?_,λb u q _=>⟨u,k b u q⟩,λb f q=>a b _ q,λb u f q=>a b _ q,λb g q=>⟨#[],by rw[a b _ q];simp⟩⟩ λb u e=>?_;{cases z:H' b with|none=>rfl|some o=>exact absurd (zA9 q) (Nat.not_lt.mpr (d b o n z).1)};cases z:H b with|none=>exact(d b u z e).2|some o=>have:=a b o z;rw[e] at this;cases this;exact(I.hok b u z).stay (λc v _ q=>k c v q) (λc q=>a c _ q) λc f q=>a c _ q
end
def qaN7:V->List V->Hp->VK->Prop:=λx vs H Q=>∃a kvs,x=.ref a/\vs=[]/\Rd H a (.dK kvs)/\∀p,H p=none->Q (.ref p) (upd H p (.ext λh=>h.IsItemsView p a))
theorem qaH4{X:Cx}:MtM X "dict.items" qaN7:=by intro Fm s y H x f v r Q I j k h;obtain⟨a,l,rfl,rfl,m,q⟩:=h;cases j;have d:=k.zero;subst d;obtain⟨z,n,f,rel,g⟩:=Jb I.hok m;refine call_meetsIn Qn g.typeIs F.entry_dict_items (F.args_dict_items_1 _) (meets_dict_items (qg0 X.prog X.w) a n) ⟨⟨f,g⟩,?_⟩;have i:=zAx s.heap (o:={cls:=.type "dict_items",data:=.fields #[.ref a]}) rfl;refine⟨.ref _,_,I.laid (λb o e=>zA2 _ e) (zA3 _) (show ObjOk X.prog X.w _ _ _ (.ext λh=>h.IsItemsView s.heap.objs.size a) from⟨⟨_,i,rfl,rfl⟩,⟨_,i⟩,λt u ⟨o,e,c⟩ p=>⟨o,p o e,c⟩⟩),rfl,q _ (I.hok.fresh (zA3 _))⟩
def PrK(H:Hp)(w:V)(a:Key×V):Prop:=∃b,w=.ref b/\H b=some (.q [kV a.1,a.2])
def qaZ0:List V->Hp->VK->Prop:=λxs H Q=>∃p a kvs,xs=[.ref p]/\H p=some (.ext λh=>h.IsItemsView p a)/\Rd H a (.dK kvs)/\∀l b H2,Same H H2->H l=none->H2 l=some (.l b)->Paired (PrK H2) b kvs->Q (.ref l) H2
theorem qaN4{b:List γ}(h:b.Pairwise (· < ·)){i j:Nat}{a:γ}(hi:b[i]?=some a)(c:b[j]?=some a):i=j:=by obtain⟨e,d⟩:=zA4.mp hi;obtain⟨f,e2⟩:=zA4.mp c;exact(Ov (h.imp λh=>zAk h)).mp (d.trans e2.symm)
theorem qaj8{H2:Hp}:∀{d:List γ}{kvs:List (Key×V)},d.length=kvs.length->(∀(j:Nat)(a:γ)(c:Key×V),d[j]?=some a->kvs[j]?=some c->H2 a=some (.q [kV c.1,c.2]))->Paired (PrK H2) (d.map V.ref) kvs|[],[],_,_=>.nil|a::d,c::kvs,hl,h=>.cons ⟨a,rfl,h 0 a c rfl rfl⟩ (qaj8 (Nat.succ.inj hl) λj b e f g=>h (j+1) b e f g)|[],_::_,hl,_=>by cases hl|_::_,[],hl,_=>by cases hl
theorem KV_at{kvs:List (Key×V)}{vs:List (Key×V')}(r:KV kvs vs):∀{j:Nat}{a:Key×V}{k:Key}{x:V'},kvs[j]?=some a->vs[j]?=some (k,x)->a.1=k/\Q6 a.2 x:=by induction r with|nil=>intro j a k x h;cases h|cons d t e=>intro j a k x b c;cases j with|zero=>cases b;cases c;exact d|succ j=>exact e b c
theorem qap0{X:Cx}(R:X.calm=true):CallR X (.type "list") qaZ0:=by
 intro Fm s σ H xs us Q I r h;obtain⟨p,a,f,rfl,S,T,q⟩:=h;obtain⟨u,rfl,U⟩:=B9 r;cases U;obtain⟨hz,lo,M,rel,Y⟩:=Jb I.hok T;obtain⟨N,D⟩:=Y.dictAt;have hl:f.length=M.length:=rel.length;refine W.kdx_call (knd:=qg0 X.prog X.w) (kvs:=M) (ep:=N) (I.ok.hd R) (show ObjOk X.prog X.w H s.heap p (.ext λh=>h.IsItemsView p a) from I.hok p _ S).1 D ⋯ λh' Z E c' g kp e a0 G v=>?_;have F:∀b,s.heap.objs.size<=b->H b=none:=λb n=>I.hok.fresh n;let t:γ->Option HO:=λb=>(N7 f.length).findSome? λj=>if g[j]?=some b then (f[j]?).map λc=>HO.q [kV c.1,c.2] else none
 let H2:Hp:=λb=>if b=s.heap.objs.size then some (.l (g.map V.ref)) else match H b with|some o=>some o|none=>t b
 have tbAt:∀(j:Nat)(b:γ)(c:Key×V),g[j]?=some b->f[j]?=some c->t b=some (.q [kV c.1,c.2]):=λj b c l m=>by have hj:=(zA4.mp m).1;cases B:t b with|none=>have:=List.findSome?_eq_none_iff.mp B j (zAo.mpr hj);rw[if_pos l,m] at this;cases this|some o=>obtain⟨i,hi,d⟩:=List.exists_of_findSome?_eq_some B;by_cases z:g[i]?=some b;{rw[if_pos z] at d;have:=qaN4 G.rise z l;subst this;rw[m] at d;exact d.symm};rw[if_neg z] at d;cases d
 have tbIn:∀b o,t b=some o->∃(j:Nat)(c:Key×V),g[j]?=some b/\f[j]?=some c/\o=.q [kV c.1,c.2]:=λb o B=>by obtain⟨i,hi,d⟩:=List.exists_of_findSome?_eq_some B;by_cases z:g[i]?=some b;{rw[if_pos z] at d;obtain⟨c,l,m⟩:=zA8.mp d;exact⟨i,c,z,l,m.symm⟩};rw[if_neg z] at d;cases d
 have O:Same H H2:=λb o z=>by
  have C:b≠s.heap.objs.size:=λe=>by rw[e,F _ (zA3 _)] at z;cases z
  show (if b=s.heap.objs.size then _ else _)=_;rw[if_neg C,z]
 have y:H2 s.heap.objs.size=some (.l (g.map V.ref)):=if_pos rfl;have J:∀(j:Nat)(b:γ)(c:Key×V),g[j]?=some b->f[j]?=some c->H2 b=some (.q [kV c.1,c.2]):=λj b c l m=>by have n:=G.above b (zB2 l);show (if b=s.heap.objs.size then _ else _)=_;rw[if_neg (Nat.ne_of_gt n),F b (zBc n)];exact tbAt j b c l m
 refine⟨.ref _,H2,I.many (t':=Z) kp O (λb o n d=>?_),rfl,q _ _ H2 O (F _ (zA3 _)) y (qaj8 ⋯ J)⟩;by_cases C:b=s.heap.objs.size;{subst C;rw[y] at d;cases d;refine⟨zA3 _,by rw[zAe];lia,E.toList,c',?_,by simpa using e⟩;rw[v];exact LV.qaC6 (by rw[zAe,zAe]) λi x u A K=>by rw[zB9] at A K;cases z:g[i]? with|none=>rw[z] at A;cases A|some b=>rw[z] at A K;cases A;cases K;rfl};have d:(match H b with|some o=>some o|none=>t b)=some o:=by have:(if b=s.heap.objs.size then some (HO.l (g.map V.ref)) else match H b with|some o=>some o|none=>t b)=some o:=d;rwa[if_neg C] at this
 rw[n] at d;obtain⟨j,c,l,m,rfl⟩:=tbIn b o d;obtain⟨L,k,x,h3,h4,h5⟩:=G.pairs j b l;refine⟨zBc (G.above b (zB2 l)),by show 2<=M7;decide,[L,x],?_,⟨_,h5,rfl,_,rfl⟩⟩;have P:=KV_at rel m h3;rw[P.1];exact .cons (LV.qbd4 h4) (.cons P.2 .nil)
theorem qaF8{X:Cx}{o:Nu}{to:TE}{apos cpos:Pos}(e:PE X o to)(hbase:Nc o "items" X.env (eval o X.env)=eval o X.env:=by rfl)(hline:(apos.endLine==cpos.line)=true:=by rfl):PE X (.Call (.Attribute o "items" apos) [] [] cpos) (λj H Q=>to j H λx H1=>qaN7 x [] H1 Q):=by intro Fm s j H Q I h;refine wpAny_Call_method0_late hbase hline (thn (e Fm s j H _ I h) λv f b=>?_);obtain⟨x,H1,I1,g,d⟩:=b;obtain⟨a,c,rfl,_,i,q⟩:=id d;cases g;obtain⟨t1,t2,_⟩:=qaT4 I1 (.inl ⟨c,i⟩);exact⟨"dict", "dict.items",Qm,Qn,F.type_dict_items,t1,t2,Calls.callWith_builtin rfl (PySem.evalArgs_none (qaH4 Fm f j H1 (.ref a) [] (.ref a) [] Q I1 rfl .nil d))⟩
def qay9:V->List V->Hp->VK->Prop:=λx vs H Q=>∃(l:γ)(ns:List Int)(k:Int),x=.ref l/\vs=[.int k]/\H l=some (.l (ns.map V.int))/\k∈ns/\Q .non (upd H l (.l ((ns.erase k).map V.int)))
theorem qZ7{k:Int}:∀{ns:List Int},k∈ns->∃j,ns[j]?=some k/\(∀(m:Nat)(x:Int),m<j->ns[m]?=some x->x≠k)/\ns.eraseIdx j=ns.erase k|y::ns,h=>by by_cases e:y=k;{subst e;exact⟨0,rfl,λm x a=>absurd a (zCn _),by rw[List.erase_cons_head];rfl⟩};obtain⟨j,c,d,f⟩:=qZ7 ((zAj.mp h).resolve_left λz=>e z.symm);refine⟨j+1,c,λm x a b=>?_,by rw[List.erase_cons_tail (by simpa using e),<-f];rfl⟩;cases m with|zero=>cases b;exact e|succ m=>exact d m x ⋯ b
theorem qat6:MtM X "list.remove" qay9:=by
 intro Fm s U H x R v S Q I J K h;obtain⟨l,d,k,rfl,rfl,D,L,q⟩:=h;cases J;obtain⟨u,rfl,M,rfl⟩:=K.one;obtain⟨z,b,n,r,T,e⟩:=I.lstM D;have f:=r.length;rw[zAe] at f;have g:∀m (c:m<b.length),∃t,b[m]=Px (d[m]'⋯) t:=λm c=>by obtain⟨w,E,t,rfl⟩:=r.get (i:=m) (x:=.int (d[m]'⋯)) (by simp[show m<d.length by lia]);exact⟨t,by rw[zC8 c] at E;exact P8 E⟩
 let G:V'->Bool:=λy=>match y with | .int i _=>i==k|_=>false
 obtain⟨j,N,p,A⟩:=qZ7 L;obtain⟨O,B⟩:=zA4.mp N;have o:∀m (c:m<b.toArray.size),G b.toArray[m]=(d[m]'(by simp at c;lia)==k):=λm c=>by
  obtain⟨t,e⟩:=g m (by simpa using c);have e:b.toArray[m]=Px (d[m]'(by simp at c;lia)) t:=by simpa using e
  rw[e]
 refine Nl Qk ⟨_,e,rfl⟩ F.entry_list_remove (F.args_list_remove_2 _ _) (MeetsSeq.list_remove l b.toArray n (.int k M) G (λy P=>?_) j (by simp;lia) ?_ (λm c C=>?_) (by rw[zA5];lia)) ⟨e,?_⟩;{obtain⟨m,c,rfl⟩:=List.getElem_of_mem (by simpa using P:y∈b);obtain⟨t,e⟩:=g m c;rw[e];exact MeetsSeq.EqGives.int _ _ _ _};{rw[o];simp[B]};{rw[o];exact beq_false_of_ne (p m _ C (by simp[show m<d.length by simp at c;lia]))};refine⟨.non,_,I.lset (its':=b.eraseIdx j) D e (by simp) ?_ ?_,rfl,q⟩;{rw[<-A,show (d.eraseIdx j).map V.int=(d.map V.int).eraseIdx j from by simp[List.eraseIdx_eq_take_drop_succ,Os,Pq]];exact r.eraseIdx _};rw[zAe];have:=List.length_erase_le (a:=k) (l:=d);lia
end L2
namespace LV
open PySem L2 PyProof.Rows
def Jv(ys xs:Ds):Option (Ds×D):=match xs with|[.int k]=>(intsD ys).bind λns=>if k∈ns then some ((ns.erase k).map D.int,.non) else none|_=>none
theorem qaN5{ys xs:Ds}{z:Ds×D}(h:Jv ys xs=some z):∃k ns,xs=[.int k]/\intsD ys=some ns/\k∈ns/\z=((ns.erase k).map D.int,.non):=by unfold Jv at h;split at h;{rename_i k;obtain⟨ns,c,a⟩:=zA1.mp h;by_cases b:k∈ns;{rw[if_pos b] at a;exact⟨k,ns,rfl,c,b,(P8 a).symm⟩};rw[if_neg b] at a;cases a};cases h
theorem qbb8:Jl qay9 Jv:=by intro F H a n o Ael p s T f d Q g r i h q;obtain⟨k,j,rfl,l,m,e⟩:=qaN5 h;cases e;obtain⟨w,rfl,c⟩:=i.one_inv;obtain rfl:=c.int_inv;cases r.intsD l;exact⟨a,j,k,rfl,rfl,g,m,q _ .non [] [] (qY5 _) .non λb=>by simp⟩
def qaU7(x:D):Option D:=match x with|.dct _ a=>gd (D.imms (a.map (·.2))=true) (.l false (a.map λkd=>.q [keyD kd.1,kd.2]))|_=>none
theorem qO6{F:γ->Prop}{H:Hp}:∀{a:List V}{kvs:List (Key×V)}{kds:List (Key×D)},kvs.map (·.1)=kds.map (·.1)->Q2 F H (kvs.map (·.2)) (kds.map (·.2)) []->Paired (PrK H) a kvs->Q2 F H a (kds.map λkd=>.q [keyD kd.1,kd.2]) []
 |[],[],[],_,_,_=>.nil|w::a,(k,v)::kvs,(k',d)::kds,h,r,.cons ⟨b,hb,eb⟩ t=>by obtain⟨c,e⟩:=List.cons.inj h;subst (c);subst hb;have r:=r;generalize f:([]:List γ)=N at r;cases r with|@cons _ _ B _ _ B' r1 t1=>obtain⟨rfl,rfl⟩:=List.append_eq_nil_iff.mp f.symm;refine .cons (.q eb (.cons (A:=[]) ?_ (.cons r1 .nil))) (qO6 e t1 t);cases k with|inl i=>exact .int i|inr x=>exact .str x
 |[],_::_,_,_,_,t=>nomatch t|_::_,[],_,_,_,t=>nomatch t|_,[],_::_,h,_,_=>nomatch h|_,_::_,[],h,_,_=>nomatch h
theorem qaM1{c:Vc}{X:Cx}{o:Nu}{oa:Bool}{fa:FV}{p pos apos cpos:Pos}(hm:X.mg "list"=none)(u:VV c X o oa fa)(w:X.calm=true:=by rfl)(y:Gl X "list" := by rfl)(hbase:Nc o "items" X.env (eval o X.env)=eval o X.env:=by rfl)(hline:(apos.endLine==cpos.line)=true:=by rfl)(m:M6 [.Call (.Attribute o "items" apos) [] [] cpos] X.env=(false,eval (.Call (.Attribute o "items" apos) [] [] cpos) X.env)::M6 [] X.env:=by rfl)(i:(backTo pos (M6 [] X.env)).any (·.1)=false:=by rfl):VV c X (.Call (.Name "list" p) [.Call (.Attribute o "items" apos) [] [] cpos] [] pos) true (f1 qaU7 fa):=by
 refine⟨PE.mono (cty (qap0 w) hm (qc6 (qaF8 u.h hbase hline) qk1 m) y rfl ∅ ∅ m i) λO H Q j=>?_⟩;obtain⟨F,B,A,d,S,e,q⟩:=j;obtain⟨x,C,e2⟩:=qav4.mp e;cases x with
 |dct z D=>
  obtain⟨E,rfl⟩:=qk6 e2;refine⟨F,B,A,_,S,C,λv H1 B1 G n _=>?_⟩;obtain⟨a,b,A2,rfl,r,I,J,_⟩:=G.dct_inv;refine⟨a,b,rfl,rfl,.inl r,λp K=>?_⟩;have g:Same H1 (upd H1 p (.ext λh=>h.IsItemsView p a)):=Same.new K;refine⟨p,a,b,rfl,qb7,.inl (g _ _ r),λl N H2 s t L M=>?_⟩;have f:H1 l=none:=by cases z:H1 l with|none=>rfl|some o=>rw[g l o z] at t;cases t
  have k:H l=none:=by cases z:H l with|none=>rfl|some o=>rw[n l o z] at f;cases f
  exact q _ H2 [l] (.l L (qO6 I ((J.imms0 E).same (g.trans s)) M)) ((n.trans g).trans s) λ_=>qh2 k
 |_=>cases e2
end LV
namespace LV
open PySem L2
def tSlN(i:Nat)(tb:VT):VT:=λds Q xe=>(rdN i ds).isSome=true/\tb ds (λy ds1=>orF y.asI λh=>orF ((rdN i ds1).bind λx=>if noT x=true then gSl x none (some h) else none) λd=>Q d ds1) xe
theorem eslN(i:Nat)(k:VE c X b tb)(t:X.N[i]?=some x:=by rfl)(j:Vis X.env.scope x:=by first|exact Qx rfl|exact Qw (Qx rfl)|exact Qw (Qw rfl))(G:N' x:=by decide)(l:(x==("__classdict__" : Str))=false:=by decide):VE c X (.Subscript (.Name x p0) (.Slice none (some b) none p2) pos) (tSlN i tb):=by
 refine⟨λFm s σ H Q I n=>?_,λu Q Q' C J K e=>P7 (k.m _ _ _ _ _ (λd f=>qa5 λh=>qa5 λz=>K z f) e)⟩;obtain⟨F,u,A,C,S,x,L,q⟩:=n;refine qU0 qah2 (qo9 t j G l) qai9 (qai8 k.h) Fm s σ H Q I ?_;have D:=qn6 t Fm σ H s I;obtain⟨W,o⟩:=zB0.mp L;obtain⟨v,B0,j,_,_⟩:=S.name D o;refine⟨v,j,F,u,A,C,S,x,k.m _ _ _ _ _ (λY f q w H1 F1 T A1 M S1 Z O=>?_) (λ_ _ z=>z) q⟩;have p:Ra F H A F1 H1 A1:=O.count λb=>by rw[zA0];lia
 obtain⟨h,P,q⟩:=qa7.mp q;obtain⟨d,a,q⟩:=qa7.mp q;obtain⟨y,R,a⟩:=zA1.mp a;obtain⟨v',B,g,U,_⟩:=S1.name D R;rw[j] at g;cases g;by_cases e:noT y=true;{rw[if_pos e] at a;refine⟨h,M.asI P,os_sl U a (λys z=>by subst z;cases e) λw H' B' V r E=>?_⟩;exact q w H' F1 B' A1 V (S1.same r) (S1.new E r) (p.trans (E.stp r))};rw[if_neg e] at a;cases a
section
variable{c:Vc}{X:Cx}{o:Nu}{ta:VT}{own:Bool}{g:FV}{Y Z:Pos}{qual m:Str}{st:Nv}{f C:γ}{fd:ε}{ps:List Str}{k:Nat}{s:VSp}
def qay0(C:γ)(m:Str)(s:VSp)(ta:VT):VT:=λds Q xe=>ta ds (λd ds1=>d.isM C m=true/\s [d] (λr ys=>orF (Aq [.no] ys ds1) λa=>Q r a) (λx ys=>orF (Aq [.no] ys ds1) λa=>xe x a)) xe
theorem qaW0{pl:Sem Bool}(D:Md X.K C m qual st f fd ps)(u:Cls X.K C)(G:G0 cm X.prog X.w X.K X.mg X.base k f fd ps s)(y:Lands X c.E)(B:Rc cm k X.A)(e:VE c X o ta)(I:eval (.Call (.Attribute o m Z) [] [] Y) X.env=(do
 let ov<-eval o X.env
 standAt Z.atName
 let (f,first)<-holding [ov] (getMethod ov m pl)
 callWith Y f first (backTo Y (M6 [] X.env)) (backToKw Y (Ni [] X.env))):=by rfl):VE c X (.Call (.Attribute o m Z) [] [] Y) (qay0 C m s ta):=by refine⟨PE.mono (qaj1 e.h u D.me G.ok B D.b .nil y.passes I) λW H Q g=>?_,λn Q Q' p J L r=>e.m _ _ _ _ _ (λd i=>P7 (G.m _ _ _ _ _ (λd M=>qa5 λz=>L _ _) (λx M=>qa5 λz=>r _ _))) r⟩;obtain⟨F,n,A,p,S,x,q⟩:=g;refine⟨F,n,A,p,S,x,e.m _ _ _ _ _ (λd i ⟨N,q⟩ v H1 F1 T A1 t S1 O P=>?_) (λ_ _ z=>z) q⟩;obtain⟨a,R,U,rfl,j,l⟩:=t.isM N;refine⟨a,R,U,rfl,j,l,?_⟩;refine qaB8 qx2 G.m S x (.cons t .nil) (.no .nil) S1 (by rw[zAa];exact O) (by rw[zAa];exact P) (λd V h=>h) q
theorem qaV9{pl:Sem Bool}(D:Md X.K C m qual st f fd ps)(a:Cls X.K C)(G:G0 cm X.prog X.w X.K X.mg X.base k f fd ps s)(b:Lands X c.E)(d:Rc cm k X.A)(e:VV c X o own g)(h:eval (.Call (.Attribute o m Z) [] [] Y) X.env=(do
     let ov<-eval o X.env
     standAt Z.atName
     let (f,first)<-holding [ov] (getMethod ov m pl)
     callWith Y f first (backTo Y (M6 [] X.env)) (backToKw Y (Ni [] X.env))):=by rfl):VE c X (.Call (.Attribute o m Z) [] [] Y) (qay0 C m s (Fw g)):=qaW0 D a G b d (qb9 e) h
end
end LV
namespace L2
open PySem PySem.Spec PyProof.Rows
def tHdM(M:γ->Option Bool)(j:Nat)(ts tr:γ->TS):γ->TS:=λa D d H=>∃C c b,H a=some (Bm a C c false)/\M C=some b/\if b=true then ts a (behind j D) (d.set j (some (.ref a))) H else tr a D d H
theorem Rc.u64(a:Rc cm k A):A.units+64<cLine:=a.units
theorem Rc.mark{cm:Bool}{k:Nat}{A:Nr}(r:Rc cm k A)(v:Option V'):Rc false k (A.mark v):=⟨λz=>(nomatch z),r.dp,r.un⟩
section
variable{X:Cx}
theorem hd_go{j:Nat}{y:Str}{pos:Pos}{b₀:Nv}{suite:List Nv}{rest:List ExceptHandler}{ts tr:γ->TS}{Fm:List (γ×Obj)}{s:δ}{B:St}{H:Hp}{D:B7}{a:γ}{n:Nat}{b:Bool}(d:X.N.Nodup)(i:∀a,PSs (Xh X a) (b₀::suite) (ts a))(k:PH X rest tr)(e:X.N[j]?=some y)(c:X.env.scope.names.lookup y=some .local)(I:Q9 X Fm B H s)(F:Fly n H s.heap a)(O:Old X Fm n)(q:if b=true then ts a (behind j D) (B.set j (some (.ref a))) H else tr a D B H):(match (Except.ok (if b then Flow.brk else Flow.next):Result) with
     |.ok .brk=>codeAny (Np X.prog X.w) (X.A.mark (some (.ref a))) (.handlers (.ref a) [.ExceptHandler none (some y) (b₀::suite) pos] X.env) (λr s₂=>match r with
         |.ok f=>No (Np X.prog X.w) X.A (do bindName X.env y .none;unbindBehindTheSuite X.env y pos) (λ_ s₃=>SP X Fm D f s₃) X.xe s₂
         |.error x=>cameBackBy (Np X.prog X.w) X.A X.env X.xe x s₂) s
     |.ok _=>No (Np X.prog X.w) X.A (handleBy (.ref a) X.env rest) (SP X Fm D) X.xe s
     |.error x=>cameBackBy (Np X.prog X.w) X.A X.env X.xe x s):=by
 cases b with
 |false=>
   exact k Fm s B H D a n I F O q
 |true=>
   refine codeAny_handlers_suite_as (qav0 I F O λo I1 F1=>?_);refine qI1 (X:=Xh X a) (v:=.ref a) I1.h d e (.inl c) rfl (λl I2=>?_) (.inr c);refine Nj (i a Fm l (B.set j (some (.ref a))) H (behind j D) I2 q) (λf p z=>?_) λ_ _ z=>z.elim
   cases f with
   |next=>obtain⟨B',H',J,z⟩:=z;exact qZ0 (J.unh I.ok) d e c λg J4=>⟨_,H',J4,z⟩
   |brk=>obtain⟨B',H',J,z⟩:=z;exact qZ0 (J.unh I.ok) d e c λg J4=>⟨_,H',J4,z⟩
   |cont=>obtain⟨B',H',J,z⟩:=z;exact qZ0 (J.unh I.ok) d e c λg J4=>⟨_,H',J4,z⟩
   |ret u=>obtain⟨v,B',H',J,m,z⟩:=z;exact qZ0 (J.unh I.ok) d e c λg J4=>⟨v,_,H',J4,m,z⟩
theorem qaZ8(j:Nat){x y:Str}{C':γ}{np pos:Pos}{b₀:Nv}{suite:List Nv}{rest:List ExceptHandler}{ts tr:γ->TS}(d:X.N.Nodup)(c:Exc X.K C')(hm:X.mg x=some (.ref C'))(e:∀a,PSs (Xh X a) (b₀::suite) (ts a))(f:PH X rest tr)(g:X.N[j]?=some y:=by rfl)(i:X.env.scope.names.lookup y=some .local:=by rfl)(k:Gl X x:=by rfl)(l:N' x:=by decide):PH X (.ExceptHandler (some (.Name x np)) (some y) (b₀::suite) pos::rest) (tHdM (λC=>W.mroIn X.K C (.ref C')) j ts tr):=by intro Fm s B H D a n I F O h;obtain⟨C,r,b,m,o,q⟩:=h;obtain⟨t,u,p1,p,_⟩:=qV7 I.hok m;refine wpAny_handleBy_cons (codeAny_handlers_test (qO3 I.h k hm ?_ l)) (by intro z;cases z);exact qav7 I.kIn c p1 p o (hd_go d e f g i I F O q)
end
end L2
namespace LV
open PySem L2
variable{H:Hp}{x:Str}
abbrev VH:=Exn->VTS
inductive Ks(c:Vc)(t:VH)(a:γ)(E:B7)(b:St)(H:Hp):Prop
 |mk (x:Exn) (F:γ->Prop) (ds:Ds) (A:List γ) (e:VEnds) (r:RepX F H a x) (S:Rb c F H b ds A) (l:Lk c E F H A e) (q:t x e ds):Ks c t a E b H
structure VHs(c:Vc)(X:Cx)(hs:List ExceptHandler)(t:VH):Prop where
 h:PH X hs (Ks c t)
 m:∀x (e e':VEnds) ds,e.Le e'->t x e ds->t x e' ds
section
variable{c:Vc}{X:Cx}{Y Z:Pos}{j:Nat}{U:VTS}{R:VH}{V:Nv}{L:List Nv}{rest:List ExceptHandler}{y:Str}{M:γ->Option Bool}
theorem PH.mono{b:List ExceptHandler}{t t':γ->TS}(h:PH X b t)(i:∀a D J H,t' a D J H->t a D J H):PH X b t':=λFm s J H D a n I F O q=>h Fm s J H D a n I F O (i a D J H q)
theorem vhnil:VHs c X [] (λ_ _ _=>False):=⟨PH.mono qaZ7 λ_ _ _ _ ⟨_,_,_,_,_,_,_,_,q⟩=>q,λ_ _ _ _ _ z=>z⟩
noncomputable def Ik(e:VEnds):VEnds:=⟨λ_=>False,e.rt,λ_=>False,λ_=>False,λ_ _=>False⟩
noncomputable abbrev cNo(c:Vc):Vc:={c with E:=λ_ _ _ _=>False}
def hAs(M:γ->Option Bool)(j:Nat)(U:VTS)(R:VH):VH:=λx e ds=>x.fs≠[]/\∃b,M x.C=some b/\if b=true then U (Ik e) (ds.set j (.exn x.C x.fs)) else R x e ds
theorem RepX.rep{F:γ->Prop}{a:γ}{x:Exn}(r:RepX F H a x)(h:x.fs≠[]):Q8 F H (.ref a) (.exn x.C x.fs) []:=by obtain⟨g,e,q|⟨i,b,rfl,c,d,f⟩⟩:=r;{exact absurd q h};exact .exn e c d f
theorem hAs_m{X':Cx}{st:List Nv}(f:VSs (cNo c) X' st U)(g:VHs c X rest R):∀x (e a:VEnds) ds,e.Le a->hAs M j U R x e ds->hAs M j U R x a ds:=λx e a ds d ⟨h,b,i,q⟩=>⟨h,b,i,qH0 (f.m (Ik e) (Ik a) _ ⟨λ_ z=>z,d.rt,λ_ z=>z,λ_ z=>z,λ_ _ z=>z⟩) (g.m x e a ds d) q⟩
theorem qbe1(k:c.W j=false){f:TS}(g:f=G6 (cNo c) U){a:γ}{D:B7}{J:St}(m:j<J.length)(q:Ks c (hAs M j U R) a D J H):tHdM M j (λ_=>f) (Ks c R) a D J H:=by subst g;obtain⟨x,F,n,A,e,r,S,l,h,b,p,q⟩:=q;obtain⟨t,u,_⟩:=id r;refine⟨x.C,t,b,u,p,?_⟩;cases b with|false=>exact⟨x,F,n,A,e,r,S,l,q⟩|true=>obtain⟨A',S',w⟩:=S.store k m (r.rep h) (by simpa using S.ok);exact⟨F,_,A',Ik e,⟨S'.loc,S'.ok,S'.len,S'.ag⟩,⟨λ_ _ _ _ _ z=>z.elim,λd i v J' H' F' T A2 q r S2 o s=>l.rt d i v J' H' F' T A2 q r ⟨S2.loc,S2.ok,S2.len,S2.ag⟩ o (w.trans s),λ_ _ _ _ _ z=>z.elim,λ_ _ _ _ _ z=>z.elim,λ_ _ _ _ _ _ _ z=>z.elim⟩,q⟩
theorem vhas(j:Nat){C':γ}(f:X.N.Nodup)(ex:Exc X.K C')(hm:X.mg x=some (.ref C'))(b:∀a,VSs (cNo c) (Xh X a) (V::L) U)(d:VHs c X rest R)(g:c.W j=false:=by rfl)(e:X.N[j]?=some y:=by rfl)(i:X.env.scope.names.lookup y=some .local:=by rfl)(k:Gl X x:=by rfl)(l:N' x:=by decide):VHs c X (.ExceptHandler (some (.Name x Z)) (some y) (V::L) Y::rest) (hAs (λC=>W.mroIn X.K C (.ref C')) j U R):=⟨λFm s J H D a n I F O q=>qaZ8 j f ex hm (λa=>(b a).h) d.h e i k l Fm s J H D a n I F O (qbe1 g rfl (qn6 e Fm J H s I) q),hAs_m (b 0) d⟩
def sTryW(t:VTS)(th:VH):VTS:=λe ds=>t {e with xe:=λx a=>th x e a} ds
theorem stryW{body:List Nv}{h₀:ExceptHandler}{o:List ExceptHandler}{t:VTS}{th:VH}(p:∀E xe f,Lands (Xt X xe f) E->VSs {c with E:=E} (Xt X xe f) body t)(s:VHs c X (h₀::o) th)(g:X.stack=X.env::X.outer:=by rfl)(i:X.env.frame=some X.env.locals:=by rfl):VS c X (.Try body (h₀::o) [] [] Y) (sTryW t th):=by refine⟨PS.mono (qaZ4 (λE xe f w=>(p E xe f w).h) s.h g i) λD J H j=>?_,λe G u h=>(p (λ_ _ _ _=>False) (λ_ _=>True) [] λ_ _ _ _ _ _ _ _ _ z=>z.elim).m _ _ _ ⟨h.nx,h.rt,h.bk,h.ct,λx b=>s.m x _ _ _ h⟩⟩;obtain⟨F,u,A,e,S,l,q⟩:=j;refine⟨λJ' y _ H'=>∃x a b F' A',y=.ref a/\th x e b/\RepX F' H' a x/\Rb c F' H' J' b A'/\Ra F H A F' H' A',⟨F,u,A,_,⟨S.loc,S.ok,S.len,S.ag⟩,⟨?_,?_,?_,?_,?_⟩,q⟩,λa J' H' ⟨x,I,b,F',A',B,C,k,S',n⟩=>?_⟩;{exact λb J' H' F' A' q S'=>l.nx b J' H' F' A' q ⟨S'.loc,S'.ok,S'.len,S'.ag⟩};{exact λd b v J' H' F' T A' q r S'=>l.rt d b v J' H' F' T A' q r ⟨S'.loc,S'.ok,S'.len,S'.ag⟩};{exact λb J' H' F' A' q S'=>l.bk b J' H' F' A' q ⟨S'.loc,S'.ok,S'.len,S'.ag⟩};{exact λb J' H' F' A' q S'=>l.ct b J' H' F' A' q ⟨S'.loc,S'.ok,S'.len,S'.ag⟩};{exact λx b J' a H' F' A' q k S' n=>⟨x,a,b,F',A',rfl,q,k,⟨S'.loc,S'.ok,S'.len,S'.ag⟩,n⟩};cases B;exact⟨J',rfl,λ_ _ z=>z,x,F',b,A',e,k,S',l.step n,C⟩
end
section
variable{c:Vc}{X:Cx}{e e2:Nu}{W p:Pos}{own:Bool}{f:FV}
theorem Q8.exn_inv{F:γ->Prop}{v:V}{C:γ}{fs:List (Str×D)}{B:List γ}(r:Q8 F H v (.exn C fs) B):∃a dx b,v=.ref a/\B=[]/\H a=some (Bm a C (some dx) false)/\H dx=some (XD dx b)/\b.map (·.1)=fs.map (·.1)/\Q2 F H (b.map (·.2)) (fs.map (·.2)) []:=by cases r with|exn h g e r=>exact⟨_,_,_,rfl,rfl,h,g,e,r⟩
def Mn(K:P')(f:FV)(u:V'):VT:=λds Q _=>orF (f ds) λd=>∃C fs b,d=.exn C fs/\IsX K C/\Qa K (.ref C) u=some b/\Q (.bl b) ds
theorem eisX{d:V}{u:V'}(hm:X.mg "isinstance"=none)(o:VV c X e own f)(t:PE X e2 (tC d))(w:Q6 d u)(g:∀l,Q6 d l->l=u)(y:Gl X "isinstance" := by rfl)(h1:M6 [e,e2] X.env=(false,eval e X.env)::M6 [e2] X.env:=by rfl)(h2:M6 [e2] X.env=(false,eval e2 X.env)::M6 [] X.env:=by rfl)(i:((backTo W (M6 [e2] X.env)).any λx=>x.1)=false:=by rfl):VE c X (.Call (.Name "isinstance" p) [e,e2] [] W) (Mn X.K f u):=by refine⟨PE.mono (cbi qaL4 hm (qc6 o.h (qc6 t qk1 h2) h1) y rfl ∅ ∅ h1 i) λU H Q j=>?_,λm Q Q' z D E _=>qa5 λd ⟨C,n,b,h1,h2,G,I⟩=>⟨C,n,b,h1,h2,G,E _ _ I⟩⟩;obtain⟨F,m,A,z,S,x,q⟩:=j;obtain⟨P,J,C,n,b,rfl,ix,L,q⟩:=qa7.mp q;refine⟨F,m,A,_,S,J,λv H1 B r s _=>?_⟩;obtain⟨a,M,k,rfl,rfl,N,O,_⟩:=r.exn_inv;exact⟨a,d,u,C,M,false,k,b,rfl,w,g,N,O,ix,L,q _ _ F [] A (.bl b) (S.same s) (S.same s).ok (.same s)⟩
theorem Gm(C':γ){np:Pos}(hm:X.mg "isinstance"=none)(d:VV c X e own f)(g:X.mg x=some (.ref C'))(h:Gl X "isinstance" := by rfl)(a:Gl X x:=by rfl)(i:N' x:=by decide)(h1:M6 [e,.Name x np] X.env=(false,eval e X.env)::M6 [.Name x np] X.env:=by rfl)(h2:M6 [.Name x np] X.env=(false,eval (.Name x np) X.env)::M6 [] X.env:=by rfl)(b:((backTo W (M6 [.Name x np] X.env)).any λx=>x.1)=false:=by rfl):VE c X (.Call (.Name "isinstance" p) [e,.Name x np] [] W) (Mn X.K f (.ref C')):=eisX hm d (qaP7 C' g a i) rfl (λ_ z=>z) h h1 h2 b
theorem eisXt(n:String){np:Pos}(hm:X.mg "isinstance"=none)(g:VV c X e own f)(a:X.mg x=none)(h:Gl X "isinstance" := by rfl)(b:Gl X x:=by rfl)(i:Na x=some (.type n):=by rfl)(j:x ≠ "__name__" := by decide)(k:N' x:=by decide)(h1:M6 [e,.Name x np] X.env=(false,eval e X.env)::M6 [.Name x np] X.env:=by rfl)(h2:M6 [.Name x np] X.env=(false,eval (.Name x np) X.env)::M6 [] X.env:=by rfl)(d:((backTo W (M6 [.Name x np] X.env)).any λx=>x.1)=false:=by rfl):VE c X (.Call (.Name "isinstance" p) [e,.Name x np] [] W) (Mn X.K f (.type n)):=eisX hm g (qas6 n a b i j k) rfl (λ_ z=>z) h h1 h2 d
def tEFX(K:P')(f:FV)(fl:Str):VT:=λds Q _=>orF (f ds) λd=>∃C fs v,d=.exn C fs/\Exc K C/\qd1 K C fl/\fs.lookup fl=some v/\Q v ds
theorem eefld{fl:Str}{K:P'}(k:X.K=K)(l:VV c X e own f)(m:Nc e fl X.env (eval e X.env)=eval e X.env:=by rfl):VE c X (.Attribute e fl W) (tEFX K f fl):=by subst k;refine⟨PE.mono (qaP8 l.h m) λU H Q g=>?_,λj Q Q' o p t _=>qa5 λd ⟨C,i,v,u,w,y,z,D⟩=>⟨C,i,v,u,w,y,z,t _ _ D⟩⟩;obtain⟨F,j,A,o,S,x,q⟩:=g;obtain⟨T,E,C,i,d,rfl,G,n,I,q⟩:=qa7.mp q;refine⟨F,j,A,_,S,E,λv H1 B r s _=>?_⟩;obtain⟨a,J,b,rfl,rfl,L,M,N,O⟩:=r.exn_inv;obtain⟨v,P,R⟩:=qG8 b i N O I;exact⟨a,C,J,false,b,v,rfl,L,M,G,n,P,q _ _ F [] A R (S.same s) (S.same s).ok (.same s)⟩
theorem qam0{X':Cx}:Lands X' (cNo c).E:=λ_ _ _ _ _ _ _ _ _ z=>z.elim
end
end LV
namespace LV
open PySem L2
variable{C:γ}{L:List γ}
noncomputable def fUn(f:FV):FV:=λds=>(f ds).map λ_=>.u
theorem vun{c:Vc}{X:Cx}{e:Nu}{own:Bool}{f:FV}(h:VV c X e own f):VV c X e true (fUn f):=⟨PE.mono h.h λg H Q ⟨F,a,A,d,S,e,q⟩=>by
 obtain⟨x,b,rfl⟩:=zA8.mp e;exact⟨F,a,A,x,S,b,λv H' B r s n=>q v H' [] (.u v) s λ_=>New.nil⟩⟩
def rIsN(C:γ)(L:List γ):List V->Hp->VK->Prop:=λxs H Q=>∃x,xs=[x,.ref C]/\((∃a dx fs,x=.ref a/\H a=some (.ins C dx fs)/\Q (.bl true) H)∨(∃a dx fs C',C'∈L/\x=.ref a/\H a=some (.ins C' dx fs)/\Q (.bl false) H)∨(∃t,Bf H x=some t/\Q (.bl false) H))
def IsN(K:P')(C:γ)(L:List γ):Prop:=∀C'∈L,IsO K C'/\Cls K C'/\Qa K (.ref C') (.ref C)=some false
theorem qaT2{K:P'}:IsN K C []:=nofun
theorem qam7{K:P'}{C':γ}(i:IsO K C')(c:Cls K C')(k:Qa K (.ref C') (.ref C)=some false)(h:IsN K C L):IsN K C (C'::L):=λD a=>(zAj.mp a).elim (λe=>e ▸ ⟨i,c,k⟩) (h D)
theorem qaS7{K:P'}{C':γ}(k:Qa K (.ref C') (.ref C)=some false):C'≠C:=λe=>by
 rw[e] at k;unfold Qa at k;rw[if_pos (by simp)] at k;cases k
theorem qaL5{X:Cx}(d:IsO X.K C)(f:Cls X.K C)(l:IsN X.K C L):CallR X (.builtin "isinstance") (rIsN C L):=by intro Fm s y H g j Q I r h;obtain⟨x,e,h⟩:=h;rcases h with h|⟨a,t,v,C',m,rfl,n,q⟩|h;{exact qM0 d f Fm s y H g j Q I r ⟨x,e,.inl h⟩};{subst e;obtain⟨u,w,rfl,o,b⟩:=Ic r;cases b;obtain⟨i,c,k⟩:=l C' m;exact qz2 I o (.ins n c i.ca i.cn i.ct i.cm) k λp=>⟨.bl false,H,I.tok p,rfl,q⟩};exact qM0 d f Fm s y H g j Q I r ⟨x,e,.inr h⟩
noncomputable def Mo(C:γ)(y d:D):Option D:=match y with|.adr a=>if a=C then some d else none|_=>none
def Mp(C:γ)(L:List γ)(x y:D):Option D:=match x with|.ins z C' fs=>if C'∈L then Mo C y (.bl false) else He C (.ins z C' fs) y|x=>He C x y
theorem qbf2:CS2 true (rIsN C L) (Mp C L):=by
 intro F H v w x y A B d Q g i e q;have b:He C x y=some d->rIsN C L [v,w] H Q:=λe=>by obtain⟨j,e,h⟩:=qaL2 _ _ _ _ _ _ _ _ _ _ g i e q;exact⟨j,e,h.imp_right .inr⟩
 cases x with
 |ins z C' k=>
  have e:(if C'∈L then Mo C y (.bl false) else He C (.ins z C' k) y)=some d:=e;by_cases c:C'∈L
  .rw[if_pos c] at e;obtain⟨rfl,rfl⟩:y=.adr C/\D.bl false=d:=by cases y with|adr a=>exact(Option.ite_none_right_eq_some.mp e).imp (congrArg _) P8|_=>cases e
   cases i;obtain⟨p,l,f,_,rfl,h,_,_,_⟩:=g.ins_inv;exact⟨_,rfl,.inr (.inl ⟨p,l,f,C',c,rfl,h,q _ H [] (.bl _) (λ_ _ z=>z) New.nil⟩)⟩
  rw[if_neg c] at e;exact b e
 |_=>exact b e
end LV
namespace LV.My
open PySem L2 Row _root_.My
variable{N i j l r:Nat}{Q:DK}{R:Ds->D->Prop}{S ks ns:List Int}{b z':Bool}{d p x y:D}{ds ys:Ds}{e:VEnds}{f fa fb:FV}{fl m:Str}{fs:List (Str×D)}{g':Nat->Option Int}{k:Int}{qc:VTT}{s:VSp}{t u:VTS}{ta tb te:VT}{tr:VTB}{xe:XKd}{α:Type}
noncomputable def _root_.LV.D.whole:D->Bool|.int _=>true|_=>false
noncomputable def _root_.LV.D.within(l m:Int):D->Bool|.int i=>decide (l<=i)&&decide (i<=m)|_=>false
def _root_.LV.D.num:D->Bool:=D.within 0 1000000000000000000
noncomputable def fx3(g:D->D->D->Option D):Ds->Option D|[x,y,z]=>g x y z|_=>none
theorem qal8(h:Fs (fx1 g) ds Q xe):ds.length=1:=by match ds,h with|[_],_=>rfl
theorem qaS5(h:Fs (fx3 g) ds Q xe):ds.length=3:=by match ds,h with|[_,_,_],_=>rfl
theorem imm1(h:Fs (fx1 g) ds Q xe):Js (wOf [true]) 0 ds=true:=by match ds,h with|[_],_=>rfl
theorem imm3(h:Fs (fx3 g) ds Q xe):Js (wOf [true,true,true]) 0 ds=true:=by match ds,h with|[_,_,_],_=>rfl
theorem Mq(h:Fs (fx1 g) ds Q xe):∃x d,ds=[x]/\g x=some d/\Q d [x]:=by match ds,h with|[x],h=>obtain⟨d,e,q⟩:=qa7.mp h;exact⟨x,d,rfl,e,q⟩
theorem pure3(h:Fs (fx3 g) ds Q xe):∃x y z d,ds=[x,y,z]/\g x y z=some d/\Q d [x,y,z]:=by match ds,h with|[x,y,z],h=>obtain⟨d,e,q⟩:=qa7.mp h;exact⟨x,y,z,d,rfl,e,q⟩
theorem qi5{t:String}(h:x.kind=some t):x.known=true:=by cases x<;>first|rfl|cases h
def A4(P:Ds->D->Prop):VSp:=λds Q _=>∃d,P ds d/\Q d ds
theorem qb3:Fq (A4 P):=λ_ _ _ _ _ a _ ⟨d,p,q⟩=>⟨d,p,a _ _ q⟩
noncomputable def Q5(ps:Pr):Ds:=ps.map λp=>.q [.int p.1,.int p.2]
noncomputable def kvD(ps:Pr):List (Key×D):=ps.map λp=>(.inl p.1,.int p.2)
def Qz(z:Bool)(C:γ)(n:Int)(wr:Bool)(ps:Pr):D:=.ins z C [("rooms",.int n),("wraps",.bl wr),("homes",.l z (Q5 ps)),("home_numbers",.dct z (kvD ps))]
noncomputable def Gf:Option Int->D|none=>.non|some k=>.int k
def Q4(n:Nat)(g:Nat->Option Int):Ds:=(N7 n).map λi=>Gf (g i)
noncomputable def Q3(ks:List Int):Ds:=ks.map .int
theorem qO7:∀ps:Pr,D.imms (Q5 ps)=true|[]=>rfl|p::r=>by show (D.imms [.int p.1,.int p.2]&&D.imms (Q5 r))=true;rw[qO7 r];rfl
theorem qe8:∀ks:List Int,D.imms (Q3 ks)=true|[]=>rfl|k::r=>by show (true&&D.imms (Q3 r))=true;rw[qe8 r];rfl
theorem qV4{α:Type}{f:α->D}(h:∀a,(f a).imm=true):∀l:List α,D.imms (l.map f)=true|[]=>rfl|a::r=>by show ((f a).imm&&D.imms (r.map f))=true;rw[h a,qV4 h r];rfl
theorem qaU0(o:Option Int):(Gf o).imm=true:=by cases o<;>rfl
theorem qD4(n:Nat)(g:Nat->Option Int):D.imms (Q4 n g)=true:=qV4 (λi=>qaU0 _) _
theorem qam8:∀ks:List Int,intsD (Q3 ks)=some ks|[]=>rfl|k::r=>by show (intsD (Q3 r)).map (λis=>k::is)=some (k::r);rw[qam8 r];rfl
theorem qL0:∀ks:List Int,flats (Q3 ks)=some (ks.map V.int)|[]=>rfl|k::r=>by show (Option.bind (some (V.int k)) λv=>(flats (Q3 r)).bind λa=>some (v::a))=_;rw[qL0 r];rfl
theorem qh3(ks:List Int):(Q3 ks).length=ks.length:=zAe _
theorem qp9(n:Nat)(g:Nat->Option Int):(Q4 n g).length=n:=by simp[Q4]
theorem qP1{n:Nat}{g:Nat->Option Int}(h:i<n):(Q4 n g)[i]?=some (Gf (g i)):=by unfold Q4;rw[zB9,List.getElem?_range h];rfl
theorem qah5{n:Nat}{g:Nat->Option Int}{o:Option Int}:(Q4 n g).set i (Gf o)=Q4 n (λj=>if j=i then o else g j):=by apply List.ext_getElem?;intro j;by_cases a:j<n;{rw[qP1 a];by_cases e:i=j;{subst e;rw[zC1 (by rw[qp9];exact a),if_pos rfl]};rw[zBf e,qP1 a,if_neg (Ne.symm e)]};rw[List.getElem?_eq_none (by rw[Om,qp9];lia),List.getElem?_eq_none (by rw[qp9];lia)]
theorem qaj7:∀ps:Pr,K5 (Q5 ps)=some (kvD ps)|[]=>rfl|p::r=>by show (Option.bind (some ((Sum.inl p.1:Key),D.int p.2)) λq=>(K5 (Q5 r)).bind λps=>some (q::ps))=_;rw[qaj7 r];rfl
theorem qas2{ps:Pr}{m:Int}(h:¬k∈ps.map (·.1)):Hj (kvD ps) (.inl k) (.int m)=kvD (ps++[(k,m)]):=by unfold Hj;rw[if_neg];{unfold kvD;rw[zBo];rfl};intro e;obtain⟨q,a,e⟩:=List.any_eq_true.mp e;obtain⟨r,b,rfl⟩:=zB8.mp a;exact h (zB8.mpr ⟨r,b,Sum.inl.inj (zAh e)⟩)
theorem qX9:∀(a ps:Pr),((ps++a).map (·.1)).Nodup->qx5 (kvD ps) (kvD a)=kvD (ps++a)
 |[],ps,_=>by rw[zAa];rfl|q::a,ps,h=>by
  show qx5 (Hj (kvD ps) (.inl q.1) (.int q.2)) (kvD a)=_;have b:¬q.1∈ps.map (·.1):=by rw[zBo,zAy,zBs] at h;exact λz=>h.2.2 _ z _ zA7 rfl
  rw[qas2 b,qX9 a (ps++[(q.1,q.2)]) (by rw[zAs];exact h),zAs];rfl
theorem qat7(h:(ps.map (·.1)).Nodup):qx5 [] (kvD ps)=kvD ps:=qX9 ps [] h
theorem qaB4(h:(ps.map (·.1)).Nodup):Kf (.l z (Q5 ps))=some (.dct false (kvD ps)):=by show (K5 (Q5 ps)).map (λps=>D.dct false (qx5 [] ps))=_;rw[qaj7];show some (D.dct false (qx5 [] (kvD ps)))=_;rw[qat7 h]
theorem qax8(k:Int):∀ps:Pr,Gd (kvD ps) (.inl k)=(ps.lookup k).map .int
 |[]=>rfl|(p,m)::r=>by
  show Gd ((.inl p,.int m)::kvD r) _=_;by_cases e:p=k;{subst e;simp[Gd,zAv]};have a:Gd ((.inl p,D.int m)::kvD r) (.inl k)=Gd (kvD r) (.inl k):=by simp[Gd,zBz,e]
  rw[a,qax8 k r];have:(k==p)=false:=by simpa using λz=>e z.symm
  simp only[zAv,this]
theorem qa1{o:Option α}{a:α}{k:α->Prop}(e:o=some a)(h:k a):orF o k:=by rw[e];exact h
theorem By{p:Prop}[Decidable p]{a b:Prop}(h:p)(x:a):if p then a else b:=by rw[if_pos h];exact x
theorem Il{p:Prop}[Decidable p]{a b:Prop}(h:¬p)(x:b):if p then a else b:=by rw[if_neg h];exact x
theorem ite_b{p:Bool}{a b:Prop}(h1:p=true->a)(h2:p=false->b):if p=true then a else b:=by cases p with|true=>exact h1 rfl|false=>exact h2 rfl
noncomputable def Lg:Option Int->D|some f=>.int f|none=>.non
theorem qW4(b:rdN i ds=some x)(h:s [x] (λd ys=>orF (Aq [.sl i] ys (ds.set i .u)) λa=>Q d a) (λe ys=>orF (Aq [.sl i] ys (ds.set i .u)) λa=>xe e a)):qk9 s [] (tbN i A6) ds Q xe:=⟨by rw[b];rfl,by show orF (rdN i ds) _;rw[b];exact h⟩
theorem qB8{f:Ds->Option D}(e:f ds=some d)(q:Q d ds):Fs f ds Q xe:=qa1 e q
theorem qm0(e:R ds d)(q:Q d ds):A4 R ds Q xe:=⟨d,e,q⟩
theorem qc4{K:Ds->List Pl->Ds->Prop}(a:rdN i ds=some x)(h:tr ds (λxs ps ds1=>orF (rdN i ds1) λd=>K (d::xs) (.sl i::ps) (ds1.set i .u)) xe):tbN i tr ds K xe:=⟨by rw[a];rfl,h⟩
theorem qc8(b:f ds=some y)(h:tr ds (λxs ps a=>K (y::xs) (.no::ps) a) xe):tbV (Bq f) tr ds K xe:=qa1 b h
theorem rd0{r:Ds}(h:d.known=true):rdN 0 (d::r)=some d:=qn3.mpr ⟨rfl,h⟩
theorem qan8{β:Type}(f:α->β)(l:List α):l.filterMap (λa=>some (f a))=l.map f:=by simp
section
variable{z:Bool}{C:γ}{n:Int}{wr:Bool}{ps:Pr}
theorem qD6{f:Str}(h:fs.lookup f=some d):D.fld C f (.ins z C fs)=some d:=by show (if C=C then fs.lookup f else none)=some d;rw[if_pos rfl,h]
theorem qd8:D.fld C "rooms" (Qz z C n wr ps)=some (.int n):=qD6 (by rfl)
theorem qo3:D.fld C "wraps" (Qz z C n wr ps)=some (.bl wr):=qD6 (by rfl)
theorem qav1:D.fld C "homes" (Qz z C n wr ps)=some (.l z (Q5 ps)):=qD6 (by rfl)
theorem qH3:D.fld C "home_numbers" (Qz z C n wr ps)=some (.dct z (kvD ps)):=qD6 (by rfl)
theorem qaA6(h:fs.lookup m=none):(D.ins z C fs).isM C m=true:=by show (decide (C=C)&&(fs.lookup m).isNone)=true;rw[zAi rfl,h];rfl
theorem qg6(h:([("rooms",.int n),("wraps",.bl wr),("homes",.l z (Q5 ps)),("home_numbers",.dct z (kvD ps))]:List (Str×D)).lookup m=none):(Qz z C n wr ps).isM C m=true:=qaA6 h
theorem Ay(h:fa ds=some x)(h':g x=some y):f1 g fa ds=some y:=qav4.mpr ⟨x,h,h'⟩
theorem Ah(h:fa ds=some x)(h':fb ds=some y)(h2:g x y=some d):f2 g fa fb ds=some d:=qaK1.mpr ⟨x,y,h,h',h2⟩
theorem qh9:(D.ins false C fs).ownI C=some fs:=by show (if C=C then some fs else none)=some fs;rw[if_pos rfl]
end
theorem qt3{C:γ}(b:rdN i ds=some p)(hm:p.isM C m=true)(h:tr ds (λxs ps ds1=>orF (rdN i ds1) λd=>s (d::(xs++[])) (λr ys=>orF (Aq (.sl i::ps) ys (ds1.set i .u)) λa=>Q r a) (λx ys=>orF (Aq (.sl i::ps) ys (ds1.set i .u)) λa=>xe x a)) xe):qE2 C m s [] i tr ds Q xe:=⟨qa1 b hm,h⟩
theorem Lh{f:Ds->Option D}(a:rdN i ds=some x)(e:f [x]=some d)(b:Aq [.sl i] [x] (ds.set i .u)=some ds)(q:Q d ds):qk9 (Fs f) [] (tbN i A6) ds Q xe:=qW4 a (qB8 e (qa1 b q))
theorem qbc5(a:rdN i ds=some x)(r:R [x] d)(b:Aq [.sl i] [x] (ds.set i .u)=some ds)(q:Q d ds):qk9 (A4 R) [] (tbN i A6) ds Q xe:=qW4 a (qm0 r (qa1 b q))
theorem qK4(c:rdN i ds=some x)(b:rdN j ds=some y)(a:rdN i (ds.set j .u)=some x)(r:R [x,y] d)(e:Aq [.sl i,.sl j] [x,y] ((ds.set j .u).set i .u)=some ds)(q:Q d ds):qk9 (A4 R) [] (tbN i (tbN j A6)) ds Q xe:=qc4 c (qc4 b (qa1 b (qa1 a (qm0 r (qa1 e q)))))
theorem Li{w:D}(e:rdN i ds=some x)(f:rdN j ds=some y)(c:rdN l ds=some w)(a:rdN j (ds.set l .u)=some y)(b:rdN i ((ds.set l .u).set j .u)=some x)(r:R [x,y,w] d)(g:Aq [.sl i,.sl j,.sl l] [x,y,w] (((ds.set l .u).set j .u).set i .u)=some ds)(q:Q d ds):qk9 (A4 R) [] (tbN i (tbN j (tbN l A6))) ds Q xe:=qc4 e (qc4 f (qc4 c (qa1 c (qa1 a (qa1 b (qm0 r (qa1 g q)))))))
theorem qK3{C:γ}(c:rdN i ds=some p)(hm:p.isM C m=true)(b:rdN j ds=some x)(a:rdN i (ds.set j .u)=some p)(r:R [p,x] d)(e:Aq [.sl i,.sl j] [p,x] ((ds.set j .u).set i .u)=some ds)(q:Q d ds):qE2 C m (A4 R) [] i (tbN j A6) ds Q xe:=qt3 c hm (qc4 b (qa1 b (qa1 a (qm0 r (qa1 e q)))))
theorem qat8{C:γ}(e:rdN i ds=some p)(hm:p.isM C m=true)(f:rdN j ds=some x)(c:rdN l ds=some y)(a:rdN j (ds.set l .u)=some x)(b:rdN i ((ds.set l .u).set j .u)=some p)(r:R [p,x,y] d)(g:Aq [.sl i,.sl j,.sl l] [p,x,y] (((ds.set l .u).set j .u).set i .u)=some ds)(q:Q d ds):qE2 C m (A4 R) [] i (tbN j (tbN l A6)) ds Q xe:=qt3 e hm (qc4 f (qc4 c (qa1 c (qa1 a (qa1 b (qm0 r (qa1 g q)))))))
theorem Gx{t:VT}(h:∀(Q:DK)(xe:XKd),Q (.bl true) ds->t ds Q xe)(h2:u e ds):Ix (sIf (Gi (ttE t)) n Jk) u e ds:=h _ _ h2
theorem if_e{t:VT}(h:∀(Q:DK)(xe:XKd),Q (.bl b) ds->t ds Q xe)(h1:b=true->u e ds)(h2:b=false->v e ds):sIf (ttE t) u v e ds:=h _ _ (by
 exact ite_b h1 h2)
theorem if_v(h:f ds=some (.bl b))(h1:b=true->u e ds)(h2:b=false->v e ds):sIf (ttV f) u v e ds:=by show orF ((f ds).bind D.asB) _;rw[h];exact ite_b h1 h2
theorem Im{u:VT}(h:f ds=some (.bl b))(h1:b=true->u ds Q xe)(h2:b=false->v ds Q xe):tIfE (ttV f) u v ds Q xe:=by show orF ((f ds).bind D.asB) _;rw[h];exact ite_b h1 h2
theorem qn5(e:f ds=some d)(q:Q d ds):Bq f ds Q xe:=qa1 e q
theorem qi9(b:Bool)(h:f ds=some (.bl b))(h1:b=true->u {e with nx:=w e} ds)(h2:b=false->w e ds):Ix (sIf (ttV f) u Jk) w e ds:=if_v h h1 h2
theorem qf5{t:VT}(h:t ds e.rt e.xe):sRet t e ds:=h
theorem qg9(d:D)(h:f ds=some d)(q:e.rt d ds):sRet (Bq f) e ds:=qa1 h q
theorem At(a:Ds)(h:ds=a)(q:t e a):t e ds:=h ▸ q
theorem qam6{z:Bool}(h:rdN i ds=some (.l z ys)):A7 (fx2 gIsi) (A5 (rdN i) (A5 (kC (D.ty "list")) λ_=>some [])) ds=some (.bl true):=by unfold A7 A5;rw[h];rfl
theorem qD3{z:Bool}(h:rdN i ds=some (.l z ys)):A7 (fx1 Hx) (A5 (rdN i) λ_=>some []) ds=some (.int (ys.length:Nat)):=by unfold A7 A5;rw[h];rfl
theorem qm6{Q:Bool->Ds->Prop}(h:f ds=some (.bl b))(q:Q b ds):ttV f ds Q xe:=by show orF ((f ds).bind D.asB) _;rw[h];exact q
theorem qk8{Q:Bool->Ds->Prop}(h:f ds=some (.bl b))(q:Q (!b) ds):Gi (ttV f) ds Q xe:=qm6 h q
theorem qp2{t u:VTT}{Q:Bool->Ds->Prop}(b c:Bool)(h1:∀Q:Bool->Ds->Prop,Q b ds->t ds Q xe)(h2:b=false->∀Q:Bool->Ds->Prop,Q c ds->u ds Q xe)(q:Q (b||c) ds):ttOr t u ds Q xe:=h1 _ (by
 cases b with
 |false=>exact h2 rfl _ q
 |true=>exact q)
theorem qH8{t u:VTT}{Q:Bool->Ds->Prop}(b c:Bool)(h1:∀Q:Bool->Ds->Prop,Q b ds->t ds Q xe)(h2:b=true->∀Q:Bool->Ds->Prop,Q c ds->u ds Q xe)(q:Q (b&&c) ds):ttAnd t u ds Q xe:=h1 _ (by
 cases b with
 |false=>exact q
 |true=>exact h2 rfl _ q)
theorem if_of(b:Bool)(h:∀Q:Bool->Ds->Prop,Q b ds->qc ds Q e.xe)(h1:b=true->t e ds)(h2:b=false->u e ds):sIf qc t u e ds:=h _ (ite_b h1 h2)
theorem qj2(b:Bool)(h:∀Q:Bool->Ds->Prop,Q b ds->qc ds Q e.xe)(h1:b=true->t {e with nx:=w e} ds)(h2:b=false->w e ds):Ix (sIf qc t Jk) w e ds:=h _ (ite_b h1 h2)
theorem qan1{t:VT}(h:∀(Q:DK)(xe:XKd),Q (.bl true) ds->t ds Q xe)(h2:e.nx ds):sIf (Gi (ttE t)) n Jk e ds:=h _ _ h2
theorem qaA9(h:f ds=some (.bl true))(h2:u e ds):Ix (sIf (Gi (ttV f)) n Jk) u e ds:=qk8 (Q:=λk a=>if k=true then n {e with nx:=u e} a else u e a) (xe:=e.xe) h h2
theorem qaI6:He C (Qz z C n wr ps) (.adr C)=some (.bl true):=by show (if C=C then (Qz z C n wr ps).isC C else none)=_;rw[if_pos rfl];show (if C=C then some (D.bl true) else none)=_;rw[if_pos rfl]
theorem qf3{g:VTG}{t:VTS}{e:VEnds}(I:Nat->Ds->Prop):∀(xs:List D)(i:Nat)(ds:Ds),I i ds->(∀(j:Nat)(x:D),xs[j]?=some x->∀ds,I (i+j) ds->∀K:Ds->Prop,(∀a,I (i+j+1) a->K a)->g x ds λds1=>t {e with nx:=K,ct:=K,bk:=e.nx} ds1)->(∀a,I (i+xs.length) a->e.nx a)->Ge g t e xs ds|[],_,ds,h,_,hn=>hn ds h|x::xs,i,ds,h,hs,hn=>hs 0 x rfl ds h _ λa f=>qf3 I xs (i+1) a f (λj y k b c K l=>hs (j+1) y k b (by rw[show i+(j+1)=i+1+j by lia];exact c) K λd m=>l d (by rw[show i+1+j+1=i+(j+1)+1 by lia];exact m)) λb c=>hn b (by rw[zAm,show i+(xs.length+1)=i+1+xs.length by lia];exact c)
theorem qV6(h:f ds=some (.int n))(a:I8 n=true)(k:Ge g t e (Bo 0 n.toNat) ds):qas0 (Ld (tbV (Fw f) A6)) g t e ds:=by show orF (f ds) _;rw[h];exact⟨rfl,a,k⟩
theorem Mr(a:0<=n)(h1:n<=1000):I8 n=true:=by unfold I8;rw[zAi ⋯,zAi ⋯];rfl
theorem Lj{m:Nat}(h:(Bo 0 m)[j]?=some x):j<m/\x=.int (j:Int):=by by_cases a:j<m;{rw[qai4 a] at h;cases h;exact⟨a,by rw[Int.zero_add]⟩};rw[List.getElem?_eq_none (by unfold Bo;rw[zAe,zBa];lia)] at h;cases h
def Gb(p:Int->Bool)(y:D):Option D:=y.asI.bind λk=>if p k=true then some (.int k) else none
theorem qO4{p:Int->Bool}(h:p k=true):Gb p (.int k)=some (.int k):=if_pos h
theorem qO5{p:Int->Bool}(h:p k=false):Gb p (.int k)=none:=if_neg (by rw[h];decide)
theorem qx1(p:Int->Bool):∀ks:List Int,(Q3 ks).filterMap (Gb p)=Q3 (ks.filter p)|[]=>rfl|k::ks=>by show Po (Gb p) (D.int k::Q3 ks)=_;rw[zCe];cases h:p k with|true=>rw[qO4 h,Og h];show D.int k::(Q3 ks).filterMap (Gb p)=_;rw[qx1 p ks];rfl|false=>rw[qO5 h,zCg (by rw[h];decide),qx1 p ks]
theorem qbe5(h1:fa ds=some (.bl a))(h2:fb ds=some (.bl b)):fOr fa fb ds=some (.bl (a||b)):=by unfold fOr;rw[h1,h2];cases a<;>rfl
theorem qZ6(h1:fa ds=some (.bl a))(h2:fb ds=some (.bl b)):fAnd fa fb ds=some (.bl (a&&b)):=by unfold fAnd;rw[h1,h2];cases a<;>rfl
theorem qb1(ds1:Ds)(h1:∀K:Ds->Prop,K ds1->t {e with nx:=K} ds)(h2:u e ds1):Ix t u e ds:=h1 (u e) h2
theorem qc1(R:Ds->Prop)(h1:∀K:Ds->Prop,(∀ds1,R ds1->K ds1)->t {e with nx:=K} ds)(h2:∀ds1,R ds1->u e ds1):Ix t u e ds:=h1 (u e) h2
theorem qaf5(I:Nat->Ds->Prop)(n:Nat)(h:I n ds)(c:∀n ds,I n ds->∀K:Ds->Prop,(∀m a,m<n->I m a->K a)->qc ds (λb ds1=>if b=true then t {e with nx:=K,ct:=K,bk:=e.nx} ds1 else e.nx ds1) e.xe):qaN3 qc t e ds:=by
 have d:∀N n ds,n<N->I n ds->whN qc t e N ds:=by intro N;induction N with|zero=>intro n ds h;exact absurd h (zCn _)|succ N f=>intro n ds i h;exact c n ds h _ λm a j g=>f m a ⋯ g
 exact⟨n+1,d (n+1) n ds (Nat.lt_succ_self n) h⟩
theorem qu4(f:rdN i ds=some x)(c:rdN j ds=some y)(b:rdN i (ds.set j .u)=some x)(h:s [x,y] (λd ys=>orF (Aq [.sl i,.sl j] ys ((ds.set j .u).set i .u)) λa=>Q d a) (λe ys=>orF (Aq [.sl i,.sl j] ys ((ds.set j .u).set i .u)) λa=>xe e a)):qk9 s [] (tbN i (tbN j A6)) ds Q xe:=qc4 f (qc4 c (qa1 c (qa1 b h)))
theorem qax3{w:D}(g:rdN i ds=some x)(k:rdN j ds=some y)(f:rdN l ds=some w)(b:rdN j (ds.set l .u)=some y)(c:rdN i ((ds.set l .u).set j .u)=some x)(h:s [x,y,w] (λd ys=>orF (Aq [.sl i,.sl j,.sl l] ys (((ds.set l .u).set j .u).set i .u)) λa=>Q d a) (λe ys=>orF (Aq [.sl i,.sl j,.sl l] ys (((ds.set l .u).set j .u).set i .u)) λa=>xe e a)):qk9 s [] (tbN i (tbN j (tbN l A6))) ds Q xe:=qc4 g (qc4 k (qc4 f (qa1 f (qa1 b (qa1 c h)))))
theorem qbc4{C:γ}{k:Nat}{w:D}(f:rdN i ds=some p)(hm:p.isM C m=true)(g:rdN j ds=some x)(h:rdN l ds=some y)(e:rdN k ds=some w)(a:rdN l (ds.set k .u)=some y)(b:rdN j ((ds.set k .u).set l .u)=some x)(c:rdN i (((ds.set k .u).set l .u).set j .u)=some p)(r:R [p,x,y,w] d)(n:Aq [.sl i,.sl j,.sl l,.sl k] [p,x,y,w] ((((ds.set k .u).set l .u).set j .u).set i .u)=some ds)(q:Q d ds):qE2 C m (A4 R) [] i (tbN j (tbN l (tbN k A6))) ds Q xe:=qt3 f hm (qc4 g (qc4 h (qc4 e (qa1 e (qa1 a (qa1 b (qa1 c (qm0 r (qa1 n q)))))))))
theorem qaE0(h:ds[j]?=some d):ds.set j d=ds:=by obtain⟨a,e⟩:=zA4.mp h;rw[<-e];exact List.set_getElem_self a
theorem qe7(h:ds[i]?=some d)(a:d.known=true):rdN i ds=some d:=qn3.mpr ⟨h,a⟩
def Re(ns:List Int)(b:D):Prop:=∃x y z,b=bagD x y z ns/\Bg x y z ns
theorem Re.known{b:D}(h:Re ns b):b.known=true:=by obtain⟨x,y,z,rfl,_⟩:=h;rfl
def qS4:VSp:=λds Q _=>∃b m ns,ds=[b,.int m]/\Re ns b/\0<m/\m<2 ^ 200/\∀v a,0<=v->v<m->Re ns a->Q (.int v) [a,.int m]
theorem qc5{b:D}{m:Int}(d:ds[i]?=some b)(B:Re ns b)(e:f ds=some (.int m))(g:0<m)(h1:m<2 ^ 200)(q:∀v a,0<=v->v<m->Re ns a->Q (.int v) (ds.set i a)):qk9 qS4 [] (tbN i (tbV (Bq f) A6)) ds Q xe:=by have c:=qe7 d B.known;refine qc4 c (qc8 e (qa1 c ⟨b,m,ns,rfl,B,g,h1,λv a h j B'=>?_⟩));show Q (.int v) ((ds.set i .u).set i a);rw[Pa];exact q v a h j B'
theorem qz4{b:D}{m:Int}(f:ds[i]?=some b)(B:Re ns b)(c:ds[j]?=some (.int m))(d:i≠j)(g:0<m)(h1:m<2 ^ 200)(q:∀v a,0<=v->v<m->Re ns a->Q (.int v) (ds.set i a)):qk9 qS4 [] (tbN i (tbN j A6)) ds Q xe:=by
 have l:=(zA4.mp c).1;refine qu4 (qe7 f B.known) (qe7 c rfl) (qe7 (by rw[zBf (Ne.symm d)];exact f) B.known) ⟨b,m,ns,rfl,B,g,h1,λv a h k B'=>?_⟩;show Q (.int v) ((((ds.set j .u).set i .u).set i a).set j (.int m));have e:(((ds.set j .u).set i .u).set i a).set j (.int m)=ds.set i a:=by rw[Pa,List.set_comm _ _ (Ne.symm d),Pa];exact qaE0 (by rw[zBf d];exact c)
 rw[e];exact q v a h k B'
theorem Ms{i j:Int}(h:small j=true):Jg (.int i) (.int j)=some (.int (i*j)):=qk5 (by rw[h,Bool.or_true])
theorem mulL{i j:Int}(h:small i=true):Jg (.int i) (.int j)=some (.int (i*j)):=qk5 (by rw[h,Bool.true_or])
theorem qaK9{i j:Int}(h:0<j)(h1:j<2 ^ 200):gDiv (.int i) (.int j)=some (.int (i/j)):=qk5 (by show (decide (0<j)&&decide (j<2 ^ 200))=true;rw[zAi h,zAi h1];rfl)
theorem G2{x:Int}(h:0<n):Ma (.int x) (.int n)=some (.int (x%n)):=qk5 (zAi h)
theorem qah1{i:Int}(h:-(2 ^ 64)<i)(h':i<2 ^ 64):small i=true:=by unfold small;rw[zAi h,zAi h'];rfl
theorem Gc{z:Bool}{g:Nat->Option Int}(h:r<N):gIx (.l z (Q4 N g)) (.int (r:Int))=some (Gf (g r)):=qap3 (qP1 h)
theorem Ll{g:Nat->Option Int}(h:r<N):ixN (Q4 N g).length (r:Int)=some r:=by rw[qp9];unfold ixN;simp[h]
theorem qI6{n:Nat}{g:Nat->Option Int}{c:Int}:(Q4 n g).set i (.int c)=Q4 n (Row.set g i c):=qah5 (o:=some c)
theorem qaH1(N:Nat):(N8 N [D.non]).flatten=Q4 N (λ_=>none):=by unfold Q4;induction N with|zero=>rfl|succ N a=>rw[List.replicate_succ',List.flatten_append,a,Ph,zBo];rfl
theorem qV0(a:0<=n)(h1:n<=64):Jg (.l false [.non]) (.int n)=some (.l false (Q4 n.toNat λ_=>none)):=by rw[<-qaH1];exact qk5 ⟨rfl,by show 1*n.toNat<=1000000;lia,⋯,⋯⟩
theorem ql7{g:Nat->Option Int}(h:∀i,i<N->g i=g' i):Q4 N g=Q4 N g':=by unfold Q4;apply O6;intro i a;rw[h i (zAo.mp a)]
theorem qZ2(h:f ds=some (.int n))(a:I8 n=true)(k:Ge g t e (Bo 0 n.toNat) ds):qas0 (Ld (tbV (Bq f) A6)) g t e ds:=by show orF (f ds) _;rw[h];exact⟨a,k⟩
theorem qau9{g:VTG}{n:Int}(h:rdN i ds=some (.int n))(a:I8 n=true)(k:Ge g t e (Bo 0 n.toNat) (ds.set i .u)):qas0 (Ld (tbN i A6)) g t e ds:=by refine⟨by rw[h];rfl,?_⟩;exact qa1 h ⟨a,k⟩
theorem qak5{z:Bool}:gInB true (.int k) (.l z (Q3 ks))=some (.bl (!decide (k∈ks))):=by show ((flats (Q3 ks)).bind λa=>some (D.bl (if true=true then !inV (.int k) a else inV (.int k) a)))=_;rw[qL0];show some (D.bl (!inV (.int k) (ks.map V.int)))=_;rw[qaI8]
theorem qY1(lo:Int)(n:Nat):(Bo lo n).length=n:=by unfold Bo;rw[zAe,zBa]
theorem qt8(e:f ds=some d)(hi:d.imm=true)(q:Q d ds):Fw f ds Q xe:=qa1 e ⟨hi,q⟩
theorem qA1(h:f ds=some d)(hi:d.imm=true)(q:e.nx (ds.set i d)):G1 (Fw f) (gNm i) e ds:=qt8 h hi q
theorem qA0(h:f ds=some d)(q:e.nx (ds.set i d)):G1 (Bq f) (gNm i) e ds:=qn5 h q
theorem qaB0{n:Nat}{K:Ds->Prop}(hi:ds[i]?=some (.l false ys))(a:fb ds=some (.int k))(b:ixN ys.length k=some n)(q:K (ds.set i (.l false (ys.set n d)))):Kn (λ_=>some (i,[])) fb d ds K:=by refine qa1 rfl ?_;refine qa1 (by show (Bb ds i []).bind D.own=_;rw[qK8 hi];rfl) ?_;refine qa1 (by rw[a];rfl) ?_;refine qa1 b ?_;rw[qI5 hi];exact q
theorem qM4{n:Nat}(a:f ds=some d)(b:d.imm=true)(hi:ds[i]?=some (.l false ys))(c:fb ds=some (.int k))(g:ixN ys.length k=some n)(q:e.nx (ds.set i (.l false (ys.set n d)))):G1 (Fw f) (Kn (λ_=>some (i,[])) fb) e ds:=qt8 a b (qaB0 hi c g q)
theorem qW9{n:Nat}(a:f ds=some d)(hi:ds[i]?=some (.l false ys))(b:fb ds=some (.int k))(c:ixN ys.length k=some n)(q:e.nx (ds.set i (.l false (ys.set n d)))):G1 (Bq f) (Kn (λ_=>some (i,[])) fb) e ds:=qn5 a (qaB0 hi b c q)
theorem qe1(b:f ds=some y)(hi:y.imm=true)(h:tr ds (λxs ps a=>K (y::xs) (.no::ps) a) xe):tbV (Fw f) tr ds K xe:=qt8 b hi h
theorem qab4(hi:ds[i]?=some (.l false ys))(a:f ds=some d)(b:ys.length<big)(q:Q .non (ds.set i (.l false (ys++[d])))):G7 gApp i (tbV (Bq f) A6) ds Q xe:=by
 have e:(rdN i ds).bind D.own=some ys:=by rw[qe7 hi rfl];rfl
 refine⟨by rw[e];rfl,qc8 a ?_⟩;exact qa1 e (qa1 (if_pos b) q)
theorem qaW7(hi:ds[i]?=some (.l false ys))(a:ds[j]?=some d)(b:d.known=true)(c:i≠j)(f:ys.length<big)(q:Q .non ((ds.set j .u).set i (.l false (ys++[d])))):G7 gApp i (tbN j A6) ds Q xe:=by
 have e:(rdN i ds).bind D.own=some ys:=by rw[qe7 hi rfl];rfl
 have e2:(rdN i (ds.set j .u)).bind D.own=some ys:=by rw[qe7 (by rw[zBf (Ne.symm c)];exact hi) rfl];rfl
 refine⟨by rw[e];rfl,qc4 (qe7 a b) ?_⟩;exact qa1 (qe7 a b) (qa1 e2 (qa1 (if_pos f) q))
theorem qak7{g:Ds->Ds->Option (Ds×D)}{pf:PF}{p:List Nat}{d0:D}(h1:pf ds=some (i,p))(h2:(Bb ds i p).bind D.own=some ys)(a:ds[i]?=some d0)(h:tr (ds.set i .u) (λxs _ ds1=>orF (g ys xs) λz=>Q z.2 (Bn (ds1.set i d0) i p (.l false z.1))) xe):G8 g pf tr ds Q xe:=by unfold G8;rw[h1];show orF ((Bb ds i p).bind D.own) _;rw[h2];rw[a];exact h
theorem qbg0{f:Int->Int->Int}{a:FV}{x y:Int}(hi:ds[i]?=some (.l false ys))(b:fb ds=some (.int k))(c:0<=k)(d:ys[k.toNat]?=some (.int x))(g:a ds=some (.int y))(q:e.nx (ds.set i (.l false (ys.set k.toNat (.int (f x y)))))):sAugV f (λ_=>some (i,[])) fb a e ds:=by refine qa1 rfl ?_;refine qa1 (by show (Bb ds i []).bind D.own=_;rw[qK8 hi];rfl) ?_;refine qa1 (by rw[b];rfl) ⟨c,?_⟩;refine qa1 (by rw[d];rfl) ?_;refine qa1 (by rw[g];rfl) ?_;rw[qI5 hi];exact q
theorem Ha(b:Bool)(h:fa ds=some (.bl b))(h1:b=true->tb ds Q xe)(h2:b=false->Q (.bl false) ds):Kh (Bq fa) tb ds Q xe:=qn5 (xe:=xe) (Q:=λx ds=>orF x.asB λk=>if k=true then tb ds Q xe else Q (.bl false) ds) h (ite_b h1 h2)
theorem qk4{K:Ds->Prop}(h:K (ds.set i d)):gNm i d ds K:=h
theorem qb6(h:K [] [] ds):A6 ds K xe:=h
theorem qi6(h:te ds (λ_ a=>e.nx a) e.xe):sExpr te e ds:=h
theorem qD5{K:Ds->Prop}(h:K ((ds.set i x).set j y)):gTupV 2 (qaJ8 (gNm i) (qaJ8 (gNm j) gNilV)) (.q [x,y]) ds K:=⟨rfl,h⟩
theorem Mt{Q:Bool->Ds->Prop}(h:Q true ds):qYes ds Q xe:=h
theorem qY2:Q3 S++[.int k]=Q3 (S++[k]):=by unfold Q3;rw[zBo];rfl
theorem qaM5(h:tr ds (λxs _ ds1=>xs.length<=big/\a ds1 (λys c b=>K (.q xs::ys) (.no::c) b) xe) xe):tbV (Kk tr) a ds K xe:=h
theorem qd2(h:ta ds (λx ds1=>tr ds1 (λxs ps a=>K (x::xs) (.no::ps) a) xe) xe):tbV ta tr ds K xe:=h
theorem qaM6(a:fa ds=some x)(b:fb ds=some y)(c:x.imm=true)(d:y.imm=true):A7 gTup (A5 fa (A5 fb λ_=>some [])) ds=some (.q [x,y]):=by unfold A7 A5;rw[a,b];refine qk5 ⟨?_,by show 2<=1000000;decide⟩;show (x.imm&&(y.imm&&true))=true;rw[c,d];rfl
theorem qL2:Bz ys none (some (r:Int))=ys.take r:=by unfold Bz;have a:HT.sIx ys.length ys.length (some ((r:Nat):Int))=min r ys.length:=HT.qai2 _ _ r;rw[a,HT.qT7,Oq,Nat.sub_zero];by_cases h:r<=ys.length;{rw[zCm h]};rw[Nat.min_eq_right ⋯,Oe,zAr ⋯]
theorem qbe6(h:y∈enD ys):∃i v,y=.q [.int (i:Nat),v]/\ys[i]?=some v:=by obtain⟨⟨v,i⟩,a,rfl⟩:=zB8.mp h;exact⟨i,v,rfl,List.mem_zipIdx_iff_getElem?.mp a⟩
theorem Mu{g:Nat->Option Int}(h:d∈Q4 N g):d=.non∨∃k,d=.int k:=by unfold Q4 at h;obtain⟨i,_,rfl⟩:=zB8.mp h;cases g i with|none=>exact .inl rfl|some k=>exact .inr ⟨k,rfl⟩
theorem qq8{Q:Bool->Ds->Prop}(h:ta ds (λx ds1=>orF ((fb ds1).bind (g x)) λd=>orF d.asB λb=>Q b ds1) xe):ttE (t2v g ta fb) ds Q xe:=h
theorem qg3(h:tr ds (λxs ps ds1=>s (xs++[]) (λd ys=>orF (Aq ps ys ds1) λa=>Q d a) (λx ys=>orF (Aq ps ys ds1) λa=>xe x a)) xe):qk9 s [] tr ds Q xe:=h
theorem Mv:∀(l:Ds),(∀d∈l,d=.non∨∃k,d=.int k)->Fv (eqN 20) l l=some true
 |[],_=>rfl|d::l,h=>by
  have c:eqN 20 d d=some true:=by rcases h d zA7 with rfl|⟨k,rfl⟩;{rfl};show some (k==k)=_;rw[zB1]
  show ((eqN 20 d d).bind λa=>(Fv (eqN 20) l l).bind λb=>some (a&&b))=_;rw[c,Mv l λx e=>h x (zA6 _ e)];rfl
theorem qaJ7{z:Bool}{g:Nat->Option Int}(h:∀i,i<N->g i=g' i):gEq (.l z (Q4 N g)) (.l z' (Q4 N g'))=some (.bl true):=by rw[ql7 h];show (Fv (eqN 20) (Q4 N g') (Q4 N g')).map D.bl=_;rw[Mv _ λ_=>Mu];rfl
theorem qy0(b:fa ds=some x)(h:tb ds (λy a=>orF (g x y) λd=>Q d a) xe):t2 g (Bq fa) tb ds Q xe:=qn5 b h
theorem qu5(h:ta ds (λx ds1=>orF ((fb ds1).bind (g x)) λd=>Q d ds1) xe):t2v g ta fb ds Q xe:=h
theorem qay1(h:ta ds (λx ds1=>orF (fb ds1) λy=>y.imm=true/\orF (g x y) λd=>Q d ds1) xe):L9 g ta fb ds Q xe:=h
theorem qr7(h:tr ds (λxs _ ds1=>xs.length<=big/\Q (.l false xs) ds1) xe):tLstV tr ds Q xe:=h
theorem qe0(h:te ds (λd a=>e.nx (a.set i d)) e.xe):G1 te (gNm i) e ds:=h
theorem qaL8(h:ta ds (λx ds1=>orF x.asB λk=>if k=true then tb ds1 Q xe else Q (.bl false) ds1) xe):Kh ta tb ds Q xe:=h
theorem qG7(h:tr ds (λxs ps ds1=>s (.ins false C []::(xs++[])) (λd ys=>d.isN=some true/\orF ys.head? λself=>orF (Aq ps ys.tail ds1) λa=>Q self a) (λx ys=>orF (Aq ps ys.tail ds1) λa=>xe x a)) xe):qR4 C s [] tr ds Q xe:=h
theorem qaR8{z:Bool}(h:rdN i ds=some (.l z (Q3 S)):=by rfl):A7 (fx1 Ie) (A5 (rdN i) λ_=>some []) ds=some (.l false (Q3 S)):=by unfold A7 A5;rw[h];exact qk5 (qe8 S)
theorem eq_ks:∀ks c:List Int,Fv (eqN 20) (Q3 ks) (Q3 c)=some (decide (ks=c))|[],[]=>rfl|[],_::_=>rfl|_::_,[]=>rfl|k::ks,l::c=>by show ((some (k==l)).bind λa=>(Fv (eqN 20) (Q3 ks) (Q3 c)).bind λb=>some (a&&b))=_;rw[eq_ks ks c];show some ((k==l)&&decide (ks=c))=_;by_cases h:k=l;{subst h;simp};simp[h]
theorem qh8{K:Ds->List Pl->Ds->Prop}(b:f ds=some y)(h:tr ds (λxs ps a=>K (y.fz::xs) (.no::ps) a) xe):tbV (tFzV (Bq f)) tr ds K xe:=qa1 b h
theorem qaM7{K:Ds->List Pl->Ds->Prop}(b:f ds=some y)(hi:y.imm=true)(h:tr ds (λxs ps a=>K (y.fz::xs) (.no::ps) a) xe):tbV (tFzV (Fw f)) tr ds K xe:=qt8 (xe:=xe) b hi h
theorem Gn(h:te ds (λd ds1=>Q d.fz ds1) xe):tFzV te ds Q xe:=h
def okN:Nat->D->Bool|n+1,.l _ xs=>xs.all (okN n)|n+1,.q xs=>xs.all (okN n)|_,x=>x.flat.isSome
theorem qo4{f:D->D->Option Bool}:∀{xs:List D},(∀x∈xs,f x x=some true)->Fv f xs xs=some true|[],_=>rfl|x::xs,h=>by show ((f x x).bind λa=>(Fv f xs xs).bind λb=>some (a&&b))=_;rw[h x zA7,qo4 λy c=>h y (zA6 _ c)];rfl
theorem qV8(h:x.flat.isSome=true):eqZ x x=some true:=by cases x with|non=>rfl|bl b=>show some (eqV (.bl b) (.bl b))=_;rw[qD7 rfl]|int i=>show some (eqV (.int i) (.int i))=_;rw[qD7 rfl]|str i=>show some (eqV (.str i) (.str i))=_;rw[qD7 rfl]|_=>cases h
theorem qD8:∀{n:Nat}{x:D},okN n x=true->eqN n x x=some true|0,x,h=>by rw[qV9];refine qV8 ?_;cases x<;>exact h|n+1,x,h=>by cases x with|l z b=>exact qo4 λy a=>qD8 (zBe.mp h y a)|q b=>exact qo4 λy a=>qD8 (zBe.mp h y a)|_=>exact qV8 h
theorem qaJ3(h:x.flat.isSome=true):gNe x x=some (.bl false):=by
 have e:eqT x x=some true:=by cases x with|l z a=>cases h|q a=>cases h|_=>exact qV8 h
 unfold gNe;rw[e];rfl
theorem qbf4{src:List (Option Nat)}{g:VTG}{qf:VTT}(h:tr ds (λxs _ ds1=>orF (Mg xs) λj=>I8 j=true/\Ij src g qf te (Bo 0 j.toNat) ds1 Q) xe):tCR1 src (Ld tr) g qf te ds Q xe:=h
theorem qau0(h:(Q3 ks)[i]?=some y):∃z,ks[i]?=some z/\y=.int z:=by unfold Q3 at h;rw[zB9] at h;cases e:ks[i]? with|none=>rw[e] at h;cases h|some z=>rw[e] at h;exact⟨z,rfl,(P8 h).symm⟩
theorem qm7(h:ks[i]?=some k):ks.take (i+1)=ks.take i++[k]:=by rw[Oc,h];rfl
theorem qC6(b:ks.Nodup)(h:ks[i]?=some k):¬k∈ks.take i:=λz=>by
 obtain⟨j,a⟩:=List.getElem?_of_mem z;rw[List.getElem?_take] at a;split at a
 .rename_i hlt
  obtain⟨d,c⟩:=zA4.mp h;obtain⟨e,e2⟩:=zA4.mp a
  have:=(Ov b).mp (e2.trans c.symm)
  lia
 cases a
theorem _root_.Row.Kept.free{n:Nat}{wr:Bool}{hm:Int->Nat}{g:Nat->Option Int}(KP:Kept n wr hm g S)(a:(S++[k]).Sublist ks)(b:∀q,¬Crowd n wr hm ks q):∃e,Jq n wr hm g k e:=by by_cases h:∃e,Jq n wr hm g k e;{exact h};obtain⟨q,c⟩:=KP.crowd λe z=>h ⟨e,z⟩;exact absurd (c.mono a) (b q)
theorem qan6:∀ps:Pr,D.fzs (Q5 ps)=Q5 ps|[]=>rfl|p::r=>congrArg (D.q [.int p.1,.int p.2]::·) (qan6 r)
theorem qaV1:∀ps:Pr,D.fzk (kvD ps)=kvD ps|[]=>rfl|p::r=>congrArg ((Sum.inl p.1,D.int p.2)::·) (qaV1 r)
theorem qP4:(Qz z C n wr ps).fz=Qz true C n wr ps:=by show D.ins true C [("rooms",.int n),("wraps",.bl wr),("homes",.l true (D.fzs (Q5 ps))),("home_numbers",.dct true (D.fzk (kvD ps)))]=_;rw[qan6,qaV1];rfl
theorem qbf1{z:Bool}{T:List Int}{lo hi:FO}{l h:Option Int}(a:rdN i ds=some (.l z (Q3 S)))(h1:lo ds=some l)(h2:hi ds=some h)(e:Bz (Q3 S) l h=Q3 T):fsl (rdN i) lo hi ds=some (.l false (Q3 T)):=by unfold fsl;rw[a,Option.bind_some,h1,Option.bind_some,h2,Option.bind_some,if_pos (show noT (D.l z (Q3 S))=true from rfl)];show gd (D.imms (Bz (Q3 S) l h)=true) (D.l false (Bz (Q3 S) l h))=_;rw[e];exact qk5 (qe8 T)
theorem qaX1(h:A.length+B.length<=1000):Jf (.l z (Q3 A)) (.l z' (Q3 B))=some (.l false (Q3 (A++B))):=by rw[show Q3 (A++B)=Q3 A++Q3 B from zBo];exact qk5 ⟨qe8 A,qe8 B,by rw[qh3,qh3];unfold big;lia⟩
theorem Kt(h:tr ds (λxs _ ds1=>orF (gc xs) λd=>Q d ds1) xe):tcO gc (Ld tr) ds Q xe:=h
theorem qaU1{t:VT}{C:γ}{n:Int}(b:Bool)(h:∀(Q:DK)(xe:XKd),Q (.bl b) ds->t ds Q xe)(h1:b=true->u e ds)(h2:b=false->e.xe ⟨C,[(fl,.int n)]⟩ ds):Ix (sIf (Gi (ttE t)) (qX2 C fl (Bq (kC (.int n)))) Jk) u e ds:=h _ _ (by
 cases b with
 |true=>exact h1 rfl
 |false=>exact⟨rfl,h2 rfl⟩)
theorem qaU2{C:γ}{n:Int}(b:Bool)(h:f ds=some (.bl b))(h1:b=true->u e ds)(h2:b=false->e.xe ⟨C,[(fl,.int n)]⟩ ds):Ix (sIf (Gi (ttV f)) (qX2 C fl (Bq (kC (.int n)))) Jk) u e ds:=qk8 (Q:=λk a=>if k=true then qX2 C fl (Bq (kC (.int n))) {e with nx:=u e} a else u e a) (xe:=e.xe) h (by
   cases b with
   |true=>exact h1 rfl
   |false=>exact⟨rfl,h2 rfl⟩)
theorem qn9{l m n:Int}(h1:l<=n)(h2:n<=m):(D.int n).within l m=true:=by show (decide (l<=n)&&decide (n<=m))=true;rw[zAi h1,zAi h2];rfl
theorem qM1{p:List Nat}{w:V}{ps:List Pl}(h:Bb ds i p=some (.hole w)):Aq (.pl i p w::ps) (y::ys) ds=Aq ps ys (Bn ds i p y):=by show (match Bb ds i p with|some (.hole a)=>if a=w then Aq ps ys (Bn ds i p y) else none|_=>none)=_;rw[h];exact if_pos rfl
theorem qm5{C:γ}(a:rdN i ds=some p)(hm:p.isM C m=true)(r:R [p] d)(b:Aq [.sl i] [p] (ds.set i .u)=some ds)(q:Q d ds):qE2 C m (A4 R) [] i A6 ds Q xe:=qt3 a hm (qb6 (qa1 a (qm0 r (qa1 b q))))
theorem Mw(h:tr ds (λxs _ ds1=>xs.length<=big/\Q (.q xs) ds1) xe):Kk tr ds Q xe:=h
theorem Mx(h:ta ds (λx ds1=>tb ds1 (λy a=>orF (g x y) λd=>Q d a) xe) xe):t2 g ta tb ds Q xe:=h
theorem qaY1(h:rdN i ds=some d)(q:Q d.fz (ds.set i d.fz)):tFz i ds Q xe:=qa1 h q
def Ae(n:Int)(wr:Bool)(ps:Pr):D:=.q [.int n,.bl wr,.l true (Q5 ps)]
theorem qaC3(hi:ds[i]?=some (.l false ys))(a:f ds=some d)(b:d.imm=true)(c:ys.length<big)(q:Q .non (ds.set i (.l false (ys++[d])))):G7 gApp i (tbV (Fw f) A6) ds Q xe:=by
 have e:(rdN i ds).bind D.own=some ys:=by rw[qe7 hi rfl];rfl
 refine⟨by rw[e];rfl,qe1 a b ?_⟩;exact qa1 e (qa1 (if_pos c) q)
local macro_rules | `(tactic| walk_at "s")=>`(tactic| exact⟨rfl,rfl,rfl,by decide +kernel,rfl,by decide +kernel,by decide +kernel⟩)
local macro_rules | `(tactic| walk_at "m")=>`(tactic| (intro _ _ _ _ _ k l;repeat' first|exact id|exact k _ _|exact l _ _|refine Exists.imp λ_=>?_|refine And.imp ?_ ?_|refine Qy ?_ ?_|refine forall_imp λ_=>?_))
local macro_rules | `(tactic| walk_at "l")=>`(tactic| (intro _ _ _ h;(repeat (first|refine Exists.elim h λ_ h=>?_|refine And.elim (λh _=>?_) h));rw[h];exact⟨rfl,rfl⟩))
theorem lt2:2<=big:=by show 2<=1000000;decide
theorem lt3:3<=big:=by show 3<=1000000;decide
theorem lt4:4<=big:=by show 4<=1000000;decide
noncomputable def top(i:Nat):Nv:=PySem.Challenge.pw_homeward_k64_sized.main.body.getD i (.Pass ⟨0,0,0,0⟩)
abbrev qq6:Nv:=qg1 (top 3) 0
abbrev qn2:Nv:=qg1 (top 4) 0
abbrev qA7:Nv:=top 17
abbrev qh4:Nv:=top 18
abbrev qv8:Nv:=top 19
abbrev qq5:Nv:=top 20
abbrev qi3:Nv:=top 21
abbrev ql2:Nv:=top 22
abbrev qw3:Nv:=qg1 (top 23) 0
abbrev qh5:Nv:=qg1 (top 23) 1
abbrev ql4:Nv:=qg1 (top 23) 2
abbrev qw4:Nv:=qg1 (top 23) 4
abbrev qB4:Nv:=qg1 (top 23) 5
abbrev qh6:Nv:=qg1 (top 23) 6
abbrev qq4:Nv:=top 25
abbrev qf2:Nv:=top 26
abbrev qA6:Nv:=top 27
abbrev qv7:Nv:=top 28
abbrev qA8:Nv:=top 29
abbrev qw1:Nv:=top 31
abbrev ql3:Nv:=top 32
abbrev ql1:Nv:=top 33
abbrev qA9:Nv:=top 34
abbrev qv9:Nv:=top 35
abbrev qn0:Nv:=top 37
abbrev qj4:Nv:=top 38
abbrev qw0:Nv:=top 39
abbrev qB3:Nv:=qg1 (top 40) 0
abbrev qi4:Nv:=qg1 (top 40) 1
abbrev qj5:Nv:=qg1 (top 40) 2
abbrev qB2:Nv:=qg1 (top 40) 3
abbrev qn1:Nv:=qg1 (top 40) 4
abbrev qJ1:Nv:=qg1 (top 40) 5
abbrev qB1:Nv:=qg1 (top 40) 6
abbrev qB0:Nv:=qg1 (top 40) 7
abbrev qw2:Nv:=qg1 (top 40) 8
abbrev qm9:Nv:=top 41
abbrev qv6:Nv:=top 44
abbrev ql6:Nv:=qg1 (top 45) 0
abbrev qT3:Nv:=top 47
abbrev qaE2:Nv:=top 48
abbrev qah9:Nv:=top 49
abbrev qai1:Nv:=top 50
abbrev qB6:Nv:=top 51
abbrev qJ3:Nv:=top 52
abbrev ql5:Nv:=top 53
abbrev qT5:Nv:=top 54
abbrev qB7:Nv:=top 55
abbrev qai0:Nv:=top 56
abbrev qT6:Nv:=top 57
abbrev qah8:Nv:=top 58
abbrev qJ2:Nv:=top 59
abbrev qT4:Nv:=top 60
abbrev qB5:Nv:=top 61
abbrev Jm:Nv:=top 62
set_option genInjectivity false in
set_option genSizeOf false in
structure Adr where
 f0:γ
 d0:ε
 f1:γ
 d1:ε
 f2:γ
 d2:ε
 f3:γ
 d3:ε
 f4:γ
 d4:ε
 f5:γ
 d5:ε
 f6:γ
 d6:ε
 f7:γ
 d7:ε
 f8:γ
 d8:ε
 f9:γ
 d9:ε
 f10:γ
 d10:ε
 f11:γ
 d11:ε
 f12:γ
 d12:ε
 f13:γ
 d13:ε
 f14:γ
 d14:ε
 f15:γ
 d15:ε
 f16:γ
 d16:ε
 f17:γ
 d17:ε
 f18:γ
 d18:ε
 f19:γ
 d19:ε
 f20:γ
 d20:ε
 f21:γ
 d21:ε
 f22:γ
 d22:ε
 f23:γ
 d23:ε
 f24:γ
 d24:ε
 f25:γ
 d25:ε
 f26:γ
 d26:ε
 f27:γ
 d27:ε
 f28:γ
 d28:ε
 f29:γ
 d29:ε
 f30:γ
 d30:ε
 f31:γ
 d31:ε
 f32:γ
 d32:ε
 f33:γ
 d33:ε
 f34:γ
 d34:ε
 f35:γ
 d35:ε
 f36:γ
 d36:ε
 f37:γ
 d37:ε
 f38:γ
 d38:ε
 f39:γ
 d39:ε
 f40:γ
 d40:ε
 f41:γ
 d41:ε
 f42:γ
 d42:ε
 f43:γ
 d43:ε
 f44:γ
 d44:ε
 f45:γ
 d45:ε
 f46:γ
 d46:ε
 f47:γ
 d47:ε
 f48:γ
 d48:ε
 f49:γ
 d49:ε
 f50:γ
 d50:ε
 f51:γ
 d51:ε
 f52:γ
 d52:ε
 f53:γ
 d53:ε
 f54:γ
 d54:ε
 Cu:Tok
 Cv:Tok
 Cw:Tok
 Ct:Tok
 Ca:γ
 Cb:γ
 Ci:γ
 D0:γ
 Ch:γ
 Cf:γ
 Dm:γ
 Cy:γ
 Da:γ
 D9:γ
 D8:γ
 Dl:γ
 D7:γ
 D2:γ
structure Txt(K:P')(mg:Str->Option V')(a:Adr):Prop where
 d0:Md K a.Ch "__init__" "Wrong.__init__" qq6 a.f0 a.d0 ["self", "at"]
 d1:Md K a.Cf "__init__" "NoRoom.__init__" qn2 a.f1 a.d1 ["self", "room"]
 d2:Df K mg "is_whole" "is_whole" qA7 a.f2 a.d2 ["thing"]
 d3:Df K mg "is_whole_within" "is_whole_within" qh4 a.f3 a.d3 ["thing", "least", "most"]
 d4:Df K mg "is_number" "is_number" qv8 a.f4 a.d4 ["thing"]
 d5:Df K mg "are_parted" "are_parted" qq5 a.f5 a.d5 ["numbers"]
 d6:Df K mg "is_number_pair" "is_number_pair" qi3 a.f6 a.d6 ["thing"]
 d7:Df K mg "is_home_list" "is_home_list" ql2 a.f7 a.d7 ["thing"]
 d8:Md K a.Ca "__init__" "Plan.__init__" qw3 a.f8 a.d8 ["self", "rooms", "wraps", "homes"]
 d9:Md K a.Ca "homes_told" "Plan.homes_told" qh5 a.f9 a.d9 ["self"]
 d10:Md K a.Ca "is_room" "Plan.is_room" ql4 a.f10 a.d10 ["self", "thing"]
 d11:Md K a.Ca "home" "Plan.home" qw4 a.f11 a.d11 ["self", "key"]
 d12:Md K a.Ca "far" "Plan.far" qB4 a.f12 a.d12 ["self", "key", "room"]
 d13:Md K a.Ca "goes_ahead" "Plan.goes_ahead" qh6 a.f13 a.d13 ["self", "room", "one", "other"]
 d14:Df K mg "room_ahead" "room_ahead" qq4 a.f14 a.d14 ["plan", "room"]
 d15:Df K mg "word_by_room_ahead" "word_by_room_ahead" qf2 a.f15 a.d15 ["plan", "rooms", "room"]
 d16:Df K mg "word_due" "word_due" qA6 a.f16 a.d16 ["plan", "rooms", "room"]
 d17:Df K mg "is_turned" "is_turned" qv7 a.f17 a.d17 ["plan", "rooms"]
 d18:Df K mg "fault_of" "fault_of" qA8 a.f18 a.d18 ["plan", "rooms"]
 d19:Df K mg "are_crowd" "are_crowd" qw1 a.f19 a.d19 ["plan", "keys", "room"]
 d20:Df K mg "crowded_room" "crowded_room" ql3 a.f20 a.d20 ["plan", "keys"]
 d21:Df K mg "refuse_crowd" "refuse_crowd" ql1 a.f21 a.d21 ["plan", "keys"]
 d22:Df K mg "bring_in" "bring_in" qA9 a.f22 a.d22 ["plan", "rooms", "key"]
 d23:Df K mg "house_all" "house_all" qv9 a.f23 a.d23 ["plan", "keys"]
 d24:Df K mg "room_behind" "room_behind" qn0 a.f24 a.d24 ["plan", "room"]
 d25:Df K mg "is_drawn_from" "is_drawn_from" qj4 a.f25 a.d25 ["plan", "rooms", "room"]
 d26:Df K mg "draw_back" "draw_back" qw0 a.f26 a.d26 ["plan", "rooms", "room"]
 d27:MdN K a.Cb "__init__" "Row.__init__" qB3 a.f27 a.d27 ["self", "plan", "rooms"]
 d28:Md K a.Cb "rooms_held" "Row.rooms_held" qi4 a.f28 a.d28 ["self"]
 d29:Md K a.Cb "keys_held" "Row.keys_held" qj5 a.f29 a.d29 ["self"]
 d30:Md K a.Cb "many" "Row.many" qB2 a.f30 a.d30 ["self"]
 d31:Md K a.Cb "room_of" "Row.room_of" qn1 a.f31 a.d31 ["self", "key"]
 d32:Md K a.Cb "put" "Row.put" qJ1 a.f32 a.d32 ["self", "key"]
 d33:Md K a.Cb "take" "Row.take" qB1 a.f33 a.d33 ["self", "key"]
 d34:Md K a.Cb "undo" "Row.undo" qB0 a.f34 a.d34 ["self"]
 d35:Md K a.Cb "deeds" "Row.deeds" qw2 a.f35 a.d35 ["self"]
 d36:Df K mg "row_of_keys" "row_of_keys" qm9 a.f36 a.d36 ["plan", "keys"]
 d37:Df K mg "row_sized" "row_sized" qv6 a.f37 a.d37 ["row", "rooms"]
 d38:Md K a.Ci "__init__" "Growing.__init__" ql6 a.f38 a.d38 ["self", "homes"]
 d39:Df K mg "_law_whole" "_law_whole" qT3 a.f39 a.d39 ["_law_found"]
 d40:Df K mg "_law_bag" "_law_bag" qaE2 a.f40 a.d40 ["_law_script"]
 d41:Df K mg "_law_take" "_law_take" qah9 a.f41 a.d41 ["_law_bag_here", "_law_many"]
 d42:Df K mg "_law_home" "_law_home" qai1 a.f42 a.d42 ["_law_plan", "_law_key"]
 d43:Df K mg "_law_passing" "_law_passing" qB6 a.f43 a.d43 ["_law_plan", "_law_keys"]
 d44:Df K mg "_law_housed" "_law_housed" qJ3 a.f44 a.d44 ["_law_plan", "_law_keys"]
 d45:Df K mg "_law_drawn_homes" "_law_drawn_homes" ql5 a.f45 a.d45 ["_law_bag_here", "_law_size", "_law_many"]
 d46:Df K mg "_law_drawn" "_law_drawn" qT5 a.f46 a.d46 ["_law_bag_here", "_law_most"]
 d47:Df K mg "_law_fitting" "_law_fitting" qB7 a.f47 a.d47 ["_law_plan", "_law_keys"]
 d48:Df K mg "_law_sort" "_law_sort" qai0 a.f48 a.d48 ["_law_e"]
 d49:Df K mg "_law_crowd" "_law_crowd" qT6 a.f49 a.d49 ["_law_plan", "_law_keys", "_law_room"]
 d50:Df K mg "_law_told" "_law_told" qah8 a.f50 a.d50 ["_law_row", "_law_size"]
 d51:Df K mg "_law_is_row" "_law_is_row" qJ2 a.f51 a.d51 ["_law_row", "_law_plan", "_law_due"]
 d52:Df K mg "_law_right" "_law_right" qT4 a.f52 a.d52 ["_law_row", "_law_plan", "_law_keys", "_law_size"]
 d53:Df K mg "_law_refused" "_law_refused" qB5 a.f53 a.d53 ["_law_bag_here", "_law_row"]
 d54:Df K mg "law" "law" Jm a.f54 a.d54 ["_law_script"]
 Db:mg "MOST_NUMBER"=some (.int 1000000000000000000 a.Cu)
 Dh:mg "MOST_ROOMS"=some (.int 64 a.Cv)
 Ei:mg "MOST_HOMES"=some (.int 64 a.Cw)
 Ed:mg "LEAST_ROOMS"=some (.int 4 a.Ct)
 Eg:mg "ValueError"=none
 Fk:mg "abs"=none
 Fj:mg "all"=none
 Ej:mg "bool"=none
 Fb:mg "dict"=none
 Em:mg "enumerate"=none
 Ew:mg "int"=none
 Cd:mg "isinstance"=none
 Cz:mg "len"=none
 D1:mg "list"=none
 Fc:mg "max"=none
 Et:mg "min"=none
 D3:mg "range"=none
 Fl:mg "set"=none
 Fd:mg "sorted"=none
 Fg:mg "tuple"=none
 Ce:Cl K mg "Plan" a.Ca
 Ek:Mk K a.Ca a.f8
 Cg:qd1 K a.Ca "rooms"
 Cq:qd1 K a.Ca "wraps"
 Di:qd1 K a.Ca "homes"
 Cr:qd1 K a.Ca "home_numbers"
 Ev:IsO K a.Ca
 Cc:Cl K mg "Row" a.Cb
 En:Mk K a.Cb a.f27
 Cj:qd1 K a.Cb "plan"
 Ck:qd1 K a.Cb "held"
 Cs:qd1 K a.Cb "done"
 Ff:IsO K a.Cb
 D4:Cl K mg "Growing" a.Ci
 Eo:Mk K a.Ci a.f38
 Ee:qd1 K a.Ci "row"
 D5:qd1 K a.Ci "housed_anew"
 Er:IsO K a.Ci
 D6:Qa K (.ref a.Ci) (.ref a.Cb)=some false
 Du:Qa K (.ref a.Ca) (.ref a.Cb)=some false
 El:mg "HomeError"=some (.ref a.D0)
 Eh:Exc K a.D0
 Cp:mg "Wrong"=some (.ref a.Ch)
 E9:Exc K a.Ch
 F9:Qa K (.ref a.Ch) (.type "ValueError")=some true
 Co:MkE K a.Ch a.f0
 Eb:qd1 K a.Ch "at"
 F6:IsX K a.Ch
 E3:Qa K (.ref a.Ch) (.ref a.Cf)=some false
 E7:Qa K (.ref a.Ch) (.ref a.Dm)=some false
 Dg:Qa K (.ref a.Ch) (.ref a.Cy)=some false
 E6:Qa K (.ref a.Ch) (.ref a.Da)=some false
 Dw:Qa K (.ref a.Ch) (.ref a.D9)=some false
 Dy:Qa K (.ref a.Ch) (.ref a.D8)=some false
 E8:Qa K (.ref a.Ch) (.ref a.Dl)=some false
 E2:Qa K (.ref a.Ch) (.ref a.D7)=some false
 Dt:Qa K (.ref a.Ch) (.ref a.D2)=some false
 Eu:W.mroIn K a.Ch (.ref a.D0)=some true
 Ef:W.mroIn K a.Ch (.ref a.Ch)=some true
 F5:W.mroIn K a.Ch (.ref a.Cf)=some false
 Ea:mg "NoRoom"=some (.ref a.Cf)
 Dp:Exc K a.Cf
 Ey:Qa K (.ref a.Cf) (.type "ValueError")=some true
 Ex:MkE K a.Cf a.f1
 Dc:qd1 K a.Cf "room"
 F4:IsX K a.Cf
 E5:Qa K (.ref a.Cf) (.ref a.Ch)=some false
 E4:Qa K (.ref a.Cf) (.ref a.Dm)=some false
 De:Qa K (.ref a.Cf) (.ref a.Cy)=some false
 Dq:Qa K (.ref a.Cf) (.ref a.Da)=some false
 Dr:Qa K (.ref a.Cf) (.ref a.D9)=some false
 Do:Qa K (.ref a.Cf) (.ref a.D8)=some false
 Dx:Qa K (.ref a.Cf) (.ref a.Dl)=some false
 Dn:Qa K (.ref a.Cf) (.ref a.D7)=some false
 Dk:Qa K (.ref a.Cf) (.ref a.D2)=some false
 Ep:W.mroIn K a.Cf (.ref a.D0)=some true
 Ec:W.mroIn K a.Cf (.ref a.Ch)=some false
 Dv:W.mroIn K a.Cf (.ref a.Cf)=some true
 Fi:mg "There"=some (.ref a.Dm)
 Es:mg "NotThere"=some (.ref a.Cy)
 Fe:mg "Unkept"=some (.ref a.Da)
 Fa:mg "Unlike"=some (.ref a.D9)
 F8:mg "NoText"=some (.ref a.D8)
 Fh:mg "NoRow"=some (.ref a.Dl)
 F7:mg "NoPlan"=some (.ref a.D7)
 Ez:mg "TooMany"=some (.ref a.D2)
section
variable{P:Nq}{w:Nt}{K:P'}{mg:Str->Option V'}{base:Heap}{a:Adr}
theorem qN2:qa9 ["self", "at"] ["self", "at"] (qa4 qq6):=by walk_at "s"
theorem qb2(T:Txt K mg a):Fx P w K mg base CX0 1 a.f0 a.d0 ["self", "at"] (spX1 a.Ch "at"):=by refine T.d0.F.ok qN2 (λb H Q E h=>?_) (λc A outer s H b Q E j h=>?_);{obtain⟨e,v,rfl,_⟩:=h;rfl};obtain⟨e,v,rfl,d,k⟩:=h;exact⟨_,(qt0 (qaz3 (pv 0) (pv 1))),_,rfl,_,rfl,e,a.Ch,rfl,T.E9,T.Eb,.inl ⟨d,λf g i=>k f g i⟩⟩
theorem qG2:qa9 ["thing"] ["thing"] (qa4 qA7):=by walk_at "s"
def qab6:VSp:=Fs (fx1 λx=>x.kind.map λ_=>.bl x.whole)
theorem qad4(T:Txt K mg a):VFn P w K mg base 1 a.f2 a.d2 ["thing"] qab6:=by refine VFn.mk' T.d2.F qG2 (wOf [true]) qz0 (λ_ _ _=>qal8) (λ_ _ _=>imm1) (λ_ _ _ _ _ _ _ c=>⟨_,(Ag (An (qa3 (Me (vbi qi8 qL3.ops T.Cd (qa2 (vnm 0) (qa2 (vty "int" T.Ew) qa6 rfl) rfl)) (K7 (vnot (vbi qi8 qL3.ops T.Cd (qa2 (vnm 0) (qa2 (vty "bool" T.Ej) qa6 rfl) rfl)))))))),λf Q g h=>?_⟩);obtain⟨x,d,rfl,e,q⟩:=Mq h;obtain⟨t,b,rfl⟩:=zA8.mp e;cases x<;>first|exact q|cases b
theorem qk0:qa9 ["thing", "least", "most"] ["thing", "least", "most"] (qa4 qh4):=by walk_at "s"
def qu7:VSp:=Fs (fx3 λx l m=>x.kind.bind λ_=>l.asI.bind λi=>m.asI.map λj=>.bl (x.within i j))
theorem qe4(T:Txt K mg a):VFn P w K mg base 2 a.f3 a.d3 ["thing", "least", "most"] qu7:=by
 refine VFn.mk' T.d3.F qk0 (wOf [true,true,true]) qz0 (λ_ _ _=>qaS5) (λ_ _ _=>imm3) (λ_ _ _ _ _ _ _ b=>⟨_,(Ag (An (Hf (Af T.d2 (qad4 T) qa0 (rm b) (vaN 0 Aa)) (Jr (qa3 (vch I9 Mb I9 Mb (vnm 1) (vnm 0) (vnm 2))))))),λo Q p h=>?_⟩);obtain⟨x,l,m,d,rfl,e,q⟩:=pure3 h;obtain⟨t,c,e⟩:=zA1.mp e;obtain⟨i,f,e⟩:=zA1.mp e;obtain⟨j,g,rfl⟩:=zA8.mp e;cases l<;>cases f;cases m<;>cases g;cases x with
 |int n=>
  refine⟨rfl,?_⟩;show orF (f3 gLe gLe (rdN 1) (rdN 0) (rdN 2) [.int n,.int i,.int j]) _;have k:f3 gLe gLe (rdN 1) (rdN 0) (rdN 2) [.int n,.int i,.int j]=some (.bl (decide (i<=n)&&decide (n<=j))):=by show (if decide (i<=n)=true then some (D.bl (decide (n<=j))) else some (.bl false))=_;cases decide (i<=n)<;>rfl
  rw[k];exact q
 |_=>first|exact⟨rfl,q⟩|cases c
theorem qN1:qa9 ["numbers"] ["numbers"] (qa4 qq5):=by walk_at "s"
def qM7:VSp:=A4 λds d=>∃z ks,ds=[.l z (Q3 ks)]/\ks.length<=1000/\d=.bl (decide ks.Nodup)
theorem qN8(T:Txt K mg a):VFn P w K mg base 1 a.f5 a.d5 ["numbers"] qM7:=by
 refine VFn.mk2 T.d5.F qN1 (wOf [true]) qb3 (by walk_at "l") (λ_ _ _ _ _ _ _ e=>⟨_,(Ag (An (qa3 (v2 (Ax (qm4 e.u64) (qa8 _)) Bk (vlenS T.Cz T.Fl (vnm 0)) (vbi qu3 qu2.ops T.Cz (qa2 (vnm 0) qa6 rfl)))))),λi Q j h=>?_⟩);obtain⟨d,⟨z,b,rfl,f,rfl⟩,q⟩:=h;have g:f1 Kq (rdN 0) [.l z (Q3 b)]=some (.int (qs1 b)):=by show ((intsD (Q3 b)).bind λc=>gd (c.length<=1000) (.int (qs1 c)))=_;rw[qam8];exact qk5 f
 have e2:f2 gEq (f1 Kq (rdN 0)) (A7 (fx1 Hx) (A5 (rdN 0) λx=>some [])) [.l z (Q3 b)]=some (.bl (decide b.Nodup)):=by show ((f1 Kq (rdN 0) [.l z (Q3 b)]).bind λx=>gEq x (.int (Q3 b).length))=_;rw[g,qh3];show some (D.bl ((qs1 b:Int)==(b.length:Int)))=_;have:=qW0 b;by_cases h:b.Nodup;{rw[zAi h,this.mpr h,zB1]};rw[zAz h,beq_false_of_ne (λz=>h (this.mp (by exact_mod_cast z)))]
 exact qa1 e2 q
theorem qA2:qa9 ["thing"] ["thing"] (qa4 qv8):=by walk_at "s"
def qq2:VSp:=Fs (fx1 λx=>x.kind.map λ_=>.bl x.num)
theorem qd3(T:Txt K mg a):VFn P w K mg base 3 a.f4 a.d4 ["thing"] qq2:=by refine VFn.mk' T.d4.F qA2 (wOf [true]) qz0 (λ_ _ _=>qal8) (λ_ _ _=>imm1) (λ_ _ _ _ _ _ _ b=>⟨_,(Ag (An (Af T.d3 (qe4 T) qa0 (rm b) (vaN 0 (vaV (qa3 Ad) (vaV (qa3 (vgi T.Db)) Aa)))))),λf Q g h=>?_⟩);obtain⟨x,d,rfl,e,q⟩:=Mq h;obtain⟨t,c,rfl⟩:=zA8.mp e;cases x<;>first|exact⟨rfl,q⟩|cases c
theorem qy3:qa9 ["thing"] ["thing"] (qa4 qi3):=by walk_at "s"
def _root_.LV.D.pairB:D->Bool|.q [x,y]=>x.num&&y.num|_=>false
def _root_.LV.D.kinded:D->Bool|.q ds=>(ds.all λd=>d.kind.isSome&&d.imm)&&decide (ds.length<=1000)|_=>true
def qy1:VSp:=Fs (fx1 λx=>if x.kinded=true then x.kind.map λ_=>.bl x.pairB else none)
theorem qy5(T:Txt K mg a):VFn P w K mg base 4 a.f6 a.d6 ["thing"] qy1:=by
 refine VFn.mk' T.d6.F qy3 (wOf [true]) qz0 (λ_ _ _=>qal8) (λ_ _ _=>imm1) (λ_ _ _ _ _ _ _ f=>⟨_,(Ag (An (Hf (qa3 (vbi qi8 qL3.ops T.Cd (qa2 (vnm 0) (qa2 (vty "tuple" T.Fg) qa6 rfl) rfl))) (Hf (qa3 (v2 (Ax (qm4 f.u64) (qa8 _)) Bk (vbi qu3 qu2.ops T.Cz (qa2 (vnm 0) qa6 rfl)) Ad)) (Hf (Af T.d4 (qd3 T) qa0 (rm f) (vaV (qb9 (v2 (Av qb4) Al (vnm 0) Ad)) Aa)) (Jr (Af T.d4 (qd3 T) qa0 (rm f) (vaV (qb9 (v2 (Av qb4) Al (vnm 0) Ad)) Aa)))))))),λb Q m h=>?_⟩);obtain⟨x,d,rfl,e,q⟩:=Mq h;cases x with
 |q b=>
  by_cases c:(D.q b).kinded=true
  .rw[if_pos c] at e;cases e;have c:=zAp.mp c;have i:=zBe.mp c.1;match b with
   |[]=>exact q|[_]=>exact q|[x,y]=>
    have j:=zAp.mp (i x (by simp));have l:=zAp.mp (i y (by simp));obtain⟨t,n⟩:=zB0.mp j.1;obtain⟨u,o⟩:=zB0.mp l.1;refine⟨j.2,?_⟩;refine qa1 (a:=D.bl x.num) (by show (x.kind.map _)=_;rw[n];rfl) ?_;refine ite_b (λg=>⟨l.2,qa1 (a:=D.bl y.num) (by show (y.kind.map _)=_;rw[o];rfl) ?_⟩) λg=>?_
    .have:(D.q [x,y]).pairB=y.num:=by show (x.num&&y.num)=_;rw[g];rfl
     rw[this] at q;exact q
    have:(D.q [x,y]).pairB=false:=by show (x.num&&y.num)=_;rw[g];rfl
    rw[this] at q;exact q
   |x::y::z::r=>
    have e2:f2 gEq (A7 (fx1 Hx) (A5 (rdN 0) λx=>some [])) (kC (D.int 2)) [.q (x::y::z::r)]=some (.bl false):=by
     show some (D.bl (((x::y::z::r).length:Int)==2))=_;have:(((x::y::z::r).length:Int)==2)=false:=by
      have:((x::y::z::r).length:Int)≠2:=by simp;lia
      simpa using this
     rw[this]
    have:orF (f2 gEq (A7 (fx1 Hx) (A5 (rdN 0) λx=>some [])) (kC (D.int 2)) [.q (x::y::z::r)]) (λd=>orF d.asB λk=>if k=true then Kh (qk9 qq2 [] (tbV (Fw (f2 gIx (rdN 0) (kC (D.int 0)))) A6)) (qk9 qq2 [] (tbV (Fw (f2 gIx (rdN 0) (kC (D.int 1)))) A6)) [.q (x::y::z::r)] (λd b=>Q d (fin (wOf [true]) 0 [.q (x::y::z::r)] b)) (λp b=>m p (fin (wOf [true]) 0 [.q (x::y::z::r)] b)) else Q (.bl false) [.q (x::y::z::r)]):=by rw[e2];exact q
    exact this
  rw[if_neg c] at e;cases e
 |_=>first|(cases e;exact q)|cases e
theorem qE9:qa9 ["thing"] ["thing"] (qa4 ql2):=by walk_at "s"
noncomputable def Jw:D->Option Int|.q (.int k::_)=>some k|_=>none
def _root_.LV.D.homesB:D->Bool|.l _ ys=>decide (ys.length<=64)&&(ys.all D.pairB&&decide (ys.filterMap Jw).Nodup)|_=>false
def _root_.LV.D.lstOk(p:D->Bool):D->Bool|.l _ ys=>D.imms ys&&ys.all p&&decide (ys.length<=1000)|x=>x.kind.isSome
def Mz(y:D):Bool:=y.kind.isSome&&y.kinded
theorem qaR2(h:x.num=true):∃n,x=.int n/\Am n:=by cases x with|int n=>have:=zAp.mp h;exact⟨n,rfl,zAh this.1,zAh this.2⟩|_=>cases h
theorem qK0(h:Am n):(D.int n).num=true:=by show (decide (0<=n)&&decide (n<=1000000000000000000))=true;rw[zAi h.1,zAi h.2];rfl
theorem qaQ1(h:y.pairB=true):∃k m,y=.q [.int k,.int m]/\Am k/\Am m:=by cases y with|q a=>(match a,h with|[x,y],h=>have h:=zAp.mp h;obtain⟨k,rfl,b⟩:=qaR2 h.1;obtain⟨m,rfl,c⟩:=qaR2 h.2;exact⟨k,m,rfl,b,c⟩)|_=>cases h
theorem qai7:∀{ys:Ds},ys.all D.pairB=true->∃ps:Pr,ys=Q5 ps/\∀p∈ps,Am p.1/\Am p.2|[],_=>⟨[],rfl,λp h=>by simp at h⟩|y::r,h=>by rw[Of,zBb] at h;obtain⟨k,m,rfl,b,c⟩:=qaQ1 h.1;obtain⟨ps,rfl,d⟩:=qai7 h.2;refine⟨(k,m)::ps,rfl,λp a=>?_⟩;rcases zAj.mp a with rfl|a;{exact⟨b,c⟩};exact d p a
theorem qam4:∀ps:Pr,(Q5 ps).filterMap Jw=ps.map (·.1)|[]=>rfl|p::r=>by show p.1::(Q5 r).filterMap Jw=_;rw[qam4 r];rfl
theorem qaW8:∀{ps:Pr},(∀p∈ps,Am p.1/\Am p.2)->(Q5 ps).all D.pairB=true|[],_=>rfl|p::r,h=>by show (((D.int p.1).num&&(D.int p.2).num)&&(Q5 r).all D.pairB)=true;rw[qK0 (h p zA7).1,qK0 (h p zA7).2,qaW8 λq a=>h q (zA6 _ a)];rfl
theorem qaW9:∀ps:Pr,(Q5 ps).all Mz=true|[]=>rfl|p::r=>by show (true&&(Q5 r).all Mz)=true;rw[qaW9 r];rfl
theorem qt9(h:qG0 ps):(D.l z (Q5 ps)).homesB=true/\(D.l z (Q5 ps)).lstOk Mz=true:=by
 have a:(Q5 ps).length<=64:=by simpa[Q5] using h.len
 constructor;{show (decide ((Q5 ps).length<=64)&&((Q5 ps).all D.pairB&&decide ((Q5 ps).filterMap Jw).Nodup))=true;rw[zAi a,qaW8 h.nums,qam4,zAi h.nd];rfl};show (D.imms (Q5 ps)&&(Q5 ps).all Mz&&decide ((Q5 ps).length<=1000))=true;rw[qO7,qaW9,zAi ⋯];rfl
theorem qaa8{α:Type}(f:α->Bool):∀l:List α,bools (l.map λa=>.bl (f a))=some (l.map f)|[]=>rfl|a::r=>by show (bools (r.map λa=>D.bl (f a))).map (λb=>f a::b)=_;rw[qaa8 f r];rfl
theorem qaX0(f:α->Bool)(l:List α):gAll (.l false (l.map λa=>.bl (f a)))=some (.bl (l.all f)):=by show (bools (l.map λa=>D.bl (f a))).map (λb=>D.bl (b.all id))=_;rw[qaa8];show some (D.bl ((l.map f).all id))=_;rw[Pt];rfl
def qE4:VSp:=A4 λds d=>∃x,ds=[x]/\x.lstOk Mz=true/\d=.bl x.homesB
theorem qp7(T:Txt K mg a):VFn P w K mg base 5 a.f7 a.d7 ["thing"] qE4:=by
 refine VFn.mk2 T.d7.F qE9 (wOf [true]) qb3 (by walk_at "l") (λ_ _ _ _ _ _ _ A=>⟨_,(Ac (sif (tor (Bi (tv (vbi qi8 qL3.ops T.Cd (qa2 (vnm 0) (qa2 (vty "list" T.D1) qa6 rfl) rfl)))) (Iv (q2 (Ap B8 (qa8 _)) Fp (vbi qu3 qu2.ops T.Cz (qa2 (vnm 0) qa6 rfl)) (vgi T.Ei)))).te (Ag (An (qa3 vbl))) Aw) (Ag (An (Hf (ebi (qaa7 rfl) qaW3.ops T.Fj (Gv (vaV (ecN (NY:=["pair"]) (src:=[none]) 0 (blk (λf C g H0 i=>(Bc 0 (show (["pair"]:List Str).Nodup by decide +kernel))) (λf C g H0 i=>Hq) (λf C g H0 i=>(Af T.d6 (qy5 T) qn7 (rm A) (vaN 0 Aa))))) Aa))) (Jr (Af T.d5 (qN8 T) qa0 (rm A) (vaV (ecN (NY:=["pair"]) (src:=[none]) 0 (blk (λf C g H0 i=>(Bc 0 (show (["pair"]:List Str).Nodup by decide +kernel))) (λf C g H0 i=>Hq) (λf C g H0 i=>(qb9 (v2 (Av qb4) Al (vnm 0) Ad))))) Aa))))))),λJ Q L h=>?_⟩);obtain⟨d,⟨x,rfl,j,rfl⟩,q⟩:=h;cases x with
 |l z b=>
  have j:=zAp.mp j;have k:=zAp.mp j.1;have B:=zAh j.2;refine ite_b (p:=decide ((64:Int)<(b.length:Nat))) (λh=>?_) (λh=>?_)
  .have o:¬b.length<=64:=by have:=zAh h;lia
   have:(D.l z b).homesB=false:=by show (decide (b.length<=64)&&_)=false;rw[zAz o];rfl
   rw[this] at q;exact q
  have o:b.length<=64:=by have:=zBj h;lia
  have E:(D.l z b).homesB=(b.all D.pairB&&decide (b.filterMap Jw).Nodup):=by show (decide (b.length<=64)&&_)=_;rw[zAi o];rfl
  have m:=zBe.mp k.2;refine⟨k.1,?_⟩;refine qi7 (λι=>∃d,ι=[d]) (λy=>some (.bl y.pairB)) b [] _ (by show 0+b.length<big;unfold big;lia) ⟨_,rfl⟩ ?_ ?_;{rintro y s ι u ⟨d,rfl⟩ R v c;have G:=zAp.mp (m y s);obtain⟨t,H⟩:=zB0.mp G.1;refine qW4 (x:=y) (rd0 (qi5 H)) (qa1 (a:=D.bl y.pairB) ?_ ?_);{show (if y.kinded=true then y.kind.map _ else none)=_;rw[if_pos G.2,H];rfl};exact⟨c,v _ ⟨_,rfl⟩⟩};rintro ι ⟨d,rfl⟩;rw[zB4,qan8];refine qa1 (qaX0 D.pairB b) (ite_b (λr=>?_) λr=>?_)
  .obtain⟨n,rfl,M⟩:=qai7 r;refine⟨qO7 n,qi7 (λι=>∃d,ι=[d]) (λy=>(Jw y).map .int) (Q5 n) [] _ (by show 0+(Q5 n).length<big;unfold big;lia) ⟨_,rfl⟩ ?_ ?_⟩;{rintro y s ι u ⟨d,rfl⟩ R v c;obtain⟨p,I,rfl⟩:=zB8.mp s;exact⟨rfl,c,v _ ⟨_,rfl⟩⟩};rintro ι ⟨d,rfl⟩;have e:[]++(Q5 n).filterMap (λy=>(Jw y).map D.int)=Q3 (n.map (·.1)):=by rw[zB4];unfold Q5 Q3;rw[Pb,zC4];exact qan8 _ _
   rw[e];rw[E,r,qam4] at q;exact⟨_,⟨false,_,rfl,by simp;simp[Q5] at o;lia,rfl⟩,q⟩
  rw[E,r] at q;exact q
 |_=>first|exact q|cases j
theorem qT1:qa9 ["self", "rooms", "wraps", "homes"] ["self", "rooms", "wraps", "homes"] (qa4 qw3):=by walk_at "s"
def qS2(C:γ):VSp:=λds Q _=>∃n wr z ps,ds=[.ins false C [],.int n,.bl wr,.l z (Q5 ps)]/\1<=n/\n<=64/\qG0 ps/\Q .non [Qz false C n wr ps,.int n,.bl wr,.l z (Q5 ps)]
theorem qaA3:Ie (.l z (Q5 ps))=some (.l false (Q5 ps)):=qk5 (qO7 ps)
theorem qr4(T:Txt K mg a):VFn P w K mg base 6 a.f8 a.d8 ["self", "rooms", "wraps", "homes"] (qS2 a.Ca):=by refine VFn.mk2 T.d8.F qT1 (wOf [true,true,true,true]) (by walk_at "m") (by walk_at "l") (λ_ _ _ _ _ _ _ e=>⟨_,(Ac (sif (Bi (te (Af T.d3 (qe4 T) qa0 (rm e) (vaN 1 (vaV (qa3 Ad) (vaV (qa3 (vgi T.Dh)) Aa)))))) (Ag (qo7 T.Co (qb2 T) (rm e) T.Cp T.d0.b qa0 (qa3 Ad))) Aw) (Ac (sif (Bi (tv (vbi qi8 qL3.ops T.Cd (qa2 (vnm 2) (qa2 (vty "bool" T.Ej) qa6 rfl) rfl)))) (Ag (qo7 T.Co (qb2 T) (rm e) T.Cp T.d0.b qa0 (qa3 Ad))) Aw) (Ac (sif (Bi (te (Af T.d7 (qp7 T) qa0 (rm e) (vaN 3 Aa)))) (Ag (qo7 T.Co (qb2 T) (rm e) T.Cp T.d0.b qa0 (qa3 Ad))) Aw) (Ac (Iz rfl (vpn 0) (qb9 (vnm 1)) T.Ce.cl T.Cg) (Ac (Iz rfl (vpn 0) (qb9 (vnm 2)) T.Ce.cl T.Cq) (Ac (Iz rfl (vpn 0) (qa3 (Iw qg7 qH5.ops T.D1 (qa2 (vnm 3) qa6 rfl))) T.Ce.cl T.Di) (Ag (Iz rfl (vpn 0) (qa3 (Iw (qQ1 rfl) qaB5.ops T.Fb (qa2 (vnm 3) qa6 rfl))) T.Ce.cl T.Cr)))))))),λk Q g h=>?_⟩);obtain⟨n,wr,z,d,rfl,i,j,f,q⟩:=h;refine qb1 [.ins false a.Ca [],.int n,.bl wr,.l z (Q5 d)] (λK c=>?_) (qb1 [.ins false a.Ca [],.int n,.bl wr,.l z (Q5 d)] (λK c=>c) (qb1 [.ins false a.Ca [],.int n,.bl wr,.l z (Q5 d)] (λK c=>?_) ?_));{refine qan1 (λQ g q=>qg3 (qc4 (x:=.int n) rfl (qc8 (y:=.int 1) rfl (qc8 (y:=.int 64) rfl (qb6 (qa1 (a:=D.int n) rfl (qB8 ?_ q))))))) c;show some (D.bl ((D.int n).within 1 64))=_;rw[qn9 i j]};{refine qW4 rfl ⟨D.bl true,⟨_,rfl,(qt9 f).2,by rw[(qt9 f).1]⟩,c⟩};refine qb1 [.ins false a.Ca [("rooms",.int n)],.int n,.bl wr,.l z (Q5 d)] (λK c=>⟨rfl,qa1 (a:=(0,[])) rfl (qa1 qh9 ⟨∅,c⟩)⟩) ?_;refine qb1 [.ins false a.Ca [("rooms",.int n),("wraps",.bl wr)],.int n,.bl wr,.l z (Q5 d)] (λK c=>⟨rfl,qa1 (a:=(0,[])) rfl (qa1 qh9 ⟨by show 1<100;decide,c⟩)⟩) ?_;refine qb1 [.ins false a.Ca [("rooms",.int n),("wraps",.bl wr),("homes",.l false (Q5 d))],.int n,.bl wr,.l z (Q5 d)] (λK c=>?_) ?_;{refine qa1 (qaA3 (z:=z)) ?_;exact qa1 (a:=(0,[])) rfl (qa1 qh9 ⟨by show 2<100;decide,c⟩)};refine qa1 (qaB4 (z:=z) f.nd) ?_;exact qa1 (a:=(0,[])) rfl (qa1 qh9 ⟨by show 3<100;decide,q⟩)
theorem qF0:qa9 ["self", "thing"] ["self", "thing"] (qa4 ql4):=by walk_at "s"
def qE6(C:γ):VSp:=A4 λds d=>∃z n wr ps x t,ds=[Qz z C n wr ps,x]/\x.kind=some t/\d=.bl (x.within 0 (n-1))
theorem qp8(T:Txt K mg a):VFn P w K mg base 3 a.f10 a.d10 ["self", "thing"] (qE6 a.Ca):=by refine VFn.mk2 T.d10.F qF0 (wOf [true,true]) qb3 (by walk_at "l") (λ_ _ _ _ _ _ _ f=>⟨_,(Ag (An (Af T.d3 (qe4 T) qa0 (rm f) (vaN 1 (vaV (qa3 Ad) (vaV (qa3 (v2 (Ak qr1) qq9 (Ba rfl (vnm 0) T.Ce.cl T.Cg) Ad)) Aa)))))),λg Q i h=>?_⟩);obtain⟨d,⟨z,n,wr,b,x,t,rfl,c,rfl⟩,q⟩:=h;have e:rdN 1 [Qz z a.Ca n wr b,x]=some x:=qn3.mpr ⟨rfl,qi5 c⟩;show qk9 _ _ (tbN 1 _) [Qz z a.Ca n wr b,x] _ _;refine qc4 e ?_;refine qc8 rfl ?_;refine qc8 (Ah (Ay rfl qd8) rfl rfl) ?_;refine qa1 e ?_;refine qB8 ?_ (qa1 rfl q);show x.kind.bind _=_;rw[c];rfl
theorem qT2:qa9 ["self", "key"] ["self", "key"] (qa4 qw4):=by walk_at "s"
def qS3(C:γ):VSp:=A4 λds d=>∃z n wr ps k,ds=[Qz z C n wr ps,.int k]/\1<=n/\Am k/\d=.int (qd4 n ps k)
theorem qan3{z:Bool}{ps:Pr}(h:fa ds=some (.dct z (kvD ps)))(a:rdN i ds=some (.int k)):fget fa (rdN i) (rdN i) ds=some (.int ((ps.lookup k).getD k)):=by unfold fget;rw[h,a];show gd (((Gd (kvD ps) (.inl k)).getD (.int k)).imm=true) ((Gd (kvD ps) (.inl k)).getD (.int k))=_;rw[qax8];cases ps.lookup k<;>rfl
theorem qaR7{x:Int}(h:1<=n):Ma (.int x) (.int n)=some (.int (x%n)):=qk5 (zAi ⋯)
theorem qr5(T:Txt K mg a):VFn P w K mg base 4 a.f11 a.d11 ["self", "key"] (qS3 a.Ca):=by refine VFn.mk2 T.d11.F qT2 (wOf [true,true]) qb3 (by walk_at "l") (λ_ _ _ _ _ _ _ c=>⟨_,(Ac (sif (Bi (te (Af T.d4 (qd3 T) qa0 (rm c) (vaN 1 Aa)))) (Ag (qo7 T.Co (qb2 T) (rm c) T.Cp T.d0.b qa0 (qa3 Ad))) Aw) (Ag (An (qa3 (v2 (Ak qr2) qr0 (vget (hu_of c) (Ba rfl (vnm 0) T.Ce.cl T.Cr) (vnm 1) (vnm 1) ⟨rfl,rfl,rfl,rfl⟩) (Ba rfl (vnm 0) T.Ce.cl T.Cg)))))),λg Q i h=>?_⟩);obtain⟨d,⟨z,n,wr,j,k,rfl,e,f,rfl⟩,q⟩:=h;exact qW4 rfl (qB8 (by show some (D.bl (D.int k).num)=_;rw[qK0 f]) (qa1 rfl (qa1 (a:=true) rfl (qa1 (Ah (qan3 (Ay rfl qH3) rfl) (Ay rfl qd8) (qaR7 e)) q))))
theorem qG5:qa9 ["self", "key", "room", "steps"] ["self", "key", "room"] (qa4 qB4):=by walk_at "s"
def qac3(C:γ):VSp:=A4 λds d=>∃z n wr ps k r,ds=[Qz z C n wr ps,.int k,.int r]/\1<=n/\Am k/\0<=r/\r<n/\d=Lg (Fo n wr ps k r)
theorem Lm(a:Am k):fx1 (λx=>x.kind.map λ_=>.bl x.num) [.int k]=some (.bl true):=by show some (D.bl (D.int k).num)=_;rw[qK0 a]
theorem qay7{r:Int}(d:0<=r)(h1:r<n):∃z' c a b x t,[Qz z C n wr ps,.int r]=[Qz z' C c a b,x]/\x.kind=some t/\D.bl true=.bl (x.within 0 (c-1)):=⟨z,n,wr,ps,_,_,rfl,rfl,by rw[qn9 d ⋯]⟩
theorem qk3(T:Txt K mg a):VFn P w K mg base 5 a.f12 a.d12 ["self", "key", "room"] (qac3 a.Ca):=by refine VFn.mk2 T.d12.F qG5 (wOf [true,true,true]) qb3 (by walk_at "l") (λ_ _ _ _ _ _ _ c=>⟨_,(Ac (sif (Bi (te (Af T.d4 (qd3 T) qa0 (rm c) (vaN 1 Aa)))) (Ag (qo7 T.Co (qb2 T) (rm c) T.Cp T.d0.b qa0 (qa3 Ad))) Aw) (Ac (sif (Bi (te (qj7 0 T.d10 T.Ce.cl (qp8 T) qa0 (rm c) (vaN 2 Aa)))) (Ag (qo7 T.Co (qb2 T) (rm c) T.Cp T.d0.b qa0 (qa3 Ad))) Aw) (Ac (Aj 3 qG5.nd (e2n 2 (Ak qr1) qq9 (qj7 0 T.d11 T.Ce.cl (qr5 T) qa0 (rm c) (vaN 1 Aa)))) (Ac (sif (tv (Ba rfl (vnm 0) T.Ce.cl T.Cq)) (Ag (An (qa3 (v2 (Ak qr2) qr0 (vnm 3) (Ba rfl (vnm 0) T.Ce.cl T.Cg))))) Aw) (Ag (An (eif (q2 (Ap Ib (qa8 _)) Kd (vnm 3) Ad) (qb9 (vnm 3)) (qa3 A9)))))))),λp Q i h=>?_⟩);obtain⟨d,⟨z,n,wr,e,k,r,rfl,j,m,f,g,rfl⟩,q⟩:=h;refine Gx (λQ i q=>Lh rfl (Lm m) rfl q) ?_;refine Gx (λQ i q=>qK3 rfl (qg6 rfl) rfl rfl (qay7 f g) rfl q) ?_;refine qb1 [Qz z a.Ca n wr e,.int k,.int r,.int (r-qd4 n e k)] (λK o=>?_) ?_;{exact⟨rfl,qK3 (x:=.int k) rfl (qg6 rfl) rfl rfl ⟨z,n,wr,e,k,rfl,j,m,rfl⟩ rfl (qa1 rfl o)⟩};unfold Fo at q;refine qi9 wr (Ay rfl qo3) (λh=>?_) (λh=>?_);{subst h;exact qg9 (.int ((r-qd4 n e k)%n)) (Ah rfl (Ay rfl qd8) (qaR7 j)) q};subst h;refine qf5 (Im rfl (λh=>?_) (λh=>?_));{rw[if_neg ∅,if_pos (zAh h)] at q;exact⟨rfl,q⟩};rw[if_neg ∅,if_neg (zBj h)] at q;exact q
theorem qg5:qa9 ["self", "room", "one", "other", "one_far", "other_far"] ["self", "room", "one", "other"] (qa4 qh6):=by walk_at "s"
def qu9(C:γ):VSp:=A4 λds d=>∃z n wr ps r x y,ds=[Qz z C n wr ps,.int r,.int x,.int y]/\1<=n/\0<=r/\r<n/\Am x/\Am y/\d=.bl (qH6 n wr ps r x y)
theorem qav2{C:γ}{z:Bool}{n:Int}{wr:Bool}{ps:Pr}{r:Int}(h1:1<=n)(f:Am k)(g:0<=r)(h:r<n):∃z' c a b e d,[Qz z C n wr ps,.int k,.int r]=[Qz z' C c a b,.int e,.int d]/\1<=c/\Am e/\0<=d/\d<c/\Lg (Fo n wr ps k r)=Lg (Fo c a b e d):=⟨z,n,wr,ps,k,r,rfl,h1,f,g,h,rfl⟩
theorem qk2(T:Txt K mg a):VFn P w K mg base 6 a.f13 a.d13 ["self", "room", "one", "other"] (qu9 a.Ca):=by
 refine VFn.mk2 T.d13.F qg5 (wOf [true,true,true,true]) qb3 (by walk_at "l") (λ_ _ _ _ _ _ _ c=>⟨_,(Ac (sif (Bi (te (qj7 0 T.d10 T.Ce.cl (qp8 T) qa0 (rm c) (vaN 1 Aa)))) (Ag (qo7 T.Co (qb2 T) (rm c) T.Cp T.d0.b qa0 (qa3 Ad))) Aw) (Ac (sif (Bi (te (Af T.d4 (qd3 T) qa0 (rm c) (vaN 2 Aa)))) (Ag (qo7 T.Co (qb2 T) (rm c) T.Cp T.d0.b qa0 (qa3 Ad))) Aw) (Ac (sif (Bi (te (Af T.d4 (qd3 T) qa0 (rm c) (vaN 3 Aa)))) (Ag (qo7 T.Co (qb2 T) (rm c) T.Cp T.d0.b qa0 (qa3 Ad))) Aw) (Ac (Aj 4 qg5.nd (qj7 0 T.d12 T.Ce.cl (qk3 T) qa0 (rm c) (vaN 2 (vaN 1 Aa)))) (Ac (Aj 5 qg5.nd (qj7 0 T.d12 T.Ce.cl (qk3 T) qa0 (rm c) (vaN 3 (vaN 1 Aa)))) (Ac (sif (q2 (Ap Gs (qa8 _)) Gr (vnm 4) A9) (Ag (An (qa3 vbl))) Aw) (Ac (sif (q2 (Ap Gs (qa8 _)) Gr (vnm 5) A9) (Ag (An (qa3 vbl))) Aw) (Ag (An (qa3 (vor (v2 (Ax B8 (qa8 _)) Fp (vnm 4) (vnm 5)) (K7 (Me (v2 (Ax (qm4 c.u64) (qa8 _)) Bk (vnm 4) (vnm 5)) (K7 (v2 (Ax Jy (qa8 _)) Kc (vnm 2) (vnm 3)))))))))))))))),λv Q k h=>?_⟩);obtain⟨d,⟨z,n,wr,e,r,x,y,rfl,o,i,j,p,s,rfl⟩,q⟩:=h;refine Gx (λQ k q=>qK3 (x:=.int r) rfl (qg6 rfl) rfl rfl (qay7 i j) rfl q) ?_;refine Gx (λQ k q=>Lh (x:=.int x) rfl (Lm p) rfl q) ?_;refine Gx (λQ k q=>Lh (x:=.int y) rfl (Lm s) rfl q) ?_;refine qb1 [Qz z a.Ca n wr e,.int r,.int x,.int y,Lg (Fo n wr e x r),.u] (λK m=>?_) ?_;{exact qat8 (x:=.int x) (y:=.int r) rfl (qg6 rfl) rfl rfl rfl rfl (qav2 o p i j) rfl m};refine qb1 [Qz z a.Ca n wr e,.int r,.int x,.int y,Lg (Fo n wr e x r),Lg (Fo n wr e y r)] (λK m=>?_) ?_;{exact qat8 (x:=.int y) (y:=.int r) rfl (qg6 rfl) rfl rfl rfl rfl (qav2 o s i j) rfl m};unfold qH6 at q;cases t:Fo n wr e x r with
 |none=>rw[t] at q;exact q|some f=>
  rw[t] at q;cases u:Fo n wr e y r with
  |none=>rw[u] at q;exact q|some g=>
   rw[u] at q;refine qi9 false rfl nofun λ_=>?_
   refine qi9 false rfl nofun λ_=>?_
   exact qg9 _ (qbe5 (a:=decide (g<f)) rfl (qZ6 (a:=decide (f=g)) (b:=decide (x<y)) rfl rfl)) q
theorem qN0:qa9 ["plan", "room"] ["plan", "room"] (qa4 qq4):=by walk_at "s"
def qM6(C:γ):VSp:=A4 λds d=>∃z n wr ps r,ds=[Qz z C n wr ps,.int r]/\d=(if 0<r then .int (r-1) else if wr=true then .int (n-1) else .non)
theorem qN7(T:Txt K mg a):VFn P w K mg base 1 a.f14 a.d14 ["plan", "room"] (qM6 a.Ca):=by refine VFn.mk2 T.d14.F qN0 (wOf [true,true]) qb3 (by walk_at "l") (λ_ _ _ _ _ _ _ e=>⟨_,(Ac (sif (q2 (Ap B8 (qa8 _)) Fp (vnm 1) Ad) (Ag (An (qa3 (v2 (Ak qr1) qq9 (vnm 1) Ad)))) Aw) (Ag (An (eif (tv (Ba rfl (vnm 0) T.Ce.cl T.Cq)) (qa3 (v2 (Ak qr1) qq9 (Ba rfl (vnm 0) T.Ce.cl T.Cg) Ad)) (qa3 A9))))),λf Q g h=>?_⟩);obtain⟨d,⟨z,n,wr,c,r,rfl,rfl⟩,q⟩:=h;refine At [Qz z a.Ca n wr c,.int r] rfl ?_;refine qi9 (decide (0<r)) rfl (λh=>?_) λh=>?_;{rw[if_pos (zAh h)] at q;exact q};rw[if_neg (zBj h)] at q;refine qf5 (Im (b:=wr) (Ay rfl qo3) (λh=>?_) (λh=>?_));{rw[if_pos h] at q;exact qn5 (d:=.int (n-1)) (Ah (Ay rfl qd8) rfl rfl) q};rw[if_neg (by rw[h];decide)] at q;exact q
theorem qe6:qa9 ["plan", "rooms", "room", "ahead", "thing"] ["plan", "rooms", "room"] (qa4 qf2):=by walk_at "s"
def okG(n:Int)(wr:Bool)(ps:Pr)(g:Nat->Option Int):Prop:=∃S,Kept n.toNat wr (Q0 n ps) g S/\∀k∈S,Am k
theorem okG.num{n:Int}{wr:Bool}{ps:Pr}{g:Nat->Option Int}(h:okG n wr ps g)(hi:i<n.toNat)(e:g i=some k):Am k:=let ⟨_,K,q⟩:=h;q k ((K.h.2 k).mpr ⟨i,hi,e⟩)
def qo8(C:γ):VSp:=A4 λds d=>∃z n wr ps z' g r k,ds=[Qz z C n wr ps,.l z' (Q4 n.toNat g),.int (r:Nat)]/\1<=n/\r<n.toNat/\okG n wr ps g/\g r=some k/\0<Ab n.toNat (Q0 n ps k) r/\d=.non
theorem qp1(T:Txt K mg a):VFn P w K mg base 7 a.f15 a.d15 ["plan", "rooms", "room"] (qo8 a.Ca):=by
 refine VFn.mk2 T.d15.F qe6 (wOf [true,true,true]) qb3 (by walk_at "l") (λ_ _ _ _ _ _ _ s=>⟨_,(Ac (Aj 3 qe6.nd (Af T.d14 (qN7 T) qa0 (rm s) (vaN 0 (vaN 2 Aa)))) (Ac (Aj 4 qe6.nd (qb9 (v2 (Av qb4) Al (vnm 1) (vnm 3)))) (Ac (sif (q2 (Ap Gs (qa8 _)) Gr (vnm 4) A9) (Ag (An (qa3 Bh))) Aw) (Ac (sif (tand (te (Af T.d4 (qd3 T) qa0 (rm s) (vaN 4 Aa))) (Mc (Bi (te (qj7 0 T.d13 T.Ce.cl (qk2 T) qa0 (rm s) (vaN 3 (vaN 4 (vaV (qb9 (v2 (Av qb4) Al (vnm 1) (vnm 2))) Aa)))))))).te (Ag (An (qa3 Bh))) Aw) (Ag (An (qa3 A9))))))),λL Q M h=>?_⟩);obtain⟨d,⟨z,n,wr,b,t,g,r,k,rfl,A,c,u,j,G,rfl⟩,q⟩:=h;obtain⟨S,KP,N⟩:=id u;have H:=u.num c j;have e:=Row.qp5 (n:=n.toNat) c;obtain⟨x,m,I⟩:=KP.o.ord r k c j G;have f:=u.num e m;have B:=λi=>KP.ln i r k c j;have O:=dor n.toNat (Q0 n b k) r;have J:=por n.toNat r;have C:=(qM2 (ps:=b) A e (λi=>KP.ln i _ x e m) (λi=>by have:=B i;lia)).mpr I;have E:(if 0<((r:Nat):Int) then D.int ((r:Int)-1) else if wr=true then D.int (n-1) else .non)=.int (Row.prev n.toNat r:Nat):=by rcases J with⟨e1,e2⟩|⟨e1,e2⟩;{rw[if_neg ⋯,if_pos (by cases wr with|true=>rfl|false=>have:=B rfl;lia),e2];congr 1;lia};rw[if_pos ⋯,e2];congr 1;lia
 generalize Row.prev n.toNat r=p at e E m C;refine At [Qz z a.Ca n wr b,.l t (Q4 n.toNat g),.int (r:Nat),.u,.u] rfl ?_;refine qb1 [Qz z a.Ca n wr b,.l t (Q4 n.toNat g),.int (r:Nat),.int (p:Nat),.u] (λK v=>qK4 (x:=Qz z a.Ca n wr b) (y:=.int (r:Nat)) (d:=.int (p:Nat)) rfl rfl rfl ⟨z,n,wr,b,(r:Nat),rfl,E.symm⟩ rfl v) ?_;refine qb1 [Qz z a.Ca n wr b,.l t (Q4 n.toNat g),.int (r:Nat),.int (p:Nat),.int x] (λK v=>qA1 (d:=.int x) (Ah rfl rfl ((Gc e).trans (by rw[m];rfl))) rfl v) ?_;refine qi9 false rfl nofun λ_=>?_
 refine qj2 false (λQ q=>qH8 true false (λQ q=>Lh (x:=.int x) (d:=.bl true) rfl (Lm f) rfl q) (λ_ Q q=>?_) q) nofun λ_=>q
 refine qt3 (p:=Qz z a.Ca n wr b) rfl (qg6 rfl) (qc4 (x:=.int (p:Nat)) rfl (qc4 (x:=.int x) rfl (qe1 (y:=.int k) (Ah rfl rfl ((Gc c).trans (by rw[j];rfl))) rfl (qb6 (qa1 (a:=D.int x) rfl (qa1 (a:=D.int (p:Nat)) rfl (qa1 (a:=Qz z a.Ca n wr b) rfl (qm0 (d:=.bl (qH6 n wr b (p:Int) x k)) ⟨z,n,wr,b,(p:Nat),x,k,rfl,A,⋯,⋯,f,H,rfl⟩ ?_))))))));rw[C];exact q
theorem qv0:qa9 ["plan", "rooms", "room", "key", "far"] ["plan", "rooms", "room"] (qa4 qA6):=by walk_at "s"
theorem qaQ4{k:Int}{g:Nat->Option Int}:∀l:List Nat,(∀i∈l,g i≠some k)->∃a,flats (l.map λi=>Gf (g i))=some a/\inV (.int k) a=false|[],_=>⟨[],rfl,rfl⟩|i::l,h=>by obtain⟨a,d,e2⟩:=qaQ4 l λj f=>h j (zA6 _ f);rw[zAy];cases c:g i with|none=>exact⟨.non::a,by show ((flats _).bind λb=>some (V.non::b))=_;rw[d];rfl,by show (eqV .non (.int k)||inV (.int k) a)=_;rw[e2];rfl⟩|some j=>exact⟨.int j::a,by show ((flats _).bind λb=>some (V.int j::b))=_;rw[d];rfl,by show (decide (j=k)||inV (.int k) a)=_;rw[e2,zAz λe=>(h i zA7) (by rw[c,e])];rfl⟩
def qab5(C:γ):VSp:=A4 λds d=>∃z n wr ps z' g r,ds=[Qz z C n wr ps,.l z' (Q4 n.toNat g),.int (r:Nat)]/\1<=n/\r<n.toNat/\okG n wr ps g/\d=.non
theorem qad3(T:Txt K mg a):VFn P w K mg base 8 a.f16 a.d16 ["plan", "rooms", "room"] (qab5 a.Ca):=by
 refine VFn.mk2 T.d16.F qv0 (wOf [true,true,true]) qb3 (by walk_at "l") (λ_ _ _ _ _ _ _ p=>⟨_,(Ac (Aj 3 qv0.nd (qb9 (v2 (Av qb4) Al (vnm 1) (vnm 2)))) (Ac (sif (q2 (Ap Gs (qa8 _)) Gr (vnm 3) A9) (Ag (An (qa3 A9))) Aw) (Ac (sif (Bi (te (Af T.d4 (qd3 T) qa0 (rm p) (vaN 3 Aa)))) (Ag (An (qa3 Bh))) Aw) (Ac (sif (q2 (Ap qJ5 (by with_unfolding_all rfl)) Ke (vnm 3) (vsl (vnm 1) Hk (Hl (vnm 2)))) (Ag (An (qa3 Bh))) Aw) (Ac (Aj 4 qv0.nd (qj7 0 T.d12 T.Ce.cl (qk3 T) qa0 (rm p) (vaN 3 (vaN 2 Aa)))) (Ac (sif (q2 (Ap Gs (qa8 _)) Gr (vnm 4) A9) (Ag (An (qa3 Bh))) Aw) (Ac (sif (q2 (Ap (qm4 p.u64) (qa8 _)) Bk (vnm 4) Ad) (Ag (An (qa3 A9))) Aw) (Ag (An (Af T.d15 (qp1 T) qa0 (rm p) (vaN 0 (vaN 1 (vaN 2 Aa))))))))))))),λI Q J h=>?_⟩);obtain⟨d,⟨z,n,wr,c,f,g,r,rfl,t,b,u,rfl⟩,q⟩:=h;obtain⟨S,KP,L⟩:=id u;refine At [Qz z a.Ca n wr c,.l f (Q4 n.toNat g),.int (r:Nat),.u,.u] rfl ?_;cases j:g r with
 |none=>refine qb1 [Qz z a.Ca n wr c,.l f (Q4 n.toNat g),.int (r:Nat),.non,.u] (λK m=>qA1 (d:=.non) (Ah rfl rfl ((Gc b).trans (by rw[j];rfl))) rfl m) ?_;exact qi9 true rfl (λ_=>q) nofun|some k=>
  have A:=u.num b j;refine qb1 [Qz z a.Ca n wr c,.l f (Q4 n.toNat g),.int (r:Nat),.int k,.u] (λK m=>qA1 (d:=.int k) (Ah rfl rfl ((Gc b).trans (by rw[j];rfl))) rfl m) ?_;refine qi9 false rfl nofun λ_=>?_
  refine qj2 false (λQ q=>(show Gi _ _ _ _ from(show ttE _ _ _ _ from Lh (x:=.int k) (d:=.bl true) rfl (Lm A) rfl (qa1 (a:=true) rfl q)))) nofun λ_=>?_
  obtain⟨s,B,C⟩:=qaQ4 (k:=k) (g:=g) (N7 r) λi E e=>by have:=zAo.mp E;have:=KP.o.inj i r k ⋯ b e j;lia
  have v:Bz (Q4 n.toNat g) none (some (r:Int))=Q4 r g:=by rw[qL2];unfold Q4;rw[<-Os,List.take_range,zCm ⋯]
  refine qi9 false (Ah (x:=.int k) (y:=.l false (Q4 r g)) rfl ?_ ?_) nofun λ_=>?_
  {show gd (D.imms (Bz (Q4 n.toNat g) none (some (r:Int)))=true) (D.l false (Bz (Q4 n.toNat g) none (some (r:Int))))=_;rw[v];exact qk5 (qD4 _ _)};{show ((flats (Q4 r g)).bind λs=>some (D.bl (if false=true then !inV (.int k) s else inV (.int k) s)))=_;unfold Q4;rw[B];show some (D.bl (inV (.int k) s))=_;rw[C]};have G:=qP6 (ps:=c) t b λH=>KP.ln H r k b j;refine qb1 [Qz z a.Ca n wr c,.l f (Q4 n.toNat g),.int (r:Nat),.int k,.int (Ab n.toNat (Q0 n c k) r:Nat)] (λK m=>qe0 (qat8 (x:=.int k) (y:=.int (r:Nat)) rfl (qg6 rfl) rfl rfl rfl rfl (qav2 t A ⋯ ⋯) rfl (by rw[G];exact m))) ?_;refine qi9 false rfl nofun λ_=>?_
  refine qi9 (decide (Ab n.toNat (Q0 n c k) r=0)) (Ah rfl rfl (by show some (D.bl (((Ab n.toNat (Q0 n c k) r:Nat):Int)==0))=_;congr 2;by_cases h:Ab n.toNat (Q0 n c k) r=0<;>simp[h])) (λ_=>q) λh=>?_;exact qf5 (Li (y:=.l f (Q4 n.toNat g)) (w:=.int (r:Nat)) rfl rfl rfl rfl rfl ⟨z,n,wr,c,f,g,r,k,rfl,t,b,u,j,by have:=zBj h;lia,rfl⟩ rfl q)
theorem qS8:qa9 ["plan", "rooms"] ["plan", "rooms"] (qa4 qv7):=by walk_at "s"
def farP(n:Int)(ps:Pr):D->Bool|.q [.int i,.int k]=>decide (0<Ab n.toNat (Q0 n ps k) i.toNat)|_=>false
theorem qaK7(ys:Ds):(enD ys).length=ys.length:=by unfold enD;rw[zAe,List.length_zipIdx]
def qR7(C:γ):VSp:=A4 λds d=>∃z n wr ps z' g,ds=[Qz z C n wr ps,.l z' (Q4 n.toNat g)]/\1<=n/\n<=64/\okG n wr ps g/\d=.bl false
theorem qU4(T:Txt K mg a):VFn P w K mg base 6 a.f17 a.d17 ["plan", "rooms"] (qR7 a.Ca):=by
 refine VFn.mk2 T.d17.F qS8 (wOf [true,true]) qb3 (by walk_at "l") (λ_ _ _ _ _ _ _ E=>⟨_,(Ag (An (ebi (qaa7 rfl) qaW3.ops T.Fj (Gv (vaV (ecEN (NY:=["room", "key", "plan"]) (src:=[none,none,some 0]) 1 T.Em (blk (λs C t H0 u=>(Km (n:=2) rfl (qP3 (Bc 0 (show (["room", "key", "plan"]:List Str).Nodup by decide +kernel)) (qP3 (Bc 1 (show (["room", "key", "plan"]:List Str).Nodup by decide +kernel)) Kl)))) (λs C t H0 u=>Hq) (λs C t H0 u=>(Hf (qa3 (v2 (Ax qj6 (qa8 _)) qp0 (vnm 1) A9)) (Jr (e2v (Ax B8 (qa8 _)) Fp (qj7 2 T.d12 T.Ce.cl (qk3 T) qn7 (rm E) (vaN 1 (vaN 0 Aa))) Ad)))))) Aa))))),λM Q N h=>?_⟩);obtain⟨d,⟨z,n,wr,b,G,g,rfl,m,O,A,rfl⟩,q⟩:=h;obtain⟨S,KP,U⟩:=id A;refine At [Qz z a.Ca n wr b,.l G (Q4 n.toNat g)] rfl (qf5 ⟨qD4 _ _,?_⟩);refine qi7 (λι=>∃o r,ι=[o,r,Qz z a.Ca n wr b]) (λy=>some (.bl (farP n b y))) (enD (Q4 n.toNat g)) [] _ (by show 0+(enD _).length<big;rw[qaK7,qp9];unfold big;lia) ⟨_,_,rfl⟩ ?_ ?_
 .rintro y H ι I ⟨o,r,rfl⟩ R B f;obtain⟨i,v,rfl,j⟩:=qbe6 H;have e:i<n.toNat:=by have:=(zA4.mp j).1;rwa[qp9] at this
  rw[qP1 e] at j;obtain rfl:=P8 j;refine qD5 (Mt (By rfl ?_));cases c:g i with|none=>exact Ha false rfl nofun λ_=>⟨f,by have:=B [.int (i:Nat),Gf (g i),Qz z a.Ca n wr b] ⟨_,_,rfl⟩;rw[c] at this;exact this⟩|some k=>refine Ha true rfl (λ_=>?_) nofun;refine qat8 (p:=Qz z a.Ca n wr b) (x:=.int k) (y:=.int (i:Nat)) rfl (qg6 rfl) rfl rfl rfl rfl (qav2 m (A.num e c) ⋯ ⋯) rfl ?_;have this:=B [.int (i:Nat),Gf (g i),Qz z a.Ca n wr b] ⟨_,_,rfl⟩;rw[c] at this;rw[qP6 m e λJ=>KP.ln J i k e c];refine qa1 (a:=D.bl (decide (0<Ab n.toNat (Q0 n b k) i))) ?_ ⟨f,this⟩;show some (D.bl (decide (((Ab n.toNat (Q0 n b k) i:Nat):Int)>0)))=_;congr 2;exact zBv.mpr ⋯
 rintro ι ⟨o,r,rfl⟩;rw[zB4,qan8];refine qa1 (qaX0 (farP n b) (enD (Q4 n.toNat g))) ?_;obtain⟨i,j,L⟩:=KP.c;rw[show (enD (Q4 n.toNat g)).all (farP n b)=false from List.all_eq_false.mpr ⟨_,zB2 (LV.qaV8 (qP1 j)),?_⟩];{exact q};cases c:g i with|none=>exact nofun|some k=>show ¬decide (0<Ab n.toNat (Q0 n b k) i)=true;rw[(qc2 (G3 m k) j).mpr (L k c).symm];exact nofun
theorem qv1:qa9 ["plan", "rooms", "room", "word"] ["plan", "rooms"] (qa4 qA8):=by walk_at "s"
def qab7(C:γ):VSp:=A4 λds d=>∃z n wr ps z' g,ds=[Qz z C n wr ps,.l z' (Q4 n.toNat g)]/\1<=n/\n<=64/\okG n wr ps g/\d=.non
theorem qad5(T:Txt K mg a):VFn P w K mg base 9 a.f18 a.d18 ["plan", "rooms"] (qab7 a.Ca):=by
 refine VFn.mk2 T.d18.F qv1 (wOf [true,true]) qb3 (by walk_at "l") (λ_ _ _ _ _ _ _ o=>⟨_,(Ac (sif (tor (Bi (tv (vbi qi8 qL3.ops T.Cd (qa2 (vnm 1) (qa2 (vty "list" T.D1) qa6 rfl) rfl)))) (Iv (q2 (Ap (qh7 o.u64) (qa8 _)) Br (vbi qu3 qu2.ops T.Cz (qa2 (vnm 1) qa6 rfl)) (Ba rfl (vnm 0) T.Ce.cl T.Cg)))).te (Ag (An (qa3 (Ga (qa2 Bh (qa2 Ad qa6 rfl) rfl))))) Aw) (Ac (Lb P9 T.D3 (Gv (vaV (qb9 (Ba rfl (vnm 0) T.Ce.cl T.Cg)) Aa)) (Bc 2 qv1.nd) (Ac (Aj 3 qv1.nd (Af T.d16 (qad3 T) qa0 (rm o) (vaN 0 (vaN 1 (vaN 2 Aa))))) (Ag (sif (q2 (Ap qj6 (qa8 _)) qp0 (vnm 3) A9) (Ag (An (qa3 (Ga (qa2 (vnm 3) (qa2 (vnm 2) qa6 rfl) rfl))))) Aw)))) (Ag (An (eif (te (Af T.d17 (qU4 T) qa0 (rm o) (vaN 0 (vaN 1 Aa)))) (qa3 (Ga (qa2 Bh (qa2 Ad qa6 rfl) rfl))) (qa3 A9)))))),λe Q v h=>?_⟩);obtain⟨d,⟨z,n,wr,f,c,g,rfl,p,s,r,rfl⟩,q⟩:=h;refine At [Qz z a.Ca n wr f,.l c (Q4 n.toNat g),.u,.u] rfl ?_;have i:f2 gNe (A7 (fx1 Hx) (A5 (rdN 1) λ_=>some [])) (f1 (D.fld a.Ca "rooms") (rdN 0)) [Qz z a.Ca n wr f,.l c (Q4 n.toNat g),.u,.u]=some (.bl false):=Ah (qD3 rfl) (Ay rfl qd8) (by rw[qp9,show ((n.toNat:Nat):Int)=n by lia];exact qaJ3 rfl);refine qj2 false (λQ q=>qp2 false false (λQ q=>qk8 (qam6 rfl) q) (λ_ Q q=>qm6 i q) q) nofun λ_=>?_
 refine qc1 (λe=>∃d k,e=[Qz z a.Ca n wr f,.l c (Q4 n.toNat g),d,k]) (λK m=>?_) ?_;{refine qV6 (Ay rfl qd8) (Mr ⋯ ⋯) ?_;refine qf3 (λ_ e=>∃d k,e=[Qz z a.Ca n wr f,.l c (Q4 n.toNat g),d,k]) _ 0 _ ⟨_,_,rfl⟩ ?_ λe h=>m _ h;rintro j x t e ⟨d,k,rfl⟩ K m;obtain⟨u,rfl⟩:=Lj t;refine qb1 [Qz z a.Ca n wr f,.l c (Q4 n.toNat g),.int (j:Nat),.non] (λK m=>Li (y:=.l c (Q4 n.toNat g)) (w:=.int (j:Nat)) rfl rfl rfl rfl rfl ⟨z,n,wr,f,c,g,j,rfl,p,u,r,rfl⟩ rfl m) ?_;exact if_v (b:=false) rfl nofun λ_=>m _ ⟨_,_,rfl⟩};rintro e ⟨d,k,rfl⟩;exact qf5 (qK4 (y:=.l c (Q4 n.toNat g)) (d:=.bl false) rfl rfl rfl ⟨z,n,wr,f,c,g,rfl,p,s,r,rfl⟩ rfl (qa1 (a:=false) rfl (Il ∅ q)))
theorem qv2:qa9 ["self", "plan", "rooms", "held", "fault"] ["self", "plan", "rooms"] (qa4 qB3):=by walk_at "s"
def Au(zr:Bool)(C CP:γ)(n:Int)(wr:Bool)(ps:Pr)(g:Nat->Option Int)(dn:Ds):D:=.ins zr C [("plan",Qz true CP n wr ps),("held",.l zr (Q4 n.toNat g)),("done",.l zr dn)]
abbrev rA(a:Adr)(n:Int)(wr:Bool)(ps:Pr)(g:Nat->Option Int)(dn:Ds):D:=Au false a.Cb a.Ca n wr ps g dn
abbrev kL(S:List Int):D:=.l false (Q3 S)
abbrev rL(n:Int)(g:Nat->Option Int):D:=.l false (Q4 n.toNat g)
section
variable{zr:Bool}{C CP:γ}{n:Int}{wr:Bool}{ps:Pr}{g:Nat->Option Int}{dn:Ds}
theorem qf8:D.fld C "plan" (Au zr C CP n wr ps g dn)=some (Qz true CP n wr ps):=qD6 (by rfl)
theorem qj0:D.fld C "held" (Au zr C CP n wr ps g dn)=some (.l zr (Q4 n.toNat g)):=qD6 (by rfl)
theorem qX4:D.fld C "done" (Au zr C CP n wr ps g dn)=some (.l zr dn):=qD6 (by rfl)
theorem qc7(h:([("plan",Qz true CP n wr ps),("held",.l zr (Q4 n.toNat g)),("done",.l zr dn)]:List (Str×D)).lookup m=none):(Au zr C CP n wr ps g dn).isM C m=true:=qaA6 h
end
theorem qu1:D.fidx C "held" (Au zr C CP n wr ps g dn)=some 1:=by show (if C=C then List.findIdx? (λq:Str×D=>("held" : Str)==q.1) [("plan",Qz true CP n wr ps),("held",.l zr (Q4 n.toNat g)),("done",.l zr dn)] else none)=_;rw[if_pos rfl];rfl
theorem qbf8{p:List Nat}{w:V}{d0:D}(h:Bb ds i p=some (.hole w)):bk1 i p w d0 ds=some (Bn ds i p d0):=by unfold bk1 Aq;rw[h];simp only[if_true];unfold Aq;rfl
theorem M3{C:γ}{f:Str}{pf:PF}(h:te ds (λd ds1=>orF (pf ds1) λq=>orF ((Bb ds1 q.1 q.2).bind (D.ownI C)) λfs=>fs.length<100/\e.nx (Bn ds1 q.1 q.2 (.ins false C (Hn f d fs)))) e.xe):sFldV C f te pf e ds:=h
theorem mv_to(h:rdN i ds=some d)(q:Q d (ds.set i .u)):tMv i ds Q xe:=qa1 h q
theorem qaT5{zr:Bool}{C CP:γ}{n:Int}{wr:Bool}{ps:Pr}{g:Nat->Option Int}{dn:Ds}:(Au zr C CP n wr ps g dn).isC C=some (.bl true):=if_pos rfl
def qac2(C CP:γ):VSp:=λds Q _=>∃n wr ps r g S,ds=[.ins false C [],Qz true CP n wr ps,r]/\1<=n/\n<=64/\(∀k∈S,Am k)/\Kept n.toNat wr (Q0 n ps) g S/\(r=.non/\g=(λ_=>none)∨∃z,r=.l z (Q4 n.toNat g))/\Q .non [Au false C CP n wr ps g [],Qz true CP n wr ps,r]
theorem qw7(T:Txt K mg a):VFn P w K mg base 10 a.f27 a.d27 ["self", "plan", "rooms"] (qac2 a.Cb a.Ca):=by
 refine VFn.mkE T.d27.F qv2 (wOf [true,true,true]) (λj Q Q' k o p _ h=>by obtain⟨n,wr,c,r,g,S,e,s,t,u,v,x,q⟩:=h;exact⟨n,wr,c,r,g,S,e,s,t,u,v,x,p _ _ q⟩) (λj Q k h=>by obtain⟨n,wr,c,r,g,S,e,_⟩:=h;rw[e];rfl) (λj Q k h=>by obtain⟨n,wr,c,r,g,S,e,_⟩:=h;rw[e];rfl) (λ_ _ _ _ _ _ _ i=>⟨_,(Ac (sif (Bi (tv (vbi (qM0 T.Ev T.Ce.cl) qaL2.ops T.Cd (qa2 (vnm 1) (qa2 (vcls a.Ca T.Ce.m) qa6 rfl) rfl)))) (Ag (qo7 T.Co (qb2 T) (rm i) T.Cp T.d0.b qa0 (qa3 Ad))) Aw) (Ac (sif (tand (q2 (Ap qj6 (qa8 _)) qp0 (vnm 2) A9) (Mc (Bi (tv (vbi qi8 qL3.ops T.Cd (qa2 (vnm 2) (qa2 (vty "list" T.D1) qa6 rfl) rfl)))))).te (Ag (qo7 T.Co (qb2 T) (rm i) T.Cp T.d0.b qa0 (qa3 Ad))) Aw) (Ac (Aj 3 qv2.nd (eif (q2 (Ap Gs (qa8 _)) Gr (vnm 2) A9) (qa3 (v2 (Ak qC2) qC1 (Bs (qa2 A9 qa6 rfl)) (Ba rfl (vnm 1) T.Ce.cl T.Cg))) (qa3 (Iw qg7 qH5.ops T.D1 (qa2 (vnm 2) qa6 rfl))))) (Ac (Aj 4 qv2.nd (Af T.d18 (qad5 T) qa0 (rm i) (vaN 1 (vaN 3 Aa)))) (Ac (sif (q2 (Ap qj6 (qa8 _)) qp0 (vnm 4) A9) (Ag qaD9) Aw) (Ac (Iz rfl (vpn 0) (qb9 (vnm 1)) T.Cc.cl T.Cj) (Ac (Iz rfl (vpn 0) (emv 3) T.Cc.cl T.Ck) (Ag (Iz rfl (vpn 0) (qa3 (Bs qa6)) T.Cc.cl T.Cs))))))))),λj Q k h=>?_⟩);obtain⟨n,wr,c,r,g,S,rfl,A,l,B,KP,i,q⟩:=h;have C:r.known=true:=by rcases i with⟨rfl,_⟩|⟨z,rfl⟩<;>rfl
 refine At [.ins false a.Cb [],Qz true a.Ca n wr c,r,.u,.u] rfl ?_;refine qaA9 (show He a.Ca (Qz true a.Ca n wr c) (.adr a.Ca)=some (.bl true) from qaI6) ?_;refine qj2 false (λQ q=>?_) nofun λ_=>?_
 {rcases i with⟨rfl,_⟩|⟨z,rfl⟩;{exact qH8 false false (λQ q=>qm6 (b:=false) (Ah rfl rfl rfl) q) nofun q};exact qH8 true false (λQ q=>qm6 (b:=true) (Ah rfl rfl rfl) q) (λ_ Q q=>qk8 (b:=true) (qam6 rfl) q) q};refine qb1 [.ins false a.Cb [],Qz true a.Ca n wr c,r,rL n g,.u] (λK f=>qe0 ?_) ?_;{rcases i with⟨rfl,rfl⟩|⟨z,rfl⟩;{exact Im (b:=true) (Ah rfl rfl rfl) (λ_=>qn5 (Ah rfl (Ay rfl qd8) (qV0 ⋯ l)) f) nofun};exact Im (b:=false) (Ah rfl rfl rfl) nofun λ_=>qn5 (d:=rL n g) (show Ie (.l z (Q4 n.toNat g))=_ from qk5 (qD4 _ _)) f};refine qb1 [.ins false a.Cb [],Qz true a.Ca n wr c,r,rL n g,.non] (λK f=>qe0 ?_) ?_;{exact qK4 (y:=rL n g) (d:=.non) rfl rfl rfl ⟨true,n,wr,c,false,g,rfl,A,l,⟨S,KP,B⟩,rfl⟩ rfl f};refine qj2 false (λQ q=>qm6 (b:=false) (Ah rfl rfl rfl) q) nofun λ_=>?_
 refine qb1 [.ins false a.Cb [("plan",Qz true a.Ca n wr c)],Qz true a.Ca n wr c,r,rL n g,.non] (λK f=>M3 (qt8 (d:=Qz true a.Ca n wr c) rfl rfl (qa1 (a:=(0,[])) rfl (qa1 qh9 ⟨∅,f⟩)))) ?_;refine qb1 [.ins false a.Cb [("plan",Qz true a.Ca n wr c),("held",rL n g)],Qz true a.Ca n wr c,r,.u,.non] (λK f=>M3 (mv_to (d:=rL n g) rfl (qa1 (a:=(0,[])) rfl (qa1 qh9 ⟨by show 1<100;decide,f⟩)))) ?_;exact M3 (qn5 (d:=.l false []) rfl (qa1 (a:=(0,[])) rfl (qa1 qh9 ⟨by show 2<100;decide,q⟩)))
theorem qI9:qa9 ["self", "room"] ["self", "room"] (qa4 qn2):=by walk_at "s"
theorem qJ7(T:Txt K mg a):Fx P w K mg base CX0 1 a.f1 a.d1 ["self", "room"] (spX1 a.Cf "room"):=by refine T.d1.F.ok qI9 (λb H Q E h=>?_) (λc A outer s H b Q E j h=>?_);{obtain⟨e,v,rfl,_⟩:=h;rfl};obtain⟨e,v,rfl,d,k⟩:=h;exact⟨_,(qt0 (qaz3 (pv 0) (pv 1))),_,rfl,_,rfl,e,a.Cf,rfl,T.Dp,T.Dc,.inl ⟨d,λf g i=>k f g i⟩⟩
theorem qS9:qa9 ["plan", "keys", "room"] ["plan", "keys", "room"] (qa4 qw1):=by walk_at "s"
def qS0(C:γ):VSp:=A4 λds d=>∃z n wr ps z' ks r,ds=[Qz z C n wr ps,.l z' (Q3 ks),.int r]/\1<=n/\(∀k∈ks,Am k)/\ks.length<=1000/\d=.bl (if wr=true then decide (r=0)&&decide (n<(ks.length:Int)) else decide (n-r<((ks.filter λk=>decide (r<=qd4 n ps k)).length:Int)))
theorem qU6(T:Txt K mg a):VFn P w K mg base 5 a.f19 a.d19 ["plan", "keys", "room"] (qS0 a.Ca):=by refine VFn.mk2 T.d19.F qS9 (wOf [true,true,true]) qb3 (by walk_at "l") (λ_ _ _ _ _ _ _ m=>⟨_,(Ac (sif (tv (Ba rfl (vnm 0) T.Ce.cl T.Cq)) (Ag (An (qa3 (Me (v2 (Ax (qm4 m.u64) (qa8 _)) Bk (vnm 2) Ad) (K7 (v2 (Ax B8 (qa8 _)) Fp (vbi qu3 qu2.ops T.Cz (qa2 (vnm 1) qa6 rfl)) (Ba rfl (vnm 0) T.Ce.cl T.Cg))))))) Aw) (Ag (An (e2v (Ax B8 (qa8 _)) Fp (ebi qu3 qu2.ops T.Cz (Gv (vaV (ecN (NY:=["key", "room", "plan"]) (src:=[none,some 2,some 0]) 1 (blk (λo C s H0 t=>(Bc 0 (show (["key", "room", "plan"]:List Str).Nodup by decide +kernel))) (λo C s H0 t=>(Hr (q2v (Ax Ib (qa8 _)) (Ap Ib (qa8 _)) Kd (qj7 2 T.d11 T.Ce.cl (qr5 T) qn7 (rm m) (vaN 0 Aa)) (vnm 1)))) (λo C s H0 t=>(qb9 (vnm 0))))) Aa))) (v2 (Ak qr1) qq9 (Ba rfl (vnm 0) T.Ce.cl T.Cg) (vnm 2)))))),λE Q G h=>?_⟩);obtain⟨d,⟨z,n,wr,b,f,c,r,rfl,u,v,H,rfl⟩,q⟩:=h;refine At [Qz z a.Ca n wr b,.l f (Q3 c),.int r] rfl ?_;refine qi9 wr (Ay rfl qo3) (λh=>?_) λh=>?_;{rw[if_pos h] at q;have g:f2 gGt (A7 (fx1 Hx) (A5 (rdN 1) λ_=>some [])) (f1 (D.fld a.Ca "rooms") (rdN 0)) [Qz z a.Ca n wr b,.l f (Q3 c),.int r]=some (.bl (decide (n<(c.length:Int)))):=Ah (qD3 rfl) (Ay rfl qd8) (by rw[qh3];rfl);exact qg9 _ (qZ6 (a:=decide (r=0)) rfl g) q};rw[if_neg (by rw[h];decide)] at q;refine qf5 ?_;refine⟨qe8 c,?_⟩;refine qi7 (λι=>∃d,ι=[d,.int r,Qz z a.Ca n wr b]) (Gb λk=>decide (r<=qd4 n b k)) (Q3 c) [] _ (by show 0+(Q3 c).length<big;rw[qh3];unfold big;lia) ⟨_,rfl⟩ ?_ ?_;{rintro y A ι i ⟨d,rfl⟩ R B e;obtain⟨k,j,rfl⟩:=zB8.mp A;refine qK3 (p:=Qz z a.Ca n wr b) (x:=.int k) (d:=.int (qd4 n b k)) rfl (qg6 rfl) rfl rfl ⟨z,n,wr,b,k,rfl,u,v k j,rfl⟩ rfl ?_;have this:=B _ ⟨.int k,rfl⟩;refine qa1 (a:=D.bl (decide (r<=qd4 n b k))) rfl (qa1 (a:=decide (r<=qd4 n b k)) rfl (ite_b (λh=>?_) λh=>?_));{rw[qO4 (p:=λk=>decide (r<=qd4 n b k)) h] at this;exact⟨rfl,e,this⟩};rw[qO5 (p:=λk=>decide (r<=qd4 n b k)) h] at this;have this:R (i++[]) _:=this;rw[zAa] at this;exact this};rintro ι ⟨d,rfl⟩;rw[zB4,qx1];refine qa1 (a:=D.bl (decide (n-r<((c.filter λk=>decide (r<=qd4 n b k)).length:Int)))) ?_ q;show (f2 gSub (f1 (D.fld a.Ca "rooms") (rdN 0)) (rdN 2) [Qz z a.Ca n wr b,.l f (Q3 c),.int r]).bind (gGt (D.int ((Q3 (c.filter λk=>decide (r<=qd4 n b k))).length:Nat)))=_;rw[Ah (Ay rfl qd8) rfl rfl,qh3];rfl
theorem qp4:qa9 ["plan", "keys", "room"] ["plan", "keys"] (qa4 ql3):=by walk_at "s"
def qL5(n:Int)(wr:Bool)(ps:Pr)(ks:List Int)(r:Int):Bool:=if wr=true then decide (r=0)&&decide (n<(ks.length:Int)) else decide (n-r<((ks.filter λk=>decide (r<=qd4 n ps k)).length:Int))
def qP8(n:Int)(wr:Bool)(ps:Pr)(ks:List Int):Option Nat:=(N7 n.toNat).find? λr=>qL5 n wr ps ks (r:Int)
noncomputable def natD:Option Nat->D|none=>.non|some k=>.int (k:Int)
def qE5(C:γ):VSp:=A4 λds d=>∃z n wr ps z' ks,ds=[Qz z C n wr ps,.l z' (Q3 ks)]/\1<=n/\n<=64/\(∀k∈ks,Am k)/\ks.length<=1000/\d=natD (qP8 n wr ps ks)
theorem qF3(T:Txt K mg a):VFn P w K mg base 6 a.f20 a.d20 ["plan", "keys"] (qE5 a.Ca):=by
 refine VFn.mk2 T.d20.F qp4 (wOf [true,true]) qb3 (by walk_at "l") (λ_ _ _ _ _ _ _ t=>⟨_,(Ac (Lb P9 T.D3 (Gv (vaV (qb9 (Ba rfl (vnm 0) T.Ce.cl T.Cg)) Aa)) (Bc 2 qp4.nd) (Ag (sif (te (Af T.d19 (qU6 T) qa0 (rm t) (vaN 0 (vaN 1 (vaN 2 Aa))))) (Ag (An (emv 2))) Aw))) (Ag (An (qa3 A9)))),λg Q u h=>?_⟩);obtain⟨d,⟨z,n,wr,c,o,f,rfl,v,D,y,A,rfl⟩,q⟩:=h;refine At [Qz z a.Ca n wr c,.l o (Q3 f),.u] rfl ?_;refine qc1 (λg=>(∀i,i<n.toNat->qL5 n wr c f (i:Int)=false)/\∃d,g=[Qz z a.Ca n wr c,.l o (Q3 f),d]) (λK p=>?_) ?_;{refine qV6 (Ay rfl qd8) (Mr ⋯ ⋯) ?_;refine qf3 (λi g=>(∀j,j<i->qL5 n wr c f (j:Int)=false)/\∃d,g=[Qz z a.Ca n wr c,.l o (Q3 f),d]) _ 0 _ ⟨λj r=>absurd r (zCn _),_,rfl⟩ ?_ ?_;{rintro j x B g ⟨k,d,rfl⟩ K p;rw[zAl] at k p;obtain⟨r,rfl⟩:=Lj B;refine if_e (b:=qL5 n wr c f (j:Int)) (λQ u q=>Li rfl rfl rfl rfl rfl ⟨z,n,wr,c,o,f,_,rfl,v,y,A,rfl⟩ rfl q) (λs=>?_) (λs=>?_);{have e:qP8 n wr c f=some j:=List.find?_range_eq_some.mpr ⟨s,zAo.mpr r,λi m=>by rw[k i m];rfl⟩;rw[e] at q;exact q};refine p _ ⟨λi m=>?_,_,rfl⟩;rcases Nat.lt_succ_iff_lt_or_eq.mp m with h|rfl;{exact k i h};exact s};rintro g ⟨k,C⟩;refine p _ ⟨λi m=>k i ?_,C⟩;unfold Bo;rw[zAe,zBa,zAl];exact m};rintro g ⟨k,d,rfl⟩;have e:qP8 n wr c f=none:=List.find?_range_eq_none.mpr λi m=>by rw[k i m];rfl
 rw[e] at q;exact q
theorem qp3:qa9 ["plan", "keys", "room"] ["plan", "keys"] (qa4 ql1):=by walk_at "s"
def qO0(n:Int)(wr:Bool)(ps:Pr)(ks:List Int):Prop:=∀r:Nat,r<n.toNat->qL5 n wr ps ks (r:Int)=false
theorem qL4(h1:1<=n)(a:r<n.toNat):qL5 n wr ps ks (r:Int)=true↔Crowd n.toNat wr (Q0 n ps) ks r:=by
 unfold qL5 Crowd;cases wr with
 |true=>simp only[if_true,zBb,zB5];lia|false=>
  have e:(ks.filter λk=>decide ((r:Int)<=qd4 n ps k))=ks.filter λk=>decide (r<=Q0 n ps k):=by apply Oh;intro k _;have:=qO8 (ps:=ps) h1 k;apply zBv.mpr;lia
  simp only[Bool.false_eq_true,if_false,e,zB5];lia
theorem qO0.no{n:Int}{wr:Bool}{ps:Pr}(h:qO0 n wr ps ks)(h1:1<=n)(q:Nat):¬Crowd n.toNat wr (Q0 n ps) ks q:=λz=>by
 have:=h q z.1
 rw[(qL4 h1 z.1).mpr z] at this;cases this
def qE3(C CN:γ):VSp:=λds Q xe=>∃z n wr ps z' ks,ds=[Qz z C n wr ps,.l z' (Q3 ks)]/\1<=n/\n<=64/\(∀k∈ks,Am k)/\ks.length<=1000/\(qO0 n wr ps ks->Q .non ds)/\(∀r:Nat,Crowd n.toNat wr (Q0 n ps) ks r->xe ⟨CN,[("room",.int (r:Nat))]⟩ ds)
theorem qp6(T:Txt K mg a):VFn P w K mg base 7 a.f21 a.d21 ["plan", "keys"] (qE3 a.Ca a.Cf):=by refine VFn.mk2 T.d21.F qp3 (wOf [true,true]) (by walk_at "m") (by walk_at "l") (λ_ _ _ _ _ _ _ f=>⟨_,(Ac (Aj 2 qp3.nd (Af T.d20 (qF3 T) qa0 (rm f) (vaN 0 (vaN 1 Aa)))) (Ag (sif (q2 (Ap qj6 (qa8 _)) qp0 (vnm 2) A9) (Ag (qo7 T.Ex (qJ7 T) (rm f) T.Ea T.d1.b qa0 (qb9 (vnm 2)))) Aw))),λu Q v h=>?_⟩);obtain⟨z,n,wr,c,g,d,rfl,i,j,k,o,q,p⟩:=h;refine At [Qz z a.Ca n wr c,.l g (Q3 d),.u] rfl ?_;refine qb1 [Qz z a.Ca n wr c,.l g (Q3 d),natD (qP8 n wr c d)] (λK s=>?_) ?_;{exact qK4 rfl rfl rfl ⟨z,n,wr,c,g,d,rfl,i,j,k,o,rfl⟩ rfl s};cases e:qP8 n wr c d with|none=>exact if_v rfl nofun λ_=>q λr f=>by simpa using List.find?_range_eq_none.mp e r f|some r=>have t:=List.find?_some e;exact if_v rfl (λ_=>(qt8 rfl rfl ⟨rfl,p r ((qL4 i (zAo.mp (List.mem_of_find?_eq_some e))).mp t)⟩)) nofun
theorem qi1:qa9 ["plan", "rooms", "key", "came", "room", "held"] ["plan", "rooms", "key"] (qa4 qA9):=by walk_at "s"
def qab8(C:γ):VSp:=λds Q _=>∃z n wr ps g S key,ds=[Qz z C n wr ps,rL n g,.int key]/\1<=n/\n<=64/\Am key/\(∀k∈S,Am k)/\Kept n.toNat wr (Q0 n ps) g S/\¬key∈S/\(∃e,Jq n.toNat wr (Q0 n ps) g key e)/\∀came g',Kept n.toNat wr (Q0 n ps) g' (S++[key])->Q (.l false came) [Qz z C n wr ps,rL n g',.int key]
theorem qw5(T:Txt K mg a):VFn P w K mg base 7 a.f22 a.d22 ["plan", "rooms", "key"] (qab8 a.Ca):=by
 refine VFn.mk2 T.d22.F qi1 (wOf [true,true,false]) (by walk_at "m") (by walk_at "l") (λ_ _ _ _ _ _ _ j=>⟨_,(Ac (Aj 3 qi1.nd (qa3 (Bs qa6))) (Ac (Aj 4 qi1.nd (qj7 0 T.d11 T.Ce.cl (qr5 T) qa0 (rm j) (vaN 2 Aa))) (Ac (qay3 P9 (q2 (Ap qj6 (qa8 _)) qp0 (v2 (Av qb4) Al (vnm 1) (vnm 4)) A9) (Ac (Aj 5 qi1.nd (qb9 (v2 (Av qb4) Al (vnm 1) (vnm 4)))) (Ac (sif (te (qj7 0 T.d13 T.Ce.cl (qk2 T) qa0 (rm j) (vaN 4 (vaN 2 (vaN 5 Aa))))) (Ac (Bd (Gj 3 qC9 Qb Qc Qd qf1 (vaV (qa3 (Ga (qa2 (vnm 2) (qa2 (vnm 4) qa6 rfl) rfl))) Aa))) (Ac (Hm (qb9 (vnm 2)) (Gu (vpn 1) (vnm 4))) (Ag (Aj 2 qi1.nd (qb9 (vnm 5)))))) Aw) (Ag (Aj 4 qi1.nd (qa3 (v2 (Ak qr2) qr0 (v2 (Ak qh1) qh0 (vnm 4) Ad) (Ba rfl (vnm 0) T.Ce.cl T.Cg)))))))) (Ac (Bd (Gj 3 qC9 Qb Qc Qd qf1 (vaV (qa3 (Ga (qa2 (vnm 2) (qa2 (vnm 4) qa6 rfl) rfl))) Aa))) (Ac (Hm (qb9 (vnm 2)) (Gu (vpn 1) (vnm 4))) (Ag (An (emv 3)))))))),λo Q J h=>?_⟩);obtain⟨z,n,wr,f,g,S,key,rfl,u,X,s,L,KP,A,⟨e,Fr⟩,q⟩:=h;have M:=G3 (ps:=f) u key;have H:∀x∈S++[key],Am x:=λx v=>by rcases zAf.mp v with h|h;{exact L x h};rw[zAd.mp h];exact s
 have E:(S++[key]).Nodup:=zBs.mpr ⟨KP.h.1,(by simp),λx v y B e=>A (by rw[<-zAd.mp B,<-e];exact v)⟩;refine At [Qz z a.Ca n wr f,rL n g,.int key,.u,.u,.u] rfl ?_;refine qb1 [Qz z a.Ca n wr f,rL n g,.int key,.l false [],.u,.u] (λK i=>i) ?_;refine qb1 [Qz z a.Ca n wr f,rL n g,.int key,.l false [],.int (Q0 n f key:Nat),.u] (λK i=>?_) ?_;{exact qK3 (p:=Qz z a.Ca n wr f) (x:=.int key) (d:=.int (Q0 n f key:Nat)) rfl (qg6 rfl) rfl rfl ⟨z,n,wr,f,key,rfl,u,s,by rw[qO8 u]⟩ rfl i};refine qc1 (λo=>∃g2 c r came t,o=[Qz z a.Ca n wr f,rL n g2,.int c,.l false came,.int (r:Nat),t]/\Row.Walk n.toNat wr (Q0 n f) (S++[key]) key e g2 c r/\g2 r=none/\came.length<=64) (λK i=>?_) ?_;{have W0:=KP.start A Fr;refine qaf5 (λm o=>∃g2 c r came t,o=[Qz z a.Ca n wr f,rL n g2,.int c,.l false came,.int (r:Nat),t]/\Row.Walk n.toNat wr (Q0 n f) (S++[key]) key e g2 c r/\m=Ab n.toNat (Q0 n f key) e-Ab n.toNat (Q0 n f key) r/\came.length+m<=64) _ ⟨g,key,Q0 n f key,[],_,rfl,W0,rfl,by have:=qj3 Fr.1 M;show 0+_<=64;lia⟩ ?_;rintro m o ⟨g2,c,r,came,t,rfl,W,rfl,N⟩ K2 G;have j:=W.hr;cases k:g2 r with|none=>refine qm6 (b:=false) (Ah (Ah rfl rfl (Gc j)) rfl (by rw[k];rfl)) ?_;exact i _ ⟨g2,c,r,came,t,rfl,W,k,⋯⟩|some y=>refine qm6 (b:=true) (Ah (Ah rfl rfl (Gc j)) rfl (by rw[k];rfl)) ?_;have v:wr=false->Q0 n f c<=r:=λh=>(W.ln h).2.1;have B:wr=false->Q0 n f y<=r:=λh=>(W.ln h).2.2 r y j k;have O:Am c:=H c ((W.all c).mpr (.inl rfl));have R:Am y:=H y ((W.all y).mpr (.inr ⟨r,j,k⟩));have Y:=W.lt k;have I:=W.nx k;refine By rfl ?_;refine qb1 [Qz z a.Ca n wr f,rL n g2,.int c,.l false came,.int (r:Nat),.int y] (λK i=>?_) ?_;{exact qA1 (d:=.int y) (Ah rfl rfl (by rw[Gc j,k];rfl)) rfl i};refine qc1 (λo=>∃g3 C came3,o=[Qz z a.Ca n wr f,rL n g3,.int C,.l false came3,.int (r:Nat),.int y]/\Row.Walk n.toNat wr (Q0 n f) (S++[key]) key e g3 C (Row.next n.toNat r)/\came3.length<=came.length+1) (λK i=>?_) ?_;{refine if_e (b:=qH6 n wr f (r:Nat) c y) (λQ J q=>qbc4 (p:=Qz z a.Ca n wr f) (x:=.int (r:Nat)) (y:=.int c) (w:=.int y) rfl (qg6 rfl) rfl rfl rfl rfl rfl rfl ⟨z,n,wr,f,(r:Nat),c,y,rfl,u,⋯,⋯,O,R,rfl⟩ rfl q) (λD=>?_) (λD=>?_);{have U:=(qM2 u j v B).mp D;refine qb1 [Qz z a.Ca n wr f,rL n g2,.int c,.l false (came++[.q [.int c,.int (r:Nat)]]),.int (r:Nat),.int y] (λK i=>?_) ?_;{exact qab4 (ys:=came) (d:=.q [.int c,.int (r:Nat)]) rfl rfl (by show came.length<1000000;lia) i};refine qb1 [Qz z a.Ca n wr f,rL n (Row.set g2 r c),.int c,.l false (came++[.q [.int c,.int (r:Nat)]]),.int (r:Nat),.int y] (λK i=>?_) ?_;{refine qM4 (d:=.int c) (ys:=Q4 n.toNat g2) rfl rfl rfl rfl (Ll j) ?_;rw[qI6];exact i};exact qA1 (d:=.int y) rfl rfl (i _ ⟨Row.set g2 r c,y,_,rfl,W.swap k U,by rw[zAb];exact zA3 _⟩)};exact i _ ⟨g2,c,came,rfl,W.on k (λh=>by rw[(qM2 u j v B).mpr h] at D;cases D),⋯⟩};rintro o ⟨g3,C,came3,rfl,W3,V⟩;refine qA0 (d:=.int (Row.next n.toNat r:Nat)) (Ah (Ah rfl rfl rfl) (Ay rfl qd8) (by rw[G2 ⋯,qaH2 u j])) ?_;exact G _ _ (by rw[I];lia) ⟨g3,C,_,came3,_,rfl,W3,rfl,by rw[I];lia⟩};rintro o ⟨g2,c,r,came,t,rfl,W,k,N⟩;have j:=W.hr;refine qb1 [Qz z a.Ca n wr f,rL n g2,.int c,.l false (came++[.q [.int c,.int (r:Nat)]]),.int (r:Nat),t] (λK i=>?_) ?_;{exact qab4 (ys:=came) (d:=.q [.int c,.int (r:Nat)]) rfl rfl (by show came.length<1000000;lia) i};refine qb1 [Qz z a.Ca n wr f,rL n (Row.set g2 r c),.int c,.l false (came++[.q [.int c,.int (r:Nat)]]),.int (r:Nat),t] (λK i=>?_) ?_;{refine qM4 (d:=.int c) (ys:=Q4 n.toNat g2) rfl rfl rfl rfl (Ll j) ?_;rw[qI6];exact i};exact q _ _ (W.done E k)
theorem qA4:qa9 ["self"] ["self"] (qa4 qj5):=by walk_at "s"
theorem _root_.Row.Kept.perm(KP:Kept n wr hm g S):((N7 n).filterMap g).Perm S:=by refine(Ot ?_ KP.h.1).mpr λk=>?_;{refine List.pairwise_filterMap.mpr (List.Pairwise.imp_of_mem (λ{i j} a d f b l m c e=>?_) Ol);subst e;exact f (KP.o.inj i j b (zAo.mp a) (zAo.mp d) l c)};rw[KP.h.2 k,List.mem_filterMap];exact⟨λ⟨i,a,e⟩=>⟨i,zAo.mp a,e⟩,λ⟨i,a,e⟩=>⟨i,zAo.mpr a,e⟩⟩
noncomputable def Iq(y:D):Option D:=match y with|.int k=>some (.int k)|_=>none
theorem qV3(N:Nat)(g:Nat->Option Int):(Q4 N g).filterMap Iq=Q3 ((N7 N).filterMap g):=by unfold Q4 Q3;rw[Pb,List.map_filterMap];refine congrArg (λf=>Po f (N7 N)) (funext λi=>?_);show Iq (Gf (g i))=(g i).map D.int;cases g i<;>rfl
def qz7(C CP:γ):VSp:=A4 λds d=>∃zr n wr ps g dn,ds=[Au zr C CP n wr ps g dn]/\n<=64/\d=.l false (Q3 ((N7 n.toNat).filterMap g))
theorem qf9(T:Txt K mg a):VFn P w K mg base 1 a.f29 a.d29 ["self"] (qz7 a.Cb a.Ca):=by
 refine VFn.mk2 T.d29.F qA4 (wOf [true]) qb3 (by walk_at "l") (λ_ _ _ _ _ _ _ u=>⟨_,(Ag (An (eAlt (ecP (src:=[none]) (G5 rfl (vpn 0) T.Cc.cl T.Ck) (blk (λi C j H0 m=>(Bc 0 (show (["key"]:List Str).Nodup by decide +kernel))) (λi C j H0 m=>(Hr (q2 (Ap qj6 (qa8 _)) qp0 (vnm 0) A9))) (λi C j H0 m=>(qb9 (vnm 0))))) (ecL (NY:=["key"]) (src:=[none]) (qb9 (Ba rfl (vnm 0) T.Cc.cl T.Ck)) (blk (λi C j H0 m=>(Bc 0 (show (["key"]:List Str).Nodup by decide +kernel))) (λi C j H0 m=>(Hr (q2 (Ap qj6 (qa8 _)) qp0 (vnm 0) A9))) (λi C j H0 m=>(qb9 (vnm 0)))))))),λv Q x h=>?_⟩);obtain⟨d,⟨r,n,wr,s,g,t,rfl,z,rfl⟩,q⟩:=h;refine At [Au r a.Cb a.Ca n wr s g t] rfl ?_;have step:∀(y:D),y∈Q4 n.toNat g->∀(d:D)(c:Ds)(R:Ds->Ds->Prop),(∀ι',(∃d,ι'=[d])->R (c++(Iq y).toList) ι')->c.length<big->gNm 0 y [d] λι1=>ttV (f2 gIsn (rdN 0) (kC .non)) ι1 (λb ι2=>if b=true then Fw (rdN 0) ι2 (λd ι3=>c.length<big/\R (c++[d]) ι3) (λ_ _=>False) else R c ι2) (λ_ _=>False):=λy o d c R p f=>by have this:=p [y] ⟨_,rfl⟩;refine qk4 ?_;rcases Mu o with rfl|⟨k,rfl⟩;{have this:R (c++[]) _:=this;rw[zAa] at this;exact qm6 (b:=false) (Ah rfl rfl rfl) (Il ∅ this)};exact qm6 (b:=true) (Ah rfl rfl rfl) (By rfl (qt8 (d:=.int k) rfl rfl ⟨f,this⟩))
 cases r with|false=>refine qf5 (.inl (qa1 (a:=(0,[1])) (by show (D.fidx a.Cb "held" (rA a n wr s g t)).map (λn=>(0,[n]))=_;rw[qu1];rfl) (qa1 rfl (qa1 rfl ⟨qD4 _ _,λw=>?_⟩))));refine qi7 (λι=>∃d,ι=[d]) Iq _ [] _ (by show 0+_<1000000;rw[qp9];lia) ⟨_,rfl⟩ (λy o ι c ⟨d,e⟩ R p f=>e ▸ step y o d c R p f) ?_;rintro ι ⟨d,rfl⟩;rw[qV3,zB4];exact qa1 (qbf8 rfl) q|true=>refine qf5 (.inr (qt8 (Ay rfl qj0) rfl (qa1 rfl ⟨qD4 _ _,?_⟩)));refine qi7 (λι=>∃d,ι=[d]) Iq _ [] _ (by show 0+_<1000000;rw[qp9];lia) ⟨_,rfl⟩ (λy o ι c ⟨d,e⟩ R p f=>e ▸ step y o d c R p f) ?_;rintro ι ⟨d,rfl⟩;rw[qV3,zB4];exact q
theorem qs9:qa9 ["self", "key"] ["self", "key"] (qa4 qn1):=by walk_at "s"
noncomputable def Jn:Option Int->V|some k=>.int k|none=>.non
theorem qK9(N:Nat)(g:Nat->Option Int):flats (Q4 N g)=some ((N7 N).map λi=>Jn (g i)):=by
 have:∀l:List Nat,flats (l.map λi=>Gf (g i))=some (l.map λi=>Jn (g i)):=λl=>by induction l with|nil=>rfl|cons a l b=>show ((Gf (g a)).flat.bind λv=>(flats (l.map λi=>Gf (g i))).bind λc=>some (v::c))=_;rw[b,zAy];cases g a<;>rfl
 exact this _
noncomputable def Go(N:Nat)(g:Nat->Option Int)(k:Int):Option Nat:=(N7 N).findIdx? λi=>decide (g i=some k)
def Ft(N:Nat)(g:Nat->Option Int)(k:Int):D:=match Go N g k with|some i=>.int (i:Nat)|none=>.non
theorem qaB3:eqV (Jn o) (.int k)=decide (o=some k):=by cases o with|none=>rfl|some a=>exact zBv.mpr ⟨λh=>by rw[h],λh=>P8 h⟩
theorem qY7{k:Int}{g:Nat->Option Int}:∀l:List Nat,B6 (.int k) (l.map λi=>Jn (g i))=l.findIdx? λi=>decide (g i=some k)|[]=>rfl|a::l=>by show (if eqV (Jn (g a)) (.int k)=true then some 0 else (B6 (.int k) (l.map λi=>Jn (g i))).map (· + 1))=_;rw[qaB3,qY7 l,zCk]
theorem qaT6{k:Int}{g:Nat->Option Int}:∀l:List Nat,inV (.int k) (l.map λi=>Jn (g i))=(l.findIdx? λi=>decide (g i=some k)).isSome|[]=>rfl|a::l=>by have b:=qaT6 (k:=k) (g:=g) l;unfold inV at b ⊢;rw[zAy,zCf,b,zCk];have e:=qaB3 (o:=g a) (k:=k);cases h:decide (g a=some k) with|true=>rw[h] at e;simp[e]|false=>rw[h] at e;simp[e]
theorem qX3{g:Nat->Option Int}(h:∀i,i<N->g i≠some k):Ft N g k=.non:=by have:Go N g k=none:=List.findIdx?_eq_none_iff.mpr λi a=>zAz (h i (zAo.mp a));unfold Ft;rw[this]
theorem qy8{g:Nat->Option Int}(hi:i<N)(e:g i=some k):∃j:Nat,Ft N g k=.int (j:Nat):=by unfold Ft;cases h:Go N g k with|some j=>exact⟨j,rfl⟩|none=>have:=List.findIdx?_eq_none_iff.mp h i (zAo.mpr hi);rw[zAi e] at this;cases this
def qI3(C CP:γ):VSp:=A4 λds d=>∃zr n wr ps g dn k,ds=[Au zr C CP n wr ps g dn,.int k]/\Am k/\d=Ft n.toNat g k
theorem qi0(T:Txt K mg a):VFn P w K mg base 4 a.f31 a.d31 ["self", "key"] (qI3 a.Cb a.Ca):=by
 refine VFn.mk2 T.d31.F qs9 (wOf [true,true]) qb3 (by walk_at "l") (λ_ _ _ _ _ _ _ o=>⟨_,(Ac (sif (Bi (te (Af T.d4 (qd3 T) qa0 (rm o) (vaN 1 Aa)))) (Ag (qo7 T.Co (qb2 T) (rm o) T.Cp T.d0.b qa0 (qa3 Ad))) Aw) (Ag (An (eif (q2 (Ap qJ5 (by with_unfolding_all rfl)) Ke (vnm 1) (Ba rfl (vnm 0) T.Cc.cl T.Ck)) (qa3 (vbm qas9 Qb Qe Qf qD0 (Ba rfl (vnm 0) T.Cc.cl T.Ck) (vnm 1) qY8)) (qa3 A9))))),λx Q t h=>?_⟩);obtain⟨d,⟨p,n,wr,r,g,s,k,rfl,u,rfl⟩,q⟩:=h;refine At [Au p a.Cb a.Ca n wr r g s,.int k] rfl ?_;refine Gx (λQ t q=>Lh rfl (Lm u) rfl q) (qf5 ?_);have m:f2 (gInB false) (rdN 1) (f1 (D.fld a.Cb "held") (rdN 0)) [Au p a.Cb a.Ca n wr r g s,.int k]=some (.bl (Go n.toNat g k).isSome):=by refine Ah rfl (Ay rfl qj0) ?_;show ((flats (Q4 n.toNat g)).bind λc=>some (D.bl (if false=true then !inV (.int k) c else inV (.int k) c)))=_;rw[qK9];show some (D.bl (inV (.int k) _))=_;rw[qaT6];rfl
 refine Im m (λh=>?_) λh=>?_;{obtain⟨i,f⟩:=zB0.mp h;refine qn5 (d:=.int (i:Nat)) (Ah (Ay rfl qj0) rfl ?_) ?_;{show ((some (V.int k)).bind λv=>(flats (Q4 n.toNat g)).bind λc=>(B6 v c).map λj=>D.int (j:Nat))=_;rw[qK9];show (B6 (.int k) _).map _=_;rw[qY7];show (Go n.toNat g k).map _=_;rw[f];rfl};unfold Ft at q;rw[f] at q;exact q};refine qn5 rfl ?_;have f:Go n.toNat g k=none:=by cases e:Go n.toNat g k with|none=>rfl|some i=>rw[e] at h;cases h
 unfold Ft at q;rw[f] at q;exact q
theorem qah7:qa9 ["self", "key"] ["self", "key"] (qa4 qJ1):=by walk_at "s"
theorem qL1:D.fidx C "done" (Au false C CP n wr ps g dn)=some 2:=by show (if C=C then List.findIdx? (λq:Str×D=>("done" : Str)==q.1) [("plan",Qz true CP n wr ps),("held",rL n g),("done",.l false dn)] else none)=_;rw[if_pos rfl];rfl
def qag6(C CP:γ):VSp:=λds Q _=>∃n wr ps g dn S k,ds=[Au false C CP n wr ps g dn,.int k]/\1<=n/\n<=64/\Am k/\(∀x∈S,Am x)/\Kept n.toNat wr (Q0 n ps) g S/\¬k∈S/\(∀q,¬Crowd n.toNat wr (Q0 n ps) (S++[k]) q)/\dn.length<=1000/\∀came g',Kept n.toNat wr (Q0 n ps) g' (S++[k])->Q (.l false came) [Au false C CP n wr ps g' (dn++[.q [.str "put",.int k]]),.int k]
theorem qak3(T:Txt K mg a):VFn P w K mg base 8 a.f32 a.d32 ["self", "key"] (qag6 a.Cb a.Ca):=by
 refine VFn.mk2 T.d32.F qah7 (wOf [true,true]) (by walk_at "m") (by walk_at "l") (λ_ _ _ _ _ _ _ s=>⟨_,(Ac (sif (q2v (Ax qj6 (qa8 _)) (Ap qj6 (qa8 _)) qp0 (qj7 0 T.d31 T.Cc.cl (qi0 T) qa0 (rm s) (vaN 1 Aa)) A9) (Ag qaD9) Aw) (Ac (Bd (Af T.d21 (qp6 T) qa0 (rm s) (vaV (qb9 (Ba rfl (vnm 0) T.Cc.cl T.Cj)) (vaV (e2v (Ak qh1) qh0 (qe9 0 T.d29 T.Cc.cl (qf9 T) qa0 (rm s)) (Bs (qa2 (vnm 1) qa6 rfl))) Aa)))) (Ac (Bd (emutP qC9 Qb Qc Qd qf1 (G5 rfl (vpn 0) T.Cc.cl T.Cs) (vaV (qa3 (Ga (qa2 Bh (qa2 (vnm 1) qa6 rfl) rfl))) Aa))) (Ag (An (Af T.d22 (qw5 T) qa0 (rm s) (vaV (qb9 (Ba rfl (vnm 0) T.Cc.cl T.Cj)) (vaB (G5 rfl (vpn 0) T.Cc.cl T.Ck) (vaN 1 Aa))))))))),λM Q N h=>?_⟩);obtain⟨n,wr,b,g,f,S,k,rfl,A,t,u,C,KP,j,E,I,q⟩:=h;have G:=KP.perm;have O:((N7 n.toNat).filterMap g).length<=64:=by have:=List.length_filterMap_le g (N7 n.toNat);rw[zBa] at this;lia
 refine At [rA a n wr b g f,.int k] rfl ?_;refine qj2 false (λQ q=>qq8 ?_) nofun λ_=>?_
 {refine qK3 (p:=rA a n wr b g f) (x:=.int k) (d:=.non) rfl (qc7 rfl) rfl rfl ⟨false,n,wr,b,g,f,k,rfl,u,(qX3 λi J e=>j ((KP.h.2 k).mpr ⟨i,J,e⟩)).symm⟩ rfl ?_;exact qa1 (a:=D.bl false) rfl (qa1 (a:=false) rfl q)};refine qb1 [rA a n wr b g f,.int k] (λK v=>qi6 (qg3 ?_)) ?_;{refine qe1 (y:=Qz true a.Ca n wr b) (Ay rfl qf8) rfl (qd2 (qu5 ?_));refine qm5 (p:=rA a n wr b g f) (d:=kL ((N7 n.toNat).filterMap g)) rfl (qc7 rfl) ⟨false,n,wr,b,g,f,rfl,t,rfl⟩ rfl ?_;refine qa1 (a:=D.l false (Q3 ((N7 n.toNat).filterMap g++[k]))) (qaX1 (z:=false) (z':=false) (B:=[k]) (by show _+1<=1000;lia)) (qb6 ?_);refine⟨true,n,wr,b,false,_,rfl,A,t,λx L=>?_,by rw[zAb];show _+1<=1000;lia,λ_=>v,λr c=>absurd (c.perm (G.append_right [k])) (E r)⟩;rcases zAf.mp L with h|h;{exact C x (G.subset h)};rw[zAd.mp h];exact u};refine qb1 [rA a n wr b g (f++[.q [.str "put",.int k]]),.int k] (λK v=>qi6 ?_) ?_;{refine qak7 (i:=0) (p:=[2]) (ys:=f) (d0:=rA a n wr b g f) (by show (D.fidx a.Cb "done" (rA a n wr b g f)).map (λn=>(0,[n]))=_;rw[qL1];rfl) rfl rfl ?_;exact qc8 (y:=.q [.str "put",.int k]) rfl (qb6 (qa1 (a:=(f++[D.q [.str "put",.int k]],D.non)) (if_pos (show f.length<big by unfold big;lia)) v))};generalize f++[.q [.str "put",.int k]]=o at q ⊢;refine qf5 (qg3 (qe1 (y:=Qz true a.Ca n wr b) (Ay rfl qf8) rfl ?_));refine qa1 (a:=(0,[1])) (by show (D.fidx a.Cb "held" (rA a n wr b g o)).map (λn=>(0,[n]))=_;rw[qu1];rfl) (qa1 (a:=D.l false (Q4 n.toNat g)) rfl ⟨rfl,λw=>?_⟩);refine qc4 (x:=.int k) rfl (qb6 (qa1 (a:=D.int k) rfl ?_));refine⟨true,n,wr,b,g,S,k,rfl,A,t,u,C,KP,j,?_,λcame H K'=>?_⟩;{by_cases h:∃e,Jq n.toNat wr (Q0 n b) g k e;{exact h};obtain⟨q,c⟩:=KP.crowd λe z=>h ⟨e,z⟩;exact absurd c (E q)};refine qa1 (a:=[rA a n wr b H o,.int k]) ?_ (q came H K');show Aq (.pl 0 [1] w::_) _ _=_;rw[qM1 rfl];rfl
theorem qI8:qa9 ["plan", "room"] ["plan", "room"] (qa4 qn0):=by walk_at "s"
def qs6(C:γ):VSp:=A4 λds d=>∃z n wr ps r,ds=[Qz z C n wr ps,.int r]/\d=(if r<n-1 then .int (r+1) else if wr=true then .int 0 else .non)
theorem qt2(T:Txt K mg a):VFn P w K mg base 1 a.f24 a.d24 ["plan", "room"] (qs6 a.Ca):=by refine VFn.mk2 T.d24.F qI8 (wOf [true,true]) qb3 (by walk_at "l") (λ_ _ _ _ _ _ _ e=>⟨_,(Ac (sif (q2 (Ap Jy (qa8 _)) Kc (vnm 1) (v2 (Ak qr1) qq9 (Ba rfl (vnm 0) T.Ce.cl T.Cg) Ad)) (Ag (An (qa3 (v2 (Ak qh1) qh0 (vnm 1) Ad)))) Aw) (Ag (An (eif (tv (Ba rfl (vnm 0) T.Ce.cl T.Cq)) (qa3 Ad) (qa3 A9))))),λf Q g h=>?_⟩);obtain⟨d,⟨z,n,wr,c,r,rfl,rfl⟩,q⟩:=h;refine At [Qz z a.Ca n wr c,.int r] rfl ?_;refine qi9 (decide (r<n-1)) (Ah rfl (Ah (Ay rfl qd8) rfl rfl) rfl) (λh=>?_) λh=>?_;{rw[if_pos (zAh h)] at q;exact qg9 (.int (r+1)) rfl q};rw[if_neg (zBj h)] at q;refine qf5 (Im (b:=wr) (Ay rfl qo3) (λh=>?_) (λh=>?_));{rw[if_pos h] at q;exact qn5 (d:=.int 0) rfl q};rw[if_neg (by rw[h];decide)] at q;exact q
theorem qA3:qa9 ["plan", "rooms", "room"] ["plan", "rooms", "room"] (qa4 qj4):=by walk_at "s"
def qz6(C:γ):VSp:=A4 λds d=>∃z n wr ps z' g x,ds=[Qz z C n wr ps,.l z' (Q4 n.toNat g),x]/\1<=n/\(x=.non/\d=.bl false∨∃r:Nat,r<n.toNat/\x=.int (r:Nat)/\(g r=none/\d=.bl false∨∃k,g r=some k/\Am k/\(wr=false->Q0 n ps k<=r)/\d=.bl (decide (0<Ab n.toNat (Q0 n ps k) r))))
theorem qC4(T:Txt K mg a):VFn P w K mg base 6 a.f25 a.d25 ["plan", "rooms", "room"] (qz6 a.Ca):=by refine VFn.mk2 T.d25.F qA3 (wOf [true,true,true]) qb3 (by walk_at "l") (λ_ _ _ _ _ _ _ b=>⟨_,(Ag (An (Hf (qa3 (v2 (Ax qj6 (qa8 _)) qp0 (vnm 2) A9)) (Hf (qa3 (v2 (Ax qj6 (qa8 _)) qp0 (v2 (Av qb4) Al (vnm 1) (vnm 2)) A9)) (Jr (e2v (Ax B8 (qa8 _)) Fp (qj7 0 T.d12 T.Ce.cl (qk3 T) qa0 (rm b) (vaV (qb9 (v2 (Av qb4) Al (vnm 1) (vnm 2))) (vaN 2 Aa))) Ad)))))),λi Q j h=>?_⟩);obtain⟨d,⟨z,n,wr,c,f,g,x,rfl,e,h⟩,q⟩:=h;refine At [Qz z a.Ca n wr c,.l f (Q4 n.toNat g),x] rfl ?_;rcases h with⟨rfl,rfl⟩|⟨r,b,rfl,h⟩;{exact qf5 (Ha false rfl nofun λ_=>q)};rcases h with⟨hg,rfl⟩|⟨k,hg,hk,hl,rfl⟩;{exact qf5 (Ha true rfl (λ_=>Ha false (Ah (Ah rfl rfl (Gc b)) rfl (by rw[hg];rfl)) nofun λ_=>q) nofun)};refine qf5 (Ha true rfl (λ_=>Ha true (Ah (Ah rfl rfl (Gc b)) rfl (by rw[hg];rfl)) (λ_=>qu5 ?_) nofun) nofun);refine qt3 rfl (qg6 rfl) (qe1 (Ah rfl rfl (by rw[Gc b,hg];rfl)) rfl (qc4 rfl (qb6 (qa1 rfl (qa1 rfl ⟨_,⟨z,n,wr,c,k,(r:Nat),rfl,e,hk,⋯,⋯,rfl⟩,?_⟩)))));rw[qP6 e b hl];refine qa1 rfl ?_;refine qa1 (a:=D.bl (decide (0<((Ab n.toNat (Q0 n c k) r:Nat):Int)))) rfl ?_;rw[zBv.mpr (show (0<((Ab n.toNat (Q0 n c k) r:Nat):Int))↔0<Ab n.toNat (Q0 n c k) r by lia)];exact q
theorem qi2:qa9 ["plan", "rooms", "room", "came", "behind"] ["plan", "rooms", "room"] (qa4 qw0):=by walk_at "s"
noncomputable def qx8(N:Nat)(wr:Bool)(p:Nat):D:=if p+1<N then .int (p+1:Nat) else if wr=true then .int 0 else .non
theorem qax4{n:Int}{wr:Bool}{p:Nat}(a:1<=n)(b:p<n.toNat):(if ((p:Nat):Int)<n-1 then D.int (((p:Nat):Int)+1) else if wr=true then D.int 0 else D.non)=qx8 n.toNat wr p:=by unfold qx8;by_cases h:p+1<n.toNat;{rw[if_pos ⋯,if_pos h];rfl};rw[if_neg ⋯,if_neg h]
theorem qae9{wr:Bool}{p:Nat}(a:p<N):qx8 N wr p=.int (Row.next N p:Nat)∨(qx8 N wr p=.non/\wr=false/\p+1=N):=by unfold qx8;have h:=nor N p;by_cases e:p+1<N;{rw[if_pos e];exact .inl (by rw[show Row.next N p=p+1 by lia])};rw[if_neg e];cases wr with|true=>exact .inl (by rw[if_pos rfl,show Row.next N p=0 by lia];rfl)|false=>exact .inr ⟨rfl,rfl,⋯⟩
def qR9(C:γ):VSp:=λds Q _=>∃z n wr ps g S k r,ds=[Qz z C n wr ps,rL n g,.int (r:Nat)]/\1<=n/\n<=64/\(∀x∈S,Am x)/\Kept n.toNat wr (Q0 n ps) g S/\r<n.toNat/\g r=some k/\∀came g',Kept n.toNat wr (Q0 n ps) g' (S.filter λx=>decide (x≠k))->Q (.l false came) [Qz z C n wr ps,rL n g',.int (r:Nat)]
abbrev qq1 (z) (a:Adr) (n:Int) (wr:Bool) (ps:Pr) (r) (J) (came) (x) (nx) (p1:D):=([Qz z a.Ca n wr ps,p1,.int (rot n.toNat r J:Nat),.l false (came++[D.q [.int x,.int (rot n.toNat r J:Nat)]]),.int (nx:Nat)]:Ds)
theorem qC5(T:Txt K mg a):VFn P w K mg base 7 a.f26 a.d26 ["plan", "rooms", "room"] (qR9 a.Ca):=by
 refine VFn.mk2 T.d26.F qi2 (wOf [true,true,false]) (by walk_at "m") (by walk_at "l") (λ_ _ _ _ _ _ _ b=>⟨_,(Ac (Aj 3 qi2.nd (qa3 (Bs qa6))) (Ac (Hm (qa3 A9) (Gu (vpn 1) (vnm 2))) (Ac (Aj 4 qi2.nd (Af T.d24 (qt2 T) qa0 (rm b) (vaN 0 (vaN 2 Aa)))) (Ac (qay3 P9 (te (Af T.d25 (qC4 T) qa0 (rm b) (vaN 0 (vaN 1 (vaN 4 Aa))))) (Ac (Bd (Gj 3 qC9 Qb Qc Qd qf1 (vaV (qa3 (Ga (qa2 (v2 (Av qb4) Al (vnm 1) (vnm 4)) (qa2 (vnm 2) qa6 rfl) rfl))) Aa))) (Ac (Hm (qb9 (v2 (Av qb4) Al (vnm 1) (vnm 4))) (Gu (vpn 1) (vnm 2))) (Ac (Hm (qa3 A9) (Gu (vpn 1) (vnm 4))) (Ac (Aj 2 qi2.nd (qb9 (vnm 4))) (Ag (Aj 4 qi2.nd (Af T.d24 (qt2 T) qa0 (rm b) (vaN 0 (vaN 2 Aa)))))))))) (Ag (An (emv 3))))))),λG Q Y h=>?_⟩);obtain⟨z,n,wr,f,g,S,k,r,rfl,I,n2,hS,KP,b,Z,q⟩:=h;refine At [Qz z a.Ca n wr f,rL n g,.int (r:Nat),.u,.u] rfl ?_;refine qb1 [Qz z a.Ca n wr f,rL n g,.int (r:Nat),.l false [],.u] (λK t=>t) ?_;have e0:Q4 n.toNat (λj=>if j=r then none else g j)=Q4 n.toNat (As n.toNat g r 0):=ql7 λi hi=>(qz8 b hi).symm;refine qb1 [Qz z a.Ca n wr f,rL n (As n.toNat g r 0),.int (rot n.toNat r 0:Nat),.l false [],.u] (λK t=>?_) ?_;{refine qW9 (d:=.non) (ys:=Q4 n.toNat g) rfl rfl rfl (Ll b) ?_;rw[show (Q4 n.toNat g).set r .non=Q4 n.toNat (λj=>if j=r then none else g j) from qah5 (o:=none),e0];rw[qai3 b] at t;exact t};have bh:∀(J:Nat)(K:Ds->Prop)(Y:XKd)(H L:D),J<n.toNat->K [Qz z a.Ca n wr f,rL n (As n.toNat g r J),.int (rot n.toNat r J:Nat),H,qx8 n.toNat wr (rot n.toNat r J)]->qk9 (qs6 a.Ca) [] (tbN 0 (tbN 2 A6)) [Qz z a.Ca n wr f,rL n (As n.toNat g r J),.int (rot n.toNat r J:Nat),H,L] (λd a0=>K (a0.set 4 d)) Y:=λJ K Y H L hJ t=>
  qK4 (x:=Qz z a.Ca n wr f) (y:=.int (rot n.toNat r J:Nat)) rfl rfl rfl ⟨z,n,wr,f,_,rfl,(qax4 I (qT8 b hJ)).symm⟩ rfl t
 refine qb1 [Qz z a.Ca n wr f,rL n (As n.toNat g r 0),.int (rot n.toNat r 0:Nat),.l false [],qx8 n.toNat wr (rot n.toNat r 0)] (λK t=>qe0 (bh 0 _ _ _ _ ⋯ t)) ?_;refine qc1 (λG=>∃J came L,G=[Qz z a.Ca n wr f,rL n (As n.toNat g r J),.int (rot n.toNat r J:Nat),.l false came,L]/\Sh n.toNat (Q0 n f) g r J/\Stop n.toNat wr (Q0 n f) g r J) (λK t=>?_) ?_
 .refine qaf5 (λm G=>∃J came,G=[Qz z a.Ca n wr f,rL n (As n.toNat g r J),.int (rot n.toNat r J:Nat),.l false came,qx8 n.toNat wr (rot n.toNat r J)]/\Sh n.toNat (Q0 n f) g r J/\came.length=J/\m+J=n.toNat) n.toNat ⟨0,[],rfl,Sh.start b,rfl,⋯⟩ ?_;rintro m G ⟨J,came,rfl,v,hc,hm⟩ K2 a1;have hJ:=v.hJ;have hp:=qT8 b hJ;rcases qae9 (wr:=wr) hp with V|⟨V,hw,hl⟩
  .have s:=Row.qm3 hp;have M:∀x,As n.toNat g r J (Row.next n.toNat (rot n.toNat r J))=some x->0<Ab n.toNat (Q0 n f x) (Row.next n.toNat (rot n.toNat r J))->J+1<n.toNat/\g (rot n.toNat r (J+1))=some x:=λx s A=>by by_cases p:J+1<n.toNat;{rw[qC7 b p,qz9 b p] at s;exact⟨p,s⟩};rw[qx4 b ⋯] at s A;by_cases N:0<J;{rw[qG1 b N] at s;have:=v.round KP.o KP.c b Z ⋯ s N;lia};have hz:J=0:=⋯;subst hz;rw[qz8 b b,if_pos rfl] at s;cases s
   have C:∀x,As n.toNat g r J (Row.next n.toNat (rot n.toNat r J))=some x->Am x/\(wr=false->Q0 n f x<=Row.next n.toNat (rot n.toNat r J)):=λx s=>by by_cases p:J+1<n.toNat;{have e:=qC7 b p;rw[e,qz9 b p] at s;exact⟨hS x ((KP.h.2 x).mpr ⟨_,qT8 b p,s⟩),λhw=>by rw[e];exact KP.ln hw _ x (qT8 b p) s⟩};have e:=qx4 b (show J+1=n.toNat by lia);rw[e] at s ⊢;by_cases N:0<J;{rw[qG1 b N] at s;have A:=v.round KP.o KP.c b Z ⋯ s N;exact⟨hS x ((KP.h.2 x).mpr ⟨_,Row.qm3 b,s⟩),λ_=>by rw[(qc2 (G3 I x) b).mp A];exact zA3 _⟩};have hz:J=0:=⋯;subst hz;rw[qz8 b b,if_pos rfl] at s;cases s
   generalize E:Row.next n.toNat (rot n.toNat r J)=u at s M C V;rw[V];cases B:As n.toNat g r J u with
   |none=>refine Li (x:=Qz z a.Ca n wr f) (y:=rL n (As n.toNat g r J)) (w:=.int (u:Nat)) (d:=.bl false) rfl rfl rfl rfl rfl ⟨z,n,wr,f,false,_,_,rfl,I,.inr ⟨u,s,rfl,.inl ⟨B,rfl⟩⟩⟩ rfl ?_;exact t _ ⟨J,came,_,rfl,v,.inr λx h=>by rw[E,B] at h;cases h⟩|some x=>
    refine Li (x:=Qz z a.Ca n wr f) (y:=rL n (As n.toNat g r J)) (w:=.int (u:Nat)) rfl rfl rfl rfl rfl ⟨z,n,wr,f,false,_,_,rfl,I,.inr ⟨u,s,rfl,.inr ⟨x,B,(C x B).1,(C x B).2,rfl⟩⟩⟩ rfl ?_;refine qa1 (a:=decide (0<Ab n.toNat (Q0 n f x) u)) rfl (ite_b (λh=>?_) λh=>?_)
    .have A:=zAh h;obtain⟨p,O⟩:=M x B A;have R:u=rot n.toNat r (J+1):=by rw[<-E,qC7 b p]
     have U:∀H,f2 gIx (rdN 1) (rdN 4) [Qz z a.Ca n wr f,rL n (As n.toNat g r J),.int (rot n.toNat r J:Nat),H,.int (u:Nat)]=some (.int x):=λH=>Ah rfl rfl (by rw[Gc s,B];rfl);refine qb1 (qq1 z a n wr f r J came x u (rL n (As n.toNat g r J))) (λK t=>qi6 ?_) ?_;{exact qab4 (ys:=came) (d:=.q [.int x,.int (rot n.toNat r J:Nat)]) rfl (qaM6 (U _) rfl rfl rfl) (by unfold big;lia) t};refine qb1 (qq1 z a n wr f r J came x u (rL n (Row.set (As n.toNat g r J) (rot n.toNat r J) x))) (λK t=>?_) ?_;{refine qM4 (d:=.int x) (ys:=Q4 n.toNat (As n.toNat g r J)) (U _) rfl rfl rfl (Ll hp) ?_;rw[qI6];exact t};refine qb1 (qq1 z a n wr f r J came x u (rL n (As n.toNat g r (J+1)))) (λK t=>?_) ?_
     .refine qW9 (d:=.non) (ys:=Q4 n.toNat (Row.set (As n.toNat g r J) (rot n.toNat r J) x)) rfl rfl rfl (Ll s) ?_;rw[show (Q4 n.toNat (Row.set (As n.toNat g r J) (rot n.toNat r J) x)).set u .non=Q4 n.toNat (λj=>if j=u then none else Row.set (As n.toNat g r J) (rot n.toNat r J) x j) from qah5 (o:=none)];have e:Q4 n.toNat (λj=>if j=u then none else Row.set (As n.toNat g r J) (rot n.toNat r J) x j)=Q4 n.toNat (As n.toNat g r (J+1)):=ql7 λi hi=>by rw[qah3 b p hi,R];by_cases W:i=rot n.toNat r (J+1);{rw[if_pos W,if_pos W]};rw[if_neg W,if_neg W];by_cases X:i=rot n.toNat r J;{rw[if_pos X,X,Row.qc3,O]};rw[if_neg X,Row.qe2 X]
      rw[e];exact t
     refine qb1 [Qz z a.Ca n wr f,rL n (As n.toNat g r (J+1)),.int (u:Nat),.l false (came++[D.q [.int x,.int (rot n.toNat r J:Nat)]]),.int (u:Nat)] (λK t=>qA1 (d:=.int (u:Nat)) rfl rfl t) ?_;rw[R] at A ⊢;refine qe0 (bh (J+1) _ _ _ _ p (a1 (m-1) _ ⋯ ⟨J+1,_,rfl,v.step p O A,by rw[zAb,hc];rfl,⋯⟩))
    have A:=zBj h;exact t _ ⟨J,came,_,rfl,v,.inr λy h=>by rw[E] at h ⊢;rw[B] at h;cases h;lia⟩
  rw[V];refine Li (x:=Qz z a.Ca n wr f) (y:=rL n (As n.toNat g r J)) (w:=.non) (d:=.bl false) rfl rfl rfl rfl rfl ⟨z,n,wr,f,false,_,_,rfl,I,.inl ⟨rfl,rfl⟩⟩ rfl ?_;exact t _ ⟨J,came,_,rfl,v,.inl ⟨hw,hl⟩⟩
 rintro G ⟨J,came,L,rfl,v,st⟩;exact qf5 (mv_to rfl (q came _ (KP.taken b Z v st)))
theorem qG4:qa9 ["self", "key", "room"] ["self", "key"] (qa4 qB1):=by walk_at "s"
def qac0(C CP:γ):VSp:=λds Q _=>∃n wr ps g dn S k,ds=[Au false C CP n wr ps g dn,.int k]/\1<=n/\n<=64/\(∀x∈S,Am x)/\Kept n.toNat wr (Q0 n ps) g S/\k∈S/\dn.length<=1000/\∀(r:Nat) came g',Kept n.toNat wr (Q0 n ps) g' (S.filter λx=>decide (x≠k))->Q (.q [.int (r:Nat),.l false came]) [Au false C CP n wr ps g' (dn++[.q [.str "take",.int k]]),.int k]
theorem qay6{g:Nat->Option Int}(h:Ft N g k=.int (j:Nat)):j<N/\g j=some k:=by unfold Ft at h;cases e:Go N g k with|none=>rw[e] at h;cases h|some i=>rw[e] at h;have h:=h;injection h with h;have h:i=j:=⋯;subst h;obtain⟨a,b,_⟩:=List.findIdx?_eq_some_iff_getElem.mp e;rw[zBa] at a;rw[List.getElem_range] at b;exact⟨a,zAh b⟩
theorem qo2(T:Txt K mg a):VFn P w K mg base 8 a.f33 a.d33 ["self", "key"] (qac0 a.Cb a.Ca):=by
 refine VFn.mk2 T.d33.F qG4 (wOf [true,true]) (by walk_at "m") (by walk_at "l") (λ_ _ _ _ _ _ _ u=>⟨_,(Ac (Aj 2 qG4.nd (qj7 0 T.d31 T.Cc.cl (qi0 T) qa0 (rm u) (vaN 1 Aa))) (Ac (sif (q2 (Ap Gs (qa8 _)) Gr (vnm 2) A9) (Ag qaD9) Aw) (Ac (Bd (emutP qC9 Qb Qc Qd qf1 (G5 rfl (vpn 0) T.Cc.cl T.Cs) (vaV (qa3 (Ga (qa2 Bh (qa2 (vnm 1) qa6 rfl) rfl))) Aa))) (Ag (An (Jj (vaV (qb9 (vnm 2)) (vaV (Af T.d26 (qC5 T) qa0 (rm u) (vaV (qb9 (Ba rfl (vnm 0) T.Cc.cl T.Cj)) (vaB (G5 rfl (vpn 0) T.Cc.cl T.Ck) (vaN 2 Aa)))) Aa)))))))),λI Q J h=>?_⟩);obtain⟨n,wr,c,g,f,S,k,rfl,C,E,v,KP,z,G,q⟩:=h;obtain⟨i,H,e⟩:=(KP.h.2 k).mp z;obtain⟨j,A⟩:=qy8 H e;obtain⟨r,s⟩:=qay6 A;refine At [rA a n wr c g f,.int k,.u] rfl ?_;refine qb1 [rA a n wr c g f,.int k,.int (j:Nat)] (λK t=>?_) ?_;{exact qe0 (qK3 (p:=rA a n wr c g f) (x:=.int k) (d:=.int (j:Nat)) rfl (qc7 rfl) rfl rfl ⟨false,n,wr,c,g,f,k,rfl,v k z,A.symm⟩ rfl t)};refine qj2 false (λQ q=>qm6 (b:=false) rfl q) nofun λ_=>?_
 refine qb1 [rA a n wr c g (f++[.q [.str "take",.int k]]),.int k,.int (j:Nat)] (λK t=>qi6 ?_) ?_;{refine qak7 (i:=0) (p:=[2]) (ys:=f) (d0:=rA a n wr c g f) (by show (D.fidx a.Cb "done" (rA a n wr c g f)).map (λn=>(0,[n]))=_;rw[qL1];rfl) rfl rfl ?_;exact qc8 rfl (qb6 (qa1 (if_pos (show f.length<big by unfold big;lia)) t))};generalize f++[.q [.str "take",.int k]]=o at q ⊢;refine qf5 (Mw (qe1 (y:=.int (j:Nat)) rfl rfl (qd2 (qg3 (qe1 (Ay rfl qf8) rfl ?_)))));refine qa1 (a:=(0,[1])) (by show (D.fidx a.Cb "held" (rA a n wr c g o)).map (λn=>(0,[n]))=_;rw[qu1];rfl) (qa1 rfl ⟨rfl,λw=>?_⟩);refine qc4 (x:=.int (j:Nat)) rfl (qb6 (qa1 (a:=D.int (j:Nat)) rfl ?_));refine⟨true,n,wr,c,g,S,k,j,rfl,C,E,v,KP,r,s,λcame B K'=>?_⟩;refine qa1 (a:=[rA a n wr c B o,.int k,.int (j:Nat)]) ?_ (qb6 ⟨lt2,q j came B K'⟩);show Aq (.pl 0 [1] w::_) _ _=_;rw[qM1 rfl];rfl
theorem qy4:qa9 ["self"] ["self"] (qa4 qi4):=by walk_at "s"
def qy2(C CP:γ):VSp:=A4 λds d=>∃zr n wr ps g dn,ds=[Au zr C CP n wr ps g dn]/\d=.l false (Q4 n.toNat g)
theorem qb5(T:Txt K mg a):VFn P w K mg base 1 a.f28 a.d28 ["self"] (qy2 a.Cb a.Ca):=by refine VFn.mk2 T.d28.F qy4 (wOf [true]) qb3 (by walk_at "l") (λ_ _ _ _ _ _ _ f=>⟨_,(Ag (An (qa3 (Iw qg7 qH5.ops T.D1 (qa2 (Ba rfl (vnm 0) T.Cc.cl T.Ck) qa6 rfl))))),λi Q j h=>?_⟩);obtain⟨d,⟨b,n,wr,c,g,e,rfl,rfl⟩,q⟩:=h;refine At [Au b a.Cb a.Ca n wr c g e] rfl ?_;refine qg9 (rL n g) ?_ q;unfold A7 A5;rw[Ay rfl qj0];exact qk5 (qD4 _ _)
theorem qG3:qa9 ["self", "deed"] ["self"] (qa4 qB0):=by walk_at "s"
def qR5:Sp:=λvs H Q _=>∃x t,vs=[x]/\Bf H x=some t/\Q (.bl (L8 x)) H
theorem qU3(T:Txt K mg a):Fx P w K mg base CX0 1 a.f2 a.d2 ["thing"] qR5:=by
 refine T.d2.F.ok qG2 (λd H Q E h=>?_) (λf A outer s H d Q E g h=>?_);{obtain⟨x,t,rfl,_⟩:=h;rfl};obtain⟨x,t,rfl,b,q⟩:=h;refine⟨_,(qt0 (Kv (qas8 (cbi qi8 T.Cd (qc6 (pv 0) (qc6 (qas6 "int" T.Ew) qk1))) (qas4 (qaP5 (cbi qi8 T.Cd (qc6 (pv 0) (qc6 (qas6 "bool" T.Ej) qk1)))))))),?_⟩;refine⟨_,rfl,x,_,t,rfl,b,∅,_,rfl,?_⟩;rw[(qaI4 b)];refine ite2 (λc=>⟨_,rfl,x,_,t,rfl,b,∅,_,rfl,?_⟩) (λc=>?_);{rw[(qau1 b)];cases x<;>first|exact q|(simp[L8] at c)};have:L8 x=false:=by cases e:L8 x with|false=>rfl|true=>rw[e] at c;exact absurd rfl c
 rw[this] at q;exact q
def qs5:Sp:=λvs H Q _=>∃x t l m,vs=[x,.int l,.int m]/\Bf H x=some t/\Q (.bl (qax7 l m x)) H
theorem qt1(T:Txt K mg a):Fx P w K mg base CX0 2 a.f3 a.d3 ["thing", "least", "most"] qs5:=by refine T.d3.F.ok qk0 (λc H Q E h=>?_) (λd A outer s H c Q E e h=>?_);{obtain⟨x,t,l,m,rfl,_⟩:=h;rfl};obtain⟨x,t,l,m,rfl,f,q⟩:=h;refine⟨_,(qt0 (Kv (qas8 (J0 T.d2 (qU3 T) (rm e) (qc6 (pv 0) qk1)) (qas4 (qaj5 I9 I9 (pv 1) (pv 0) (pv 2)))))),?_⟩;refine⟨_,rfl,x,t,rfl,f,_,rfl,?_⟩;cases x with|int i=>refine iteT ⟨_,rfl,_,rfl,_,_,rfl,rfl,_,rfl,?_⟩;by_cases b:l<=i;{rw[zAi b];refine iteT ⟨_,rfl,_,_,rfl,rfl,?_⟩;have q:Q (.bl (decide (l<=i)&&decide (i<=m))) H:=q;rw[zAi b,Bool.true_and] at q;exact q};rw[zAz b];refine iteF ?_;have q:Q (.bl (decide (l<=i)&&decide (i<=m))) H:=q;rw[zAz b,Bool.false_and] at q;exact q|_=>exact iteF q
def qM5:Sp:=λvs H Q _=>∃x t,vs=[x]/\Bf H x=some t/\Q (.bl (numV x)) H
theorem qN6(T:Txt K mg a):Fx P w K mg base CX0 3 a.f4 a.d4 ["thing"] qM5:=by refine T.d4.F.ok qA2 (λb H Q E h=>?_) (λc A outer s H b Q E d h=>?_);{obtain⟨x,t,rfl,_⟩:=h;rfl};obtain⟨x,t,rfl,e,q⟩:=h;exact⟨_,(qt0 (Kv (J0 T.d3 (qt1 T) (rm d) (qc6 (pv 0) (qc6 qN3 (qc6 (qaz7 T.Db) qk1)))))),(⟨_,rfl,x,t,_,_,rfl,e,q⟩)⟩
def Ku(C:γ)(x y:D):Option D:=match y with
 |.int k=>if (D.int k).num=true then (D.fld C "held" x).bind λl=>match l with|.l _ ys=>((flats ys).map λa=>match B6 (.int k) a with|some j=>.int (j:Nat)|none=>.non)|_=>none else none
 |_=>none
theorem qaA7{v:V}:∀a:List V,inV v a=(B6 v a).isSome|[]=>rfl|y::r=>by have b:=qaA7 (v:=v) r;unfold inV at b ⊢;rw[zCf,b];show _=(if eqV y v=true then some 0 else (B6 v r).map (· + 1)).isSome;cases eqV y v<;>simp
theorem qas1{zr:Bool}{C CP:γ}{n:Int}{wr:Bool}{ps:Pr}{g:Nat->Option Int}{dn:Ds}(a:Am k):Ku C (Au zr C CP n wr ps g dn) (.int k)=some (Ft n.toNat g k):=by show (if (D.int k).num=true then (D.fld C "held" (Au zr C CP n wr ps g dn)).bind _ else none)=_;rw[if_pos (show (D.int k).num=true from qaR3.mpr a),qj0];show (flats (Q4 n.toNat g)).map _=_;rw[qK9];show some (match B6 (.int k) ((N7 n.toNat).map λi=>Jn (g i)) with|some j=>D.int (j:Nat)|none=>.non)=_;rw[qY7];rfl
theorem qF2(T:Txt K mg a):Fx P w K mg base CX0 4 a.f31 a.d31 ["self", "key"] (spPu (Ku a.Cb)):=by
 refine T.d31.F.ok qs9 (λc H Q E h=>?_) (λR A outer s H c Q E S h=>?_)
 . obtain⟨F,u,x,d,e,o,A,B,w,rfl,_⟩:=h
   rfl
 obtain⟨F,u,x,d,e,o,A,B,w,rfl,U,V,b,t,q⟩:=h;cases o with
 |int k=>
   cases V;have b:(if (D.int k).num=true then (D.fld a.Cb "held" e).bind λl=>match l with
     |.l _ g=>(flats g).map λf=>match B6 (.int k) f with
       |some j=>D.int (j:Nat)
       |none=>.non
     |_=>none else none)=some d:=b
   by_cases i:(D.int k).num=true
   . rw[if_pos i] at b
     cases m:D.fld a.Cb "held" e with
     |none=>rw[m] at b;cases b
     |some l=>
     rw[m] at b;obtain⟨p,C,y,G,v,rfl,I,J,L,M,B1,W⟩:=qaQ5 (K:=K) T.Cc.cl T.Ck F H u e A l (λv H'=>∃B,Q8 F H' v l B) U m (λv H' B' r _ _=>⟨B',r⟩);cases l with
     |l z g=>
       have b:((flats g).map λf=>match B6 (.int k) f with
         |some j=>D.int (j:Nat)
         |none=>.non)=some d:=b
       obtain⟨f,X,b⟩:=zA8.mp b;obtain⟨N,c,A3,rfl,n,Y,_⟩:=W.lst_inv;obtain⟨rfl,O⟩:=Y.flats X;refine⟨_,(qT9 (ps_if (qaO2 (qaE7 (J0 T.d4 (qN6 T) (rm S) (qc6 (pv 1) qk1))))
   (qt0 qaF1)
   qaz2)
   (qt0 (Kv (qaj3 (qaz1 qJ5 (pv 1) (qas5 (pv 0) rfl) (by with_unfolding_all rfl)) (Jz Qb Qe Qf qD0 (qas5 (pv 0) rfl) (qc6 (pv 1) qk1)) qaP6)))),?_⟩
       refine⟨_,rfl,.int k, "int",rfl,rfl,_,rfl,?_⟩;rw[show numV (.int k)=true from i];refine iteF ⟨_,rfl,_,rfl,p,C,y,G,_,rfl,I,J,L,M,N,c,rfl,.inl (SqL.of n),rfl,O,_,rfl,?_⟩;rw[qaA7];cases e2:B6 (.int k) c with
       |some j=>
         rw[e2] at b;have b:=b;subst b;cases t;obtain⟨Z,i1,i2,i3⟩:=qan0 e2;exact iteT ⟨_,rfl,p,C,y,G,_,rfl,I,J,L,M,.inl ⟨rfl,_,SqL.of n⟩,_,rfl,N,c,.int k,j,Z,rfl,rfl,n,rfl,O,i1,i2,i3,q⟩
       |none=>
         rw[e2] at b;have b:D.non=d:=b;subst b;cases t;exact iteF q
     |_=>cases b
   rw[if_neg i] at b;cases b
 |_=>cases b
def qab9(C CP:γ):VSp:=λds Q _=>∃n wr ps g dn S,ds=[Au false C CP n wr ps g dn]/\1<=n/\n<=64/\(∀x∈S,Am x)/\Kept n.toNat wr (Q0 n ps) g S/\(dn=[]/\Q (.bl false) ds∨∃a k,Am k/\(dn=a++[.q [.str "put",.int k]]/\k∈S/\(∀g',Kept n.toNat wr (Q0 n ps) g' (S.filter λx=>decide (x≠k))->Q (.bl true) [Au false C CP n wr ps g' a])∨dn=a++[.q [.str "take",.int k]]/\¬k∈S/\(∀q,¬Crowd n.toNat wr (Q0 n ps) (S++[k]) q)/\∀g',Kept n.toNat wr (Q0 n ps) g' (S++[k])->Q (.bl true) [Au false C CP n wr ps g' a]))
theorem qw6(T:Txt K mg a):VFn P w K mg base 8 a.f34 a.d34 ["self"] (qab9 a.Cb a.Ca):=by
 refine VFn.mk2 T.d34.F qG3 (wOf [true]) (by walk_at "m") (by walk_at "l") (λ_ _ _ _ _ _ _ B=>⟨_,(Ac (sif (q2 (Ap (qm4 B.u64) (qa8 _)) Bk (vbi qu3 qu2.ops T.Cz (qa2 (Ba rfl (vnm 0) T.Cc.cl T.Cs) qa6 rfl)) Ad) (Ag (An (qa3 vbl))) Aw) (Ac (Aj 1 qG3.nd (qbe7 qbb9 Qb Qp F.type_list_pop qbc0 (G5 rfl (vpn 0) T.Cc.cl T.Cs))) (Ac (sif (q2 (Ap (qm4 B.u64) (qa8 _)) Bk (v2 (Av qb4) Al (vnm 1) Ad) Bh) (Ag (Bd (Af T.d26 (qC5 T) qa0 (rm B) (vaV (qb9 (Ba rfl (vnm 0) T.Cc.cl T.Cj)) (vaBV (G5 rfl (vpn 0) T.Cc.cl T.Ck) (qaX7 0 T.d31 T.Cc.cl (qF2 T) (rm B) (v2 (Av qb4) Al (vnm 1) Ad))))))) (Ag (Bd (Af T.d22 (qw5 T) qa0 (rm B) (vaV (qb9 (Ba rfl (vnm 0) T.Cc.cl T.Cj)) (vaB (G5 rfl (vpn 0) T.Cc.cl T.Ck) (vaV (qb9 (v2 (Av qb4) Al (vnm 1) Ad)) Aa))))))) (Ag (An (qa3 vbl)))))),λv Q E h=>?_⟩);obtain⟨n,wr,o,g,A,S,rfl,J,L,M,KP,h⟩:=h;have s:∀(A:Ds) N,f2 gEq (A7 (fx1 Hx) (A5 (f1 (D.fld a.Cb "done") (rdN 0)) λ_=>some [])) (kC (.int 0)) [rA a n wr o g A,N]=some (.bl (((A.length:Nat):Int)==0)):=λA N=>by refine Ah (x:=.int (A.length:Nat)) (y:=.int 0) ?_ rfl rfl;unfold A7 A5;rw[Ay rfl qX4];rfl
 refine At [rA a n wr o g A,.u] rfl ?_;have u:∀(f:Ds)(d:D)(K:Ds->Prop)(E:XKd),D.imm d=true->K [rA a n wr o g f,d]->G8 gPop (λv=>(D.fidx a.Cb "done" (rA a n wr o g (f++[d]))).map λn=>(0,[n])) A6 [rA a n wr o g (f++[d]),.u] (λd G=>K (G.set 1 d)) E:=λf d K E _ t=>by refine qak7 (i:=0) (p:=[2]) (ys:=f++[d]) (d0:=rA a n wr o g (f++[d])) (by show (D.fidx a.Cb "done" (rA a n wr o g (f++[d]))).map (λn=>(0,[n]))=_;rw[qL1];rfl) rfl rfl (qb6 (qa1 (a:=(f,d)) ?_ t));show ((f++[d])[(f++[d]).length-1]?).map (λR=>((f++[d]).dropLast,R))=_;rw[zAb,show f.length+[d].length-1=f.length from rfl,List.getElem?_append_right (zA3 _),Nat.sub_self,Oo];rfl
 rcases h with⟨rfl,q⟩|⟨f,k,hk,h⟩;{exact qi9 true (s [] _) (λ_=>qg9 (.bl false) rfl q) nofun};have C:∀d:D,((((f++[d]).length:Nat):Int)==0)=false:=λd=>by rw[zAb];exact zBl.mpr (by show ((f.length+1:Nat):Int)≠0;lia)
 rcases h with⟨rfl,hin,q⟩|⟨rfl,nin,nc,q⟩
 .refine qi9 false ((s _ _).trans (by rw[C])) nofun λ_=>?_
  refine qb1 [rA a n wr o g f,.q [.str "put",.int k]] (λK t=>qe0 (u f _ K _ rfl t)) ?_;obtain⟨i,U,e⟩:=(KP.h.2 k).mp hin;obtain⟨j,O⟩:=qy8 U e;obtain⟨H,I⟩:=qay6 O;refine qc1 (λv=>∃r,v=[rA a n wr o r f,.q [.str "put",.int k]]/\Kept n.toNat wr (Q0 n o) r (S.filter λx=>decide (x≠k))) (λK t=>if_v (b:=true) rfl (λ_=>qi6 (qg3 ?_)) nofun) ?_;{refine qe1 (y:=Qz true a.Ca n wr o) (Ay rfl qf8) rfl ?_;refine qa1 (a:=(0,[1])) (by show (D.fidx a.Cb "held" (rA a n wr o g f)).map (λn=>(0,[n]))=_;rw[qu1];rfl) ?_;refine qa1 (a:=D.l false (Q4 n.toNat g)) rfl ?_;refine⟨rfl,qa1 (a:=D.int (j:Nat)) ?_ ⟨rfl,λw=>?_⟩⟩;{show (if (rA a n wr o g f).isM a.Cb "room_of"=true then (some (D.int k)).bind λy=>(Ku a.Cb (rA a n wr o g f) y).bind λd=>d.flat.map λ_=>d else none)=_;rw[if_pos (qc7 rfl)];show (Ku a.Cb (rA a n wr o g f) (.int k)).bind _=_;rw[qas1 hk,O];rfl};refine⟨true,n,wr,o,g,S,k,j,rfl,J,L,M,KP,H,I,λcame r K'=>?_⟩;refine qa1 (a:=[rA a n wr o r f,D.q [.str "put",.int k]]) ?_ (t _ ⟨r,rfl,K'⟩);show Aq (.pl 0 [1] w::_) _ _=_;rw[qM1 rfl];rfl};rintro v ⟨r,rfl,K'⟩;exact qg9 (.bl true) rfl (q r K')
 refine qi9 false ((s _ _).trans (by rw[C])) nofun λ_=>?_
 refine qb1 [rA a n wr o g f,.q [.str "take",.int k]] (λK t=>qe0 (u f _ K _ rfl t)) ?_;refine qc1 (λv=>∃r,v=[rA a n wr o r f,.q [.str "take",.int k]]/\Kept n.toNat wr (Q0 n o) r (S++[k])) (λK t=>if_v (b:=false) rfl nofun λ_=>qi6 (qg3 ?_)) ?_;{refine qe1 (y:=Qz true a.Ca n wr o) (Ay rfl qf8) rfl ?_;refine qa1 (a:=(0,[1])) (by show (D.fidx a.Cb "held" (rA a n wr o g f)).map (λn=>(0,[n]))=_;rw[qu1];rfl) ?_;refine qa1 (a:=D.l false (Q4 n.toNat g)) rfl ?_;refine⟨rfl,λw=>qe1 (y:=D.int k) rfl rfl (qb6 ?_)⟩;refine⟨true,n,wr,o,g,S,k,rfl,J,L,hk,M,KP,nin,?_,λcame r K'=>?_⟩;{by_cases h:∃e,Jq n.toNat wr (Q0 n o) g k e;{exact h};obtain⟨q,c⟩:=KP.crowd λe z=>h ⟨e,z⟩;exact absurd c (nc q)};refine qa1 (a:=[rA a n wr o r f,D.q [.str "take",.int k]]) ?_ (t _ ⟨r,rfl,K'⟩);show Aq (.pl 0 [1] w::_) _ _=_;rw[qM1 rfl];rfl};rintro v ⟨r,rfl,K'⟩;exact qg9 (.bl true) rfl (q r K')
theorem qT0:qa9 ["self"] ["self"] (qa4 qw2):=by walk_at "s"
def qS1(C CP:γ):VSp:=A4 λds d=>∃zr n wr ps g dn,ds=[Au zr C CP n wr ps g dn]/\D.imms dn=true/\d=.l false dn
theorem ql9(T:Txt K mg a):VFn P w K mg base 1 a.f35 a.d35 ["self"] (qS1 a.Cb a.Ca):=by refine VFn.mk2 T.d35.F qT0 (wOf [true]) qb3 (by walk_at "l") (λ_ _ _ _ _ _ _ i=>⟨_,(Ag (An (qa3 (Iw qg7 qH5.ops T.D1 (qa2 (Ba rfl (vnm 0) T.Cc.cl T.Cs) qa6 rfl))))),λj Q k h=>?_⟩);obtain⟨d,⟨c,n,wr,e,g,b,rfl,f,rfl⟩,q⟩:=h;refine At [Au c a.Cb a.Ca n wr e g b] rfl ?_;refine qg9 (.l false b) ?_ q;unfold A7 A5;rw[Ay rfl qX4];exact qk5 f
theorem qv3:qa9 ["self"] ["self"] (qa4 qh5):=by walk_at "s"
def qu8(C:γ):VSp:=A4 λds d=>∃z n wr ps,ds=[Qz z C n wr ps]/\d=.l false (Q5 ps)
theorem qaI5{z:Bool}{ps:Pr}:qaU7 (.dct z (kvD ps))=some (.l false (Q5 ps)):=by
 have b:((kvD ps).map λa=>D.q [keyD a.1,a.2])=Q5 ps:=by unfold kvD Q5;rw[zC4];rfl
 show gd (D.imms ((kvD ps).map (·.2))=true) (.l false ((kvD ps).map λa=>D.q [keyD a.1,a.2]))=_;rw[b];refine qk5 ?_;unfold kvD;rw[zC4];exact qV4 (λ_=>rfl) ps
theorem qw8(T:Txt K mg a):VFn P w K mg base 1 a.f9 a.d9 ["self"] (qu8 a.Ca):=by refine VFn.mk2 T.d9.F qv3 (wOf [true]) qb3 (by walk_at "l") (λ_ _ _ _ _ _ _ c=>⟨_,(Ag (An (qa3 (qaM1 T.D1 (Ba rfl (vnm 0) T.Ce.cl T.Cr))))),λe Q f h=>?_⟩);obtain⟨d,⟨z,n,wr,b,rfl,rfl⟩,q⟩:=h;exact qg9 (.l false (Q5 b)) (Ay (Ay rfl qH3) qaI5) q
theorem qq3:qa9 ["plan", "keys", "rooms", "key"] ["plan", "keys"] (qa4 qv9):=by walk_at "s"
def qR8(C CN:γ):VSp:=λds Q xe=>∃z n wr ps z' ks,ds=[Qz z C n wr ps,.l z' (Q3 ks)]/\1<=n/\n<=64/\(∀k∈ks,Am k)/\ks.Nodup/\ks.length<=1000/\(qO0 n wr ps ks->∀g,Kept n.toNat wr (Q0 n ps) g ks->Q (rL n g) ds)/\(∀r:Nat,Crowd n.toNat wr (Q0 n ps) ks r->xe ⟨CN,[("room",.int (r:Nat))]⟩ ds)
theorem qU5(T:Txt K mg a):VFn P w K mg base 8 a.f23 a.d23 ["plan", "keys"] (qR8 a.Ca a.Cf):=by refine VFn.mk2 T.d23.F qq3 (wOf [true,true]) (by walk_at "m") (by walk_at "l") (λ_ _ _ _ _ _ _ B=>⟨_,(Ac (Bd (Af T.d21 (qp6 T) qa0 (rm B) (vaN 0 (vaN 1 Aa)))) (Ac (Aj 2 qq3.nd (qa3 (v2 (Ak qC2) qC1 (Bs (qa2 A9 qa6 rfl)) (Ba rfl (vnm 0) T.Ce.cl T.Cg)))) (Ac (sforP P9 (vpn 1) (Bc 3 qq3.nd) (Ag (Bd (Af T.d22 (qw5 T) qa0 (rm B) (vaN 0 (vaN 2 (vaN 3 Aa))))))) (Ag (An (emv 2)))))),λe Q L h=>?_⟩);obtain⟨z,n,wr,f,j,b,rfl,s,v,A,C,E,q,G⟩:=h;refine At [Qz z a.Ca n wr f,.l j (Q3 b),.u,.u] rfl ?_;refine qc1 (λe=>e=[Qz z a.Ca n wr f,.l j (Q3 b),.u,.u]/\qO0 n wr f b) (λK o=>?_) ?_;{exact qi6 (qu4 (y:=.l j (Q3 b)) rfl rfl rfl ⟨z,n,wr,f,j,b,rfl,s,v,A,E,λt=>qa1 rfl (o _ ⟨rfl,t⟩),λr c=>qa1 rfl (G r c)⟩)};rintro e ⟨rfl,t⟩;refine qb1 [Qz z a.Ca n wr f,.l j (Q3 b),.l false (Q4 n.toNat λ_=>none),.u] (λK o=>qa1 (Ah rfl (Ay rfl qd8) (qV0 ⋯ v)) o) ?_;refine qc1 (λe=>∃d g,e=[Qz z a.Ca n wr f,.l j (Q3 b),rL n g,d]/\Kept n.toNat wr (Q0 n f) g b) (λK o=>?_) ?_;{refine qa1 (a:=(1,[])) rfl (qa1 (a:=D.l j (Q3 b)) rfl (qa1 (a:=Q3 b) rfl ⟨qe8 b,λw=>?_⟩));refine qf3 (λi e=>∃d g,e=[Qz z a.Ca n wr f,.hole w,rL n g,d]/\Kept n.toNat wr (Q0 n f) g (b.take i)) _ 0 _ ⟨_,_,rfl,Kept.none ⋯ (G3 s)⟩ ?_ ?_;{rintro i y H e ⟨d,g,rfl,KP⟩ K2 p;rw[zAl] at KP p;obtain⟨k,u,rfl⟩:=qau0 H;refine qax3 (y:=rL n g) (w:=.int k) rfl rfl rfl rfl rfl ⟨z,n,wr,f,g,b.take i,k,rfl,s,v,A k (zB2 u),λx I=>A x (O4 I),KP,qC6 C u,KP.free (by rw[<-qm7 u];exact zBn _ _) (t.no s),λcame J K'=>?_⟩;refine p _ ⟨_,J,rfl,?_⟩;rw[qm7 u];exact K'};rintro e ⟨d,g,rfl,KP⟩;rw[zAl,qh3,Oe] at KP;exact qa1 (qaB9 rfl) (o _ ⟨d,g,rfl,KP⟩)};rintro e ⟨d,g,rfl,KP⟩;exact q t g KP
theorem qI7:qa9 ["plan", "keys"] ["plan", "keys"] (qa4 qm9):=by walk_at "s"
def qI2(C CP CN:γ):VSp:=λds Q xe=>∃n wr ps z ks,ds=[Qz true CP n wr ps,.l z (Q3 ks)]/\1<=n/\n<=64/\(∀k∈ks,Am k)/\ks.Nodup/\ks.length<=1000/\(∀r:Nat,Crowd n.toNat wr (Q0 n ps) ks r->xe ⟨CN,[("room",.int (r:Nat))]⟩ ds)/\((∀q,¬Crowd n.toNat wr (Q0 n ps) ks q)->∀g,Kept n.toNat wr (Q0 n ps) g ks->Q (Au false C CP n wr ps g []) ds)
theorem qJ6(T:Txt K mg a):VFn P w K mg base 12 a.f36 a.d36 ["plan", "keys"] (qI2 a.Cb a.Ca a.Cf):=by
 refine VFn.mk2 T.d36.F qI7 (wOf [true,true]) (by walk_at "m") (by walk_at "l") (λ_ _ _ _ _ _ _ f=>⟨_,(Ag (An (qaW1 T.Cc T.En T.d27 (qw7 T) qa0 (rm f) (vaN 0 (vaV (Af T.d23 (qU5 T) qa0 (rm f) (vaN 0 (vaN 1 Aa))) Aa))))),λs Q t h=>?_⟩);obtain⟨n,wr,b,z,d,rfl,e,i,j,k,o,p,q⟩:=h;refine At [Qz true a.Ca n wr b,.l z (Q3 d)] rfl ?_;refine qf5 (qG7 (qc4 rfl (qd2 (qu4 rfl rfl rfl ⟨true,n,wr,b,z,d,rfl,e,i,j,k,o,λc g K=>?_,λr c=>?_⟩))));rotate_left
 {exact qa1 rfl (p r c)};exact qa1 rfl (qb6 (qa1 rfl ⟨n,wr,b,rL n g,g,d,rfl,e,i,j,K,.inr ⟨false,rfl⟩,rfl,q (c.no e) g K⟩))
theorem qS7:qa9 ["row", "rooms"] ["row", "rooms"] (qa4 qv6):=by walk_at "s"
theorem qaA5{zr:Bool}{C CP:γ}{n:Int}{wr:Bool}{ps:Pr}{g:Nat->Option Int}{dn:Ds}:He C (Au zr C CP n wr ps g dn) (.adr C)=some (.bl true):=by show (if C=C then (Au zr C CP n wr ps g dn).isC C else none)=_;rw[if_pos rfl];exact qaT5
def M4(C CP CG:γ)(x:D):Prop:=Mp C [CP,CG] x (.adr C)=some (.bl false)
theorem qaT1{L:List γ}{zr:Bool}{C CP:γ}{n:Int}{wr:Bool}{ps:Pr}{g:Nat->Option Int}{dn:Ds}(h:¬C∈L):Mp C L (Au zr C CP n wr ps g dn) (.adr C)=some (.bl true):=by show (if C∈L then _ else He C (Au zr C CP n wr ps g dn) (.adr C))=_;rw[if_neg h];exact qaA5
theorem qaT3{L:List γ}{z:Bool}{C C':γ}(h:C'∈L):Mp C L (.ins z C' fs) (.adr C)=some (.bl false):=by show (if C'∈L then Mo C (.adr C) (.bl false) else _)=_;rw[if_pos h];exact if_pos rfl
theorem qaf3{l m:Int}(h:y.within l m=true):∃i,y=.int i/\l<=i/\i<=m:=by cases y with|int i=>have h:(decide (l<=i)&&decide (i<=m))=true:=h;rw[zBb,zB5,zB5] at h;exact⟨i,rfl,h⟩|_=>cases h
def qR6(C CP CG CW CN:γ):VSp:=λds Q xe=>∃x y,ds=[x,y]/\((M4 C CP CG x/\x.known=true/\xe ⟨CW,[("at",.int 0)]⟩ ds)∨∃zr n wr ps g dn S,x=Au zr C CP n wr ps g dn/\n<=64/\qG0 ps/\(∀k∈S,Am k)/\Kept n.toNat wr (Q0 n ps) g S/\(∃t,y.kind=some t)/\(y.within 1 64=false->xe ⟨CW,[("at",.int 1)]⟩ ds)/\∀m,y=.int m->1<=m->m<=64->(∀r:Nat,Crowd m.toNat wr (Q0 m ps) S r->xe ⟨CN,[("room",.int (r:Nat))]⟩ ds)/\((∀q,¬Crowd m.toNat wr (Q0 m ps) S q)->∀g',Kept m.toNat wr (Q0 m ps) g' S->Q (Au false C CP m wr ps g' []) ds))
theorem qr3(T:Txt K mg a):VFn P w K mg base 13 a.f37 a.d37 ["row", "rooms"] (qR6 a.Cb a.Ca a.Ci a.Ch a.Cf):=by
 refine VFn.mk2 T.d37.F qS7 (wOf [true,true]) (by walk_at "m") (by walk_at "l") (λ_ _ _ _ _ _ _ e=>⟨_,(Ac (sif (Bi (tv (vbi (qaL5 T.Ff T.Cc.cl (qam7 T.Ev T.Ce.cl T.Du (qam7 T.Er T.D4.cl T.D6 qaT2))) qbf2.ops T.Cd (qa2 (vnm 0) (qa2 (vcls a.Cb T.Cc.m) qa6 rfl) rfl)))) (Ag (qo7 T.Co (qb2 T) (rm e) T.Cp T.d0.b qa0 (qa3 Ad))) Aw) (Ac (sif (Bi (te (Af T.d3 (qe4 T) qa0 (rm e) (vaN 1 (vaV (qa3 Ad) (vaV (qa3 (vgi T.Dh)) Aa)))))) (Ag (qo7 T.Co (qb2 T) (rm e) T.Cp T.d0.b qa0 (qa3 Ad))) Aw) (Ag (An (Af T.d36 (qJ6 T) qa0 (rm e) (vaV (Bl (Kj T.Ce T.Ek T.d8 (qr4 T) qa0 (rm e) (vaN 1 (vaV (qb9 (Ba rfl (Ba rfl (vnm 0) T.Cc.cl T.Cj) T.Ce.cl T.Cq)) (vaV (qaV9 T.d9 T.Ce.cl (qw8 T) qa0 (rm e) (Ba rfl (vnm 0) T.Cc.cl T.Cj)) Aa))))) (vaV (qe9 0 T.d29 T.Cc.cl (qf9 T) qa0 (rm e)) Aa))))))),λC Q u h=>?_⟩);obtain⟨x,y,rfl,h⟩:=h;refine At [x,y] rfl ?_;rcases h with⟨hn,i,q⟩|⟨zr,n,wr,ps,g,dn,S,rfl,n2,G,hS,KP,⟨t,ht⟩,qw,q⟩;{exact qaU2 false (by unfold A7 A5;rw[rd0 i];exact hn) nofun λ_=>q};have v:¬a.Cb∈[a.Ca,a.Ci]:=λh=>by rcases zAj.mp h with h|h;{exact qaS7 T.Du h.symm};exact qaS7 T.D6 (zAd.mp h).symm
 have f:=KP.perm;refine qaA9 (show Mp a.Cb [a.Ca,a.Ci] (Au zr a.Cb a.Ca n wr ps g dn) (.adr a.Cb)=some (.bl true) from qaT1 v) ?_;refine qaU1 (y.within 1 64) (λQ u q=>qg3 (qc4 (x:=y) (qe7 rfl (qi5 ht)) (qc8 (y:=.int 1) rfl (qc8 (y:=.int 64) rfl (qb6 (qa1 (a:=y) (qe7 rfl (qi5 ht)) (qB8 (d:=.bl (y.within 1 64)) (by show (y.kind.bind λ_=>some (D.bl (y.within 1 64)))=_;rw[ht];rfl) (qa1 (a:=[Au zr a.Cb a.Ca n wr ps g dn,y]) rfl q)))))))) (λj=>?_) λj=>?_;case refine_2=>exact qw j
 obtain⟨m,rfl,o,s⟩:=qaf3 j;obtain⟨z,q⟩:=q m rfl o s;refine qf5 (qg3 (qd2 (Gn (qG7 (qc4 (x:=.int m) rfl (qe1 (y:=.bl wr) (Ay (Ay rfl qf8) qo3) rfl (qd2 ?_)))))));refine qt8 (d:=Qz true a.Ca n wr ps) (Ay rfl qf8) rfl ⟨qg6 rfl,_,⟨true,n,wr,ps,rfl,rfl⟩,qa1 (a:=[Au zr a.Cb a.Ca n wr ps g dn,.int m]) rfl (qb6 (qa1 (a:=D.int m) rfl ⟨m,wr,false,ps,rfl,o,s,G,rfl,?_⟩))⟩;refine qa1 (a:=Qz false a.Ca m wr ps) rfl (qa1 (a:=[Au zr a.Cb a.Ca n wr ps g dn,.int m]) rfl ?_);refine qd2 (qm5 (p:=Au zr a.Cb a.Ca n wr ps g dn) (d:=kL ((N7 n.toNat).filterMap g)) rfl (qc7 rfl) ⟨zr,n,wr,ps,g,dn,rfl,n2,rfl⟩ rfl (qb6 ?_));rw[qP4];have E:=KP.len;refine⟨m,wr,ps,false,_,rfl,o,s,λk i=>hS k (f.subset i),f.nodup_iff.mpr KP.h.1,by rw[f.length_eq];lia,λr c=>?_,λA B K'=>?_⟩;{exact qa1 (a:=[Au zr a.Cb a.Ca n wr ps g dn,.int m]) rfl (z r (c.perm f))};exact qa1 (a:=[Au zr a.Cb a.Ca n wr ps g dn,.int m]) rfl (q (λr c=>A r (c.perm f.symm)) B (K'.of_perm f))
theorem qaN2:qa9 ["_law_script"] ["_law_script"] (qa4 qaE2):=by walk_at "s"
theorem qaR0(T:Txt K mg a):Fx P w K mg base CX0 1 a.f40 a.d40 ["_law_script"] (qaY6 K):=by
 refine T.d40.F.ok qaN2 (λJ H Q E h=>?_) (λL A outer s H J Q E O h=>?_);{obtain⟨l,d,rfl,_⟩:=h;rfl};obtain⟨l,d,rfl,M,R,k⟩:=h;refine⟨_,(qt0 (Kv (qaF7 (qc6 qN3 (qc6 qN3 (qc6 qN3 (qc6 (qG6 ["_law_cell"] [none] (qC0 (qU0 qah2 (pv 0) qai9 (qai8 qN3))) (λC B H0 G=>(gnm 0 (show (["_law_cell"]:List Str).Nodup by decide +kernel))) (λC B H0 G=>qaP2) (λC B H0 G=>(cbi qaL6 T.Fk (qc6 (pv 0) qk1)))) qk1))))))),?_⟩;refine⟨_,rfl,_,rfl,l,_,rfl,M,λc N=>?_⟩;have ec:Ja (d.map V.int) none (some 63)=d.map V.int:=by unfold Ja;have t:HT.sIx (d.map V.int).length (d.map V.int).length (some (63:Int))=min 63 (d.map V.int).length:=HT.qai2 _ _ 63;rw[t,HT.qT7,Oq,Nat.sub_zero];apply zAr;rw[zAe];lia
 rw[ec];refine⟨c,rfl,⟨_,SqL.of qb7⟩,λD r=>?_⟩;have I:D≠c:=λz=>by rw[z,qb7] at r;cases r
 have g:H D=none:=by rw[qc0 I] at r;exact r
 refine qaa4 (K:=K) (xs:=d.map V.int) (λi σ H1=>∃v,σ=[v]/\H1=upd (upd H c (.l (d.map V.int))) D (.l (((d.take i).map λn=>if n<0 then -n else n).map V.int))) ⟨none,rfl,rfl⟩ ?_ ?_ ?_;{rintro i σ H1 _ ⟨v,rfl,rfl⟩;refine SqL.of ?_;rw[qc0 I.symm,qb7]}
 .rintro i x σ H1 j ⟨v,rfl,rfl⟩;obtain⟨n,u,rfl⟩:∃n,d[i]?=some n/\V.int n=x:=by rw[zB9] at j;cases e:d[i]? with|none=>rw[e] at j;cases j|some z=>rw[e] at j;exact⟨z,rfl,P8 j⟩
  refine⟨_,rfl,_,rfl,_,qb7,?_,_,rfl,?_⟩;{rw[zAe,zAe,zBp];exact qar6 ⋯};rw[qaM3];congr 1;rw[Oc,u];simp
 rintro σ H1 ⟨v,rfl,rfl⟩;rw[zAe,zAr (zA3 _)];refine⟨by show 4<=M7;decide,λp f=>?_⟩;have q:p≠D:=λz=>by rw[z,qb7] at f;cases f
 rw[qc0 q] at f;have y:p≠c:=λz=>by rw[z,qb7] at f;cases f
 rw[qc0 y] at f;refine k p D _ f g (λb o e=>?_) ⟨0,1234567891,0,d.map λn=>if n<0 then -n else n,qb7,?_,∅,∅,∅,∅,?_⟩;{rw[qc0 (qc9 e f),qc0 (qc9 e g),qc0 (qc9 e N)];exact e};{rw[qc0 q.symm,qb7]};intro n u;obtain⟨m,_,rfl⟩:=zB8.mp u;split<;>lia
theorem qv4:qa9 ["_law_bag_here", "_law_many", "_law_cell", "_law_value", "_law_first", "_law_second"] ["_law_bag_here", "_law_many"] (qa4 qah9):=by walk_at "s"
theorem qb8(T:Txt K mg a):VFn P w K mg base 1 a.f41 a.d41 ["_law_bag_here", "_law_many"] qS4:=by refine VFn.mk' T.d41.F qv4 (wOf [true,true]) (λr Q Q' u J L _ h=>by obtain⟨b,m,g,e,H,A,M,q⟩:=h;exact⟨b,m,g,e,H,A,M,λv N O R B=>L _ _ (q v N O R B)⟩) (λr Q u ⟨b,m,g,e,_⟩=>by rw[e];rfl) (λr Q u h=>by obtain⟨b,m,g,e,⟨x,y,z,S,_⟩,_⟩:=h;rw[e,S];rfl) (λ_ _ _ _ _ _ _ U=>⟨_,(Ac (sif (q2 (Ap (qm4 U.u64) (qa8 _)) Bk (v2 (Av qb4) Al (vnm 0) Ad) Ad) (Ac (Aj 2 qv4.nd (qa3 Ad)) (Ac (sif (q2 (Ap Jy (qa8 _)) Kc (v2 (Av qb4) Al (vnm 0) Ad) (vbi qu3 qu2.ops T.Cz (qa2 (v2 (Av qb4) Al (vnm 0) Ad) qa6 rfl))) (Ag (Aj 2 qv4.nd (qb9 (v2 (Av qb4) Al (v2 (Av qb4) Al (vnm 0) Ad) (v2 (Av qb4) Al (vnm 0) Ad))))) Aw) (Ac (saug (vpn 0) Ad Ad qbd7) (Ac (sif (q2 (Ap Ib (qa8 _)) Kd (vnm 2) Ad) (Ag (Hm (qb9 (vnm 2)) (Gu (vpn 0) Ad))) Aw) (Ag (Hm (qa3 (v2 (Ak qr2) qr0 (v2 (Ak qh1) qh0 (v2 (Ak qh1) qh0 (v2 (Ak qC2) qC1 (v2 (Av qb4) Al (vnm 0) Ad) Ad) (v2 (Ak qr2) qr0 (vnm 2) Ad)) (v2 (Ak qC2) qC1 Ad (v2 (Av qb4) Al (vnm 0) Ad))) Ad)) (Gu (vpn 0) Ad))))))) Aw) (Ac (sif (q2 (Ap B8 (qa8 _)) Fp (v2 (Av qb4) Al (vnm 0) Ad) Ad) (Ac (Aj 3 qv4.nd (qa3 (v2 (Ak qr2) qr0 (v2 (Av qb4) Al (vnm 0) Ad) (vnm 1)))) (Ac (Hm (qa3 (v2 (Ak qU2) qaG4 (v2 (Av qb4) Al (vnm 0) Ad) (vnm 1))) (Gu (vpn 0) Ad)) (Ag (An (emv 3))))) Aw) (Ac (Aj 4 qv4.nd (qa3 (v2 (Ak qr2) qr0 (v2 (Ak qC2) qC1 (v2 (Ak qh1) qh0 (v2 (Av qb4) Al (vnm 0) Ad) Ad) Ad) Ad))) (Ac (Aj 5 qv4.nd (qa3 (v2 (Ak qr2) qr0 (v2 (Ak qC2) qC1 (v2 (Ak qr2) qr0 (v2 (Ak qC2) qC1 (vnm 4) (vnm 4)) Ad) Ad) Ad))) (Ac (sif (q2 (Ap B8 (qa8 _)) Fp (vnm 1) Ad) (Ag (An (qa3 (v2 (Ak qr2) qr0 (v2 (Ak qh1) qh0 (v2 (Ak qC2) qC1 (vnm 5) Ad) (vnm 4)) (vnm 1))))) Aw) (Ag (An (qa3 (v2 (Ak qr2) qr0 (v2 (Ak qU2) qaG4 (vnm 5) Ad) (vnm 1)))))))))),λr Q u h=>?_⟩);obtain⟨b,m,g,rfl,⟨x,y,z,rfl,B⟩,p,C,k⟩:=h;refine At [bagD x y z g,.int m,.u,.u,.u,.u] rfl ?_;refine qc1 (λr=>∃j o t c,r=[bagD j o t g,.int m,c,.u,.u,.u]/\Bg j o t g) (λK l=>?_) ?_;{refine if_v (b:=decide (x=0)) rfl (λ_=>?_) (λ_=>l _ ⟨x,y,z,_,rfl,B⟩);refine qb1 [bagD x y z g,.int m,.int 0,.u,.u,.u] (λK l=>l) ?_;refine qc1 (λr=>∃c:Int,0<=c/\r=[bagD x y z g,.int m,.int c,.u,.u,.u]) (λK l=>?_) ?_;{refine if_v (b:=decide (z<(((g.map D.int).length:Nat):Int))) rfl (λA=>?_) (λ_=>l _ ⟨0,∅,rfl⟩);obtain⟨v,V,e⟩:=qE1 (xs:=g.map D.int) (i:=z) B.z0 (zAh A);obtain⟨c,E,rfl⟩:=zB8.mp V;exact qA1 (Ah (y:=.int z) (x:=.l false (g.map .int)) rfl rfl e) rfl (l _ ⟨c,B.nn c E,rfl⟩)};rintro r ⟨c,E,rfl⟩;refine qb1 [bagD x y (z+1) g,.int m,.int c,.u,.u,.u] (λK l=>?_) ?_;{exact qbg0 (k:=2) (x:=z) (y:=1) (ys:=[.int x,.int y,.int z,.l false (g.map .int)]) rfl rfl ∅ rfl rfl l};refine qc1 (λr=>∃j:Int,0<=j/\r=[bagD j y (z+1) g,.int m,.int c,.u,.u,.u]) (λK l=>?_) ?_;{refine if_v (b:=decide (1000000000000000000<=c)) rfl (λ_=>?_) (λ_=>l _ ⟨x,B.x0,rfl⟩);exact qM4 (d:=.int c) (ys:=[.int x,.int y,.int (z+1),.l false (g.map .int)]) (k:=0) (n:=0) rfl rfl rfl rfl rfl (l _ ⟨c,E,rfl⟩)};rintro r ⟨j,G,rfl⟩;have W:f2 Ma (f2 Jf (f2 Jf (f2 Jg (f2 gIx (rdN 0) (kC (.int 1))) (kC (.int 48271))) (f2 Ma (rdN 2) (kC (.int 2147483647)))) (f2 Jg (kC (.int 7919)) (f2 gIx (rdN 0) (kC (.int 2))))) (kC (.int 2147483647)) [bagD j y (z+1) g,.int m,.int c,.u,.u,.u]=some (.int ((y*48271+c%2147483647+7919*(z+1))%2147483647)):=Ah (Ah (Ah (Ah (x:=.int y) rfl rfl (Ms ∅)) (Ah rfl rfl (G2 ∅)) rfl) (Ah (y:=.int (z+1)) rfl rfl (mulL ∅)) rfl) rfl (G2 ∅);exact qW9 (ys:=[.int j,.int y,.int (z+1),.l false (g.map .int)]) (k:=1) (n:=1) W rfl rfl rfl (l _ ⟨j,_,z+1,_,rfl,G,Int.emod_nonneg _ ∅,zCl _ ∅,by have:=B.z0;lia,B.nn⟩)};rintro r ⟨j,o,t,c,rfl,B'⟩;refine qi9 (decide (0<j)) rfl (λH=>?_) λ_=>?_;{refine qb1 [bagD j o t g,.int m,c,.int (j%m),.u,.u] (λK l=>qa1 (Ah (x:=.int j) rfl rfl (G2 p)) l) ?_;refine qb1 [bagD (j/m) o t g,.int m,c,.int (j%m),.u,.u] (λK l=>?_) ?_;{exact qW9 (ys:=[.int j,.int o,.int t,.l false (g.map .int)]) (k:=0) (n:=0) (Ah (x:=.int j) rfl rfl (qaK9 p C)) rfl rfl rfl l};exact k (j%m) _ (Int.emod_nonneg _ ⋯) (zCl _ p) ⟨_,_,_,rfl,Int.ediv_nonneg B'.x0 ⋯,B'.y0,B'.y1,B'.z0,B'.nn⟩};have X:0<=(o+1)*39373%1000000007:=Int.emod_nonneg _ ∅;have f1:(o+1)*39373%1000000007<1000000007:=zCl _ ∅;refine qb1 [bagD j o t g,.int m,c,.u,.int ((o+1)*39373%1000000007),.u] (λK l=>qa1 (Ah (Ah (Ah (x:=.int o) rfl rfl rfl) rfl (Ms ∅)) rfl (G2 ∅)) l) ?_;generalize (o+1)*39373%1000000007=f at X f1;refine qb1 [bagD j o t g,.int m,c,.u,.int f,.int (f*f%998244353*30011%998244353)] (λK l=>qa1 (Ah (Ah (Ah (Ah rfl rfl (mulL (qah1 ⋯ ⋯))) rfl (G2 ∅)) rfl (Ms ∅)) rfl (G2 ∅)) l) ?_;generalize f*f%998244353*30011%998244353=s;have I:∀v,Q (.int (v%m)) [bagD j o t g,.int m]:=λv=>k _ _ (Int.emod_nonneg _ ⋯) (zCl _ p) ⟨_,_,_,rfl,B'⟩;refine qi9 (decide (1000000<m)) rfl (λ_=>?_) λ_=>?_;{exact qg9 _ (Ah (Ah (Ah rfl rfl (Ms ∅)) rfl rfl) rfl (G2 p)) (I _)};exact qg9 _ (Ah (Ah rfl rfl (qaK9 ∅ ∅)) rfl (G2 p)) (I _)
theorem qaE1:qa9 ["_law_plan", "_law_key"] ["_law_plan", "_law_key"] (qa4 qai1):=by walk_at "s"
def qaD7:VSp:=A4 λds d=>∃n wr ps k,ds=[Ae n wr ps,.int k]/\1<=n/\(ps.map (·.1)).Nodup/\d=.int (qd4 n ps k)
theorem qU8(T:Txt K mg a):VFn P w K mg base 1 a.f42 a.d42 ["_law_plan", "_law_key"] qaD7:=by
 refine VFn.mk2 T.d42.F qaE1 (wOf [true,true]) qb3 (by walk_at "l") (λ_ _ _ _ _ _ _ c=>⟨_,(Ag (An (qa3 (v2 (Ak qr2) qr0 (vget (hu_of c) (Iw (qQ1 rfl) qaB5.ops T.Fb (qa2 (v2 (Av qb4) Al (vnm 0) Ad) qa6 rfl)) (vnm 1) (vnm 1) ⟨rfl,rfl,rfl,rfl⟩) (v2 (Av qb4) Al (vnm 0) Ad))))),λg Q i h=>?_⟩);obtain⟨d,⟨n,wr,b,k,rfl,j,e,rfl⟩,q⟩:=h;have f:A7 (fx1 Kf) (A5 (f2 gIx (rdN 0) (kC (.int 2))) λ_=>some []) [Ae n wr b,.int k]=some (.dct false (kvD b)):=by show Kf (.l true (Q5 b))=_;exact qaB4 e
 exact qg9 _ (Ah (qan3 f rfl) rfl (G2 ⋯)) q
theorem qf4:qa9 ["_law_plan", "_law_keys", "_law_homes", "_law_found", "_law_on", "_law_turn", "_law_room"] ["_law_plan", "_law_keys"] (qa4 qB6):=by walk_at "s"
theorem qaw6(a:1<=n)(ks:List Int)(r:Nat):La (.l z (Q3 (ks.map (qd4 n ps)))) (.int (r:Nat))=some (.int (Hv (Q0 n ps) ks r:Nat)):=by show ((flats (Q3 (ks.map (qd4 n ps)))).bind λb=>some (D.int (b.countP (λz=>eqV z (.int (r:Nat))):Nat)))=_;rw[qL0];show some (D.int (((ks.map (qd4 n ps)).map V.int).countP (λz=>eqV z (.int (r:Nat))):Nat))=_;congr 3;unfold Hv;rw[Pi,Pi,List.countP_eq_length_filter];congr 1;refine Oh λk _=>?_;have:=qO8 (ps:=ps) a k;exact zBv.mpr ⋯
def onT(n:Int)(ps:Pr)(ks:List Int):Nat->Int:=onC (cR n.toNat (Q0 n ps) ks)
def Be(n:Int)(ps:Pr)(ks:List Int)(i m:Nat):List Int:=(N7 m).map λr=>onT n ps ks (n.toNat*i+r+1)
theorem qN4{n:Int}{ps:Pr}{m:Nat}:Be n ps ks i m++[onT n ps ks (n.toNat*i+m+1)]=Be n ps ks i (m+1):=by unfold Be;rw[Ph,zBo];rfl
def qac5:VSp:=A4 λds d=>∃n wr ps z ks,ds=[Ae n wr ps,.l z (Q3 ks)]/\1<=n/\n<=64/\(ps.map (·.1)).Nodup/\ks.length<=200/\d=.l false (Q3 (Be n ps ks wr.toNat n.toNat))
theorem qad8(T:Txt K mg a):VFn P w K mg base 2 a.f43 a.d43 ["_law_plan", "_law_keys"] qac5:=by
 refine VFn.mk2 T.d43.F qf4 (wOf [true,true]) qb3 (by walk_at "l") (λ_ _ _ _ _ _ _ L=>⟨_,(Ac (scN (NY:=["_law_key", "_law_plan"]) (src:=[none,some 0]) 2 1 qf4.nd (blk (λB C E H0 G=>(Bc 0 (show (["_law_key", "_law_plan"]:List Str).Nodup by decide +kernel))) (λB C E H0 G=>Hq) (λB C E H0 G=>(Af T.d42 (qU8 T) qn7 (rm L) (vaN 1 (vaN 0 Aa)))))) (Ac (Aj 3 qf4.nd (qa3 (Bs qa6))) (Ac (Aj 4 qf4.nd (qa3 Ad)) (Ac (Lb P9 T.D3 (Gv (vaV (qa3 (v2 (Ak qh1) qh0 Ad (Iw qax2 qbf3.ops T.Ew (qa2 (v2 (Av qb4) Al (vnm 0) Ad) qa6 rfl)))) Aa)) (Bc 5 qf4.nd) (Ac (Aj 3 qf4.nd (qa3 (Bs qa6))) (Ag (Lb P9 T.D3 (Gv (vaV (qb9 (v2 (Av qb4) Al (vnm 0) Ad)) Aa)) (Bc 6 qf4.nd) (Ac (Aj 4 qf4.nd (qa3 (vbi (qL9 rfl) qao3.ops T.Fc (qa2 Ad (qa2 (v2 (Ak qr1) qq9 (v2 (Ak qh1) qh0 (vnm 4) (vbm qaQ6 Qb Qg Qj qak8 (vnm 2) (vnm 6) qaB6)) Ad) qa6 rfl) rfl)))) (Ag (Bd (Gj 3 qC9 Qb Qc Qd qf1 (vaV (qb9 (vnm 4)) Aa))))))))) (Ag (An (emv 3))))))),λf Q Y h=>?_⟩);obtain⟨d,⟨n,wr,b,z,c,rfl,H,Z,M,hl,rfl⟩,q⟩:=h;refine At [Ae n wr b,.l z (Q3 c),.u,.u,.u,.u,.u] rfl ?_;refine qb1 [Ae n wr b,.l z (Q3 c),kL (c.map (qd4 n b)),.u,.u,.u,.u] (λK o=>qe0 (qa1 (a:=D.l z (Q3 c)) rfl (qa1 (a:=Q3 c) rfl ⟨qe8 c,?_⟩))) ?_
 .refine qi7 (λι=>∃d,ι=[d,Ae n wr b]) (λx=>some (match x with | .int k=>.int (qd4 n b k)|d=>d)) _ [] _ (by show 0+_<1000000;rw[qh3];lia) ⟨_,rfl⟩ ?_ ?_;{rintro y N ι O ⟨d,rfl⟩ R S s;obtain⟨k,_,rfl⟩:=zB8.mp N;exact qk4 (Mt (By rfl (qK4 (x:=Ae n wr b) (y:=.int k) (d:=.int (qd4 n b k)) rfl rfl rfl ⟨n,wr,b,k,rfl,H,M,rfl⟩ rfl ⟨s,S [.int k,Ae n wr b] ⟨_,rfl⟩⟩)))};rintro ι ⟨d,rfl⟩;rw[zB4,qan8];have U:((Q3 c).map λx=>match x with | .int k=>D.int (qd4 n b k)|d=>d)=Q3 (c.map (qd4 n b)):=by unfold Q3;rw[zC4,zC4];rfl
  rw[U];exact o
 generalize t:kL (c.map (qd4 n b))=p;refine qb1 [Ae n wr b,.l z (Q3 c),p,.l false [],.u,.u,.u] (λK o=>o) ?_;refine qb1 [Ae n wr b,.l z (Q3 c),p,.l false [],.int 0,.u,.u] (λK o=>o) ?_;refine qc1 (λf=>∃I r m,f=[Ae n wr b,.l z (Q3 c),p,kL (Be n b c wr.toNat n.toNat),I,r,m]) (λK o=>?_) ?_
 .refine qZ2 (n:=((1+wr.toNat:Nat):Int)) (by cases wr<;>rfl) (Mr ⋯ (by cases wr<;>decide)) ?_;refine qf3 (λi f=>∃F r m,f=[Ae n wr b,.l z (Q3 c),p,.l false F,.int (onT n b c (n.toNat*i)),r,m]/\(0<i->F=Q3 (Be n b c (i-1) n.toNat))) _ 0 _ ⟨_,_,_,rfl,λh=>absurd h ⋯⟩ ?_ ?_
  .rintro i x A f ⟨F,r,m,rfl,_⟩ K2 u;rw[zAl] at u ⊢;obtain⟨hi,rfl⟩:=Lj A;refine qk4 (At [Ae n wr b,.l z (Q3 c),p,.l false F,.int (onT n b c (n.toNat*i)),.int (i:Nat),m] rfl ?_);refine qb1 [Ae n wr b,.l z (Q3 c),p,.l false [],.int (onT n b c (n.toNat*i)),.int (i:Nat),m] (λK o=>o) ?_;refine qV6 (n:=n) rfl (Mr ⋯ ⋯) ?_;refine qf3 (λj f=>∃m,f=[Ae n wr b,.l z (Q3 c),p,kL (Be n b c i j),.int (onT n b c (n.toNat*i+j)),.int (i:Nat),m]) _ 0 _ ⟨_,rfl⟩ ?_ ?_
   .rintro j x A f ⟨m,rfl⟩ K3 v;rw[zAl] at v ⊢;obtain⟨V,rfl⟩:=Lj A;refine qk4 (At [Ae n wr b,.l z (Q3 c),p,kL (Be n b c i j),.int (onT n b c (n.toNat*i+j)),.int (i:Nat),.int (j:Nat)] rfl ?_);refine qb1 [Ae n wr b,.l z (Q3 c),p,kL (Be n b c i j),.int (onT n b c (n.toNat*i+j+1)),.int (i:Nat),.int (j:Nat)] (λK o=>qA0 ?_ o) ?_
    .have W:La p (.int (j:Nat))=some (.int (Hv (Q0 n b) c j:Nat)):=by rw[<-t];exact qaw6 H c j
     have e:=Ah (g:=gSub) (y:=.int 1) (Ah (g:=Jf) (fa:=rdN 4) (ds:=[Ae n wr b,.l z (Q3 c),p,kL (Be n b c i j),.int (onT n b c (n.toNat*i+j)),.int (i:Nat),.int (j:Nat)]) (x:=.int (onT n b c (n.toNat*i+j))) rfl (Ah (g:=La) (fa:=rdN 2) (fb:=rdN 6) (by rw[<-t];rfl) rfl W) rfl) (fb:=kC (.int 1)) rfl rfl;unfold A7 A5;rw[e];have X:cR n.toNat (Q0 n b) c (n.toNat*i+j)=Hv (Q0 n b) c j:=by unfold cR;rw[Nat.mul_add_mod,zCi V]
     show some (D.int (if onT n b c (n.toNat*i+j)+(Hv (Q0 n b) c j:Nat)-1>0 then onT n b c (n.toNat*i+j)+(Hv (Q0 n b) c j:Nat)-1 else 0))=some (D.int (if onC (cR n.toNat (Q0 n b) c) (n.toNat*i+j)+(cR n.toNat (Q0 n b) c (n.toNat*i+j):Int)-1>0 then onC (cR n.toNat (Q0 n b) c) (n.toNat*i+j)+(cR n.toNat (Q0 n b) c (n.toNat*i+j):Int)-1 else 0));rw[X];rfl
    refine qaC3 (ys:=Q3 (Be n b c i j)) (d:=.int (onT n b c (n.toNat*i+j+1))) rfl rfl rfl (by rw[qh3];unfold Be big;rw[zAe,zBa];lia) ?_;rw[qY2,qN4];exact v _ ⟨_,rfl⟩
   rintro f ⟨m,rfl⟩;rw[zAl,qY1,show n.toNat*i+n.toNat=n.toNat*(i+1) by rw[Nat.mul_add,Nat.mul_one]];exact u _ ⟨_,_,_,rfl,λ_=>rfl⟩
  rintro f ⟨F,r,m,rfl,J⟩;rw[zAl,qY1,Int.toNat_natCast] at J;rw[J ⋯,show 1+wr.toNat-1=wr.toNat by lia];exact o _ ⟨_,_,_,rfl⟩
 rintro f ⟨I,r,m,rfl⟩;exact q
theorem qf7:qa9 ["_law_plan", "_law_keys", "_law_passing_here", "_law_begin", "_law_found", "_law_at", "_law_on", "_law_key"] ["_law_plan", "_law_keys"] (qa4 qJ3):=by walk_at "s"
theorem qaA1:∀ps:List (Int×Int),(Q5 ps).mapM Lf=some ps|[]=>rfl|p::r=>by show List.mapM Lf (D.q [.int p.1,.int p.2]::Q5 r)=_;rw[Pn,qaA1 r];rfl
theorem qar4{f:Int->Int}(e:L=S.map λk=>(f k,k))(a:S.Nodup)(b:S.length<=64):qaB1 (.l z (Q5 L))=some (.l false (Q5 (Gk L))):=by show ((Q5 _).mapM Lf).bind _=_;rw[qaA1];refine qk5 ⟨?_,by rw[e,zAe];exact b⟩;rw[e];exact zBx.mpr (a.imp λh z=>h (congrArg Prod.snd z))
theorem qak0{f:Int->Nat}:((Gk (ks.map λk=>(((f k:Nat):Int),k))).map (·.2)).Perm ks:=by have h:((Gk (ks.map λk=>(((f k:Nat):Int),k))).map (·.2)).Perm ((ks.map λk=>(((f k:Nat):Int),k)).map (·.2)):=(O5 _ _).map _;rw[zC4] at h;have e:ks.map ((·.2) ∘ λk=>(((f k:Nat):Int),k))=ks:=List.map_id ks;rwa[e] at h
theorem qak1{f:Int->Nat}{p:Int×Int}(a:p∈Gk (ks.map λk=>(((f k:Nat):Int),k))):p.1=(f p.2:Nat):=by rw[List.mem_mergeSort] at a;obtain⟨k,_,rfl⟩:=zB8.mp a;rfl
theorem qba6{f:Int->Nat}(b:ks.Nodup):((Gk (ks.map λk=>(((f k:Nat):Int),k))).map (·.2)).Pairwise (L7 f):=by have a:=(qak0 (f:=f)).nodup_iff.mpr b;unfold List.Nodup at a;rw[zBx] at a ⊢;refine((qah0 _).and a).imp_of_mem λ{p q} c d h=>?_;have g:=qak1 c;have i:=qak1 d;have e:=h.1;simp only[S6.plt,decide_eq_false_iff_not] at e;have j:=h.2;unfold L7;lia
theorem qbe0{z:Bool}:∀{L R:List Int},¬k∈L->K9 (.l z (Q3 (L++k::R))) (.int k)=some (.int (L.length:Nat)):=by
 intro L R h;have e:B6 (.int k) ((L++k::R).map V.int)=some L.length:=by induction L with|nil=>show (if decide (k=k)=true then some 0 else _)=_;rw[if_pos (zAi rfl)];rfl|cons a L b=>rw[zAj,not_or] at h;show (if decide (a=k)=true then some 0 else (B6 (.int k) ((L++k::R).map V.int)).map (· + 1))=_;rw[if_neg (by simpa using λz=>h.1 z.symm),b h.2];rfl
 show ((flats (Q3 (L++k::R))).bind λc=>(B6 (.int k) c).map λj=>D.int (j:Nat))=_;rw[qL0];show (B6 (.int k) ((L++k::R).map V.int)).map (λj=>D.int (j:Nat))=_;rw[e];rfl
theorem qaj6{n:Int}{ps:Pr}{z:Bool}(h:1<=n):gIx (.l z (Q3 (Be n ps ks i n.toNat))) (.int (-1))=some (.int (onT n ps ks (n.toNat*i+n.toNat))):=by
 obtain⟨m,e⟩:∃m,n.toNat=m+1:=⟨n.toNat-1,⋯⟩;have e2:Be n ps ks i n.toNat=Be n ps ks i m++[onT n ps ks (n.toNat*i+m+1)]:=by rw[qN4,e]
 rw[e2,show n.toNat*i+n.toNat=n.toNat*i+m+1 by lia];unfold Q3;rw[zBo];exact qaL7 _ _
def qag9:VSp:=λds Q _=>∃n wr ps z ks,ds=[Ae n wr ps,.l z (Q3 ks)]/\1<=n/\n<=64/\(ps.map (·.1)).Nodup/\ks.Nodup/\ks.length<=200/\((∃q,Crowd n.toNat wr (Q0 n ps) ks q)->Q .non ds)/\((∀q,¬Crowd n.toNat wr (Q0 n ps) ks q)->∀g,Kept n.toNat wr (Q0 n ps) g ks->Q (rL n g) ds)
theorem qn4(T:Txt K mg a):VFn P w K mg base 3 a.f44 a.d44 ["_law_plan", "_law_keys"] qag9:=by
 refine VFn.mk2 T.d44.F qf7 (wOf [true,true]) (by walk_at "m") (by walk_at "l") (λ_ _ _ _ _ _ _ u=>⟨_,(Ac (sif (q2 (Ap B8 (qa8 _)) Fp (vbi qu3 qu2.ops T.Cz (qa2 (vnm 1) qa6 rfl)) (v2 (Av qb4) Al (vnm 0) Ad)) (Ag (An (qa3 A9))) Aw) (Ac (Aj 2 qf7.nd (Af T.d43 (qad8 T) qa0 (rm u) (vaN 0 (vaN 1 Aa)))) (Ac (sif (tand (Bi (tv (v2 (Av qb4) Al (vnm 0) Ad))) (Mc (q2 (Ap B8 (qa8 _)) Fp (v2 (Av qb4) Al (vnm 2) (vneg Ad)) Ad))).te (Ag (An (qa3 A9))) Aw) (Ac (Aj 3 qf7.nd (qa3 Ad)) (Ac (sif (tv (v2 (Av qb4) Al (vnm 0) Ad)) (Ag (Aj 3 qf7.nd (qa3 (v2 (Ak qh1) qh0 (vbm qas9 Qb Qe Qf qD0 (vnm 2) Ad qY8) Ad)))) Aw) (Ac (Aj 4 qf7.nd (qa3 (v2 (Ak qC2) qC1 (Bs (qa2 A9 qa6 rfl)) (v2 (Av qb4) Al (vnm 0) Ad)))) (Ac (Aj 5 qf7.nd (qa3 (vneg Ad))) (Ac (G9 P9 (ebi qao9 qaL1.ops T.Fd (Gv (vaV (ecN (NY:=["_law_key", "_law_begin", "_law_plan"]) (src:=[none,some 3,some 0]) 1 (blk (λav C s0 H0 ex=>(Bc 0 (show (["_law_key", "_law_begin", "_law_plan"]:List Str).Nodup by decide +kernel))) (λav C s0 H0 ex=>Hq) (λav C s0 H0 ex=>(Jj (vaV (e2v (Ak qr2) qr0 (e2v (Ak qr1) qq9 (Af T.d42 (qU8 T) qn7 (rm u) (vaN 2 (vaN 0 Aa))) (vnm 1)) (v2 (Av qb4) Al (vnm 2) Ad)) (vaV (qb9 (vnm 0)) Aa)))))) Aa))) (Km (n:=2) rfl (qP3 (Bc 6 qf7.nd) (qP3 (Bc 7 qf7.nd) Kl))) (Ac (Aj 5 qf7.nd (qa3 (vbi (qL9 rfl) qao3.ops T.Fc (qa2 (v2 (Ak qh1) qh0 (vnm 5) Ad) (qa2 (vnm 6) qa6 rfl) rfl)))) (Ag (Hm (qb9 (vnm 7)) (Gu (vpn 4) (v2 (Ak qr2) qr0 (v2 (Ak qh1) qh0 (vnm 3) (vnm 5)) (v2 (Av qb4) Al (vnm 0) Ad))))))) (Ag (An (emv 4))))))))))),λv Q xe h=>?_⟩);obtain⟨n,wr,j,z,o,rfl,M,n2,nd,N,hl,q,q'⟩:=h;have B:=G3 (ps:=j) M;have oc:=qat0 (T:=o) ⋯ B;refine At [Ae n wr j,.l z (Q3 o),.u,.u,.u,.u,.u,.u] rfl ?_;refine qi9 (decide (n<(o.length:Int))) (Ah (qD3 rfl) (y:=.int n) rfl (by rw[qh3];rfl)) (λh=>qg9 .non rfl (q ⟨0,⋯,?_⟩)) λh=>?_;{have h:=zAh h;cases wr with|true=>rw[if_pos rfl];exact⟨rfl,⋯⟩|false=>rw[if_neg ∅,List.filter_eq_self.mpr λ_ _=>zAi (zBi _)];lia};have a0:o.length<=n.toNat:=by have:=zBj h;lia
 refine qb1 [Ae n wr j,.l z (Q3 o),kL (Be n j o wr.toNat n.toNat),.u,.u,.u,.u,.u] (λK t=>qe0 (qK4 (x:=Ae n wr j) (y:=.l z (Q3 o)) rfl rfl rfl ⟨n,wr,j,z,o,rfl,M,n2,nd,hl,rfl⟩ rfl t)) ?_;refine qj2 (!wr&&decide (0<onT n j o (n.toNat*wr.toNat+n.toNat))) (λQ q=>qH8 (!wr) (decide (0<onT n j o (n.toNat*wr.toNat+n.toNat))) (λQ q=>qk8 (b:=wr) rfl q) (λ_ Q q=>qm6 (Ah (Ah rfl rfl (qaj6 M)) rfl rfl) q) q) (λh=>qg9 .non rfl (q ?_)) λh=>?_;{cases wr with|true=>cases h|false=>have h:=zAh h;rw[show n.toNat*false.toNat+n.toNat=n.toNat by show n.toNat*0+_=_;lia] at h;exact oc.mp h};refine qb1 [Ae n wr j,.l z (Q3 o),kL (Be n j o wr.toNat n.toNat),.int 0,.u,.u,.u,.u] (λK t=>t) ?_;refine qc1 (λv=>∃s:Nat,v=[Ae n wr j,.l z (Q3 o),kL (Be n j o wr.toNat n.toNat),.int (s:Nat),.u,.u,.u,.u]/\s<=n.toNat/\(wr=false->s=0)/\(∀q,¬Crowd n.toNat wr (Q0 n j) o q)/\∀q,¬Crowd n.toNat false (λk=>Ab n.toNat (s%n.toNat) (Q0 n j k)) o q) (λK t=>?_) ?_
 .refine if_v (b:=wr) rfl (λE=>?_) λE=>t _ ⟨0,rfl,⋯,λ_=>rfl,?_,?_⟩
  .subst E;obtain⟨r,u,h0⟩:=qaG6 (T:=o) ⋯ B a0;have hm:(0:Int)∈Be n j o 1 n.toNat:=zB8.mpr ⟨r,zAo.mpr u,by rw[Nat.mul_one];exact h0⟩;obtain⟨L,R,O,nL⟩:=List.eq_append_cons_of_mem hm;have S:L.length<n.toNat:=by have:=congrArg Ob O;unfold Be at this;simp at this;lia
   have Y:onT n j o (n.toNat+L.length+1)=0:=by
    have:(Be n j o 1 n.toNat)[L.length]?=some 0:=by rw[O];simp
    unfold Be at this;rw[zB9,List.getElem?_range S,Nat.mul_one] at this;exact P8 this
   refine qA0 (d:=.int ((L.length+1:Nat):Int)) (Ah (g:=Jf) (y:=.int 1) (Ah (g:=K9) (x:=kL (L++0::R)) (y:=.int 0) (by rw[<-O];rfl) rfl (qbe0 nL)) rfl rfl) (t _ ⟨L.length+1,rfl,⋯,λh=>absurd h ∅,λq c=>?_,qN9 S B Y⟩);have c:=c.2;rw[if_pos rfl] at c;lia
  {subst E;have h:decide _=false:=h;rw[show n.toNat*false.toNat+n.toNat=n.toNat by show n.toNat*0+_=_;lia] at h;exact λq c=>zBj h (oc.mpr ⟨q,c⟩)};subst E;have h:decide _=false:=h;rw[show n.toNat*false.toNat+n.toNat=n.toNat by show n.toNat*0+_=_;lia] at h;rw[Nat.zero_mod,show (λk=>Ab n.toNat 0 (Q0 n j k))=Q0 n j from funext λk=>J1];exact λq c=>zBj h (oc.mpr ⟨q,c⟩)
 rintro v ⟨s,rfl,hs,E,nc,a1⟩;have G:s%n.toNat<n.toNat:=Nat.mod_lt _ ⋯;generalize eP:kL (Be n j o wr.toNat n.toNat)=H;refine qb1 [Ae n wr j,.l z (Q3 o),H,.int (s:Nat),.l false (Q4 n.toNat λ_=>none),.u,.u,.u] (λK t=>qA0 (Ah rfl (y:=.int n) rfl (qV0 ⋯ n2)) t) ?_;refine qb1 [Ae n wr j,.l z (Q3 o),H,.int (s:Nat),.l false (Q4 n.toNat λ_=>none),.int (-1),.u,.u] (λK t=>t) ?_;refine qc1 (λv=>∃g d5 I J,v=[Ae n wr j,.l z (Q3 o),H,.int (s:Nat),rL n g,d5,I,J]/\Kept n.toNat wr (Q0 n j) g o) (λK t=>?_) ?_
 .refine Kt (qd2 (qa1 (a:=D.l z (Q3 o)) rfl (qa1 (a:=Q3 o) rfl ⟨qe8 o,?_⟩)));refine qi7 (λι=>∃d,ι=[d,.int (s:Nat),Ae n wr j]) (λx=>some (match x with | .int k=>.q [.int (Ab n.toNat (s%n.toNat) (Q0 n j k):Nat),.int k] | d=>d)) _ [] _ (by show 0+_<1000000;rw[qh3];lia) ⟨_,rfl⟩ ?_ ?_;{rintro y U ι a4 ⟨d,rfl⟩ R hR V;obtain⟨k,_,rfl⟩:=zB8.mp U;have this:=hR [.int k,.int (s:Nat),Ae n wr j] ⟨_,rfl⟩;refine qk4 (Mt (By rfl (qd2 (qu5 (qu5 (qK4 (x:=Ae n wr j) (y:=.int k) (d:=.int (qd4 n j k)) rfl rfl rfl ⟨n,wr,j,k,rfl,M,nd,rfl⟩ rfl ?_))))));refine qa1 (a:=D.int (qd4 n j k-(s:Nat))) rfl (qa1 (a:=D.int (Ab n.toNat (s%n.toNat) (Q0 n j k):Nat)) ((G2 ⋯).trans ?_) (qe1 (y:=.int k) rfl rfl (qb6 ⟨lt2,V,this⟩)));have Y:=qaH5 (B k) hs;rw[qO8 M k,show ((n.toNat:Nat):Int)=n by lia] at Y;rw[Y]};rintro ι ⟨d,rfl⟩;rw[zB4,qan8];have O:((Q3 o).map λx=>match x with | .int k=>D.q [.int (Ab n.toNat (s%n.toNat) (Q0 n j k):Nat),.int k] | d=>d)=Q5 (o.map λk=>((Ab n.toNat (s%n.toNat) (Q0 n j k):Nat),k)):=by unfold Q3 Q5;rw[zC4,zC4];rfl
  rw[O];have pw:=qba6 (f:=λk=>Ab n.toNat (s%n.toNat) (Q0 n j k)) N;have Z:=qak0 (f:=λk=>Ab n.toNat (s%n.toNat) (Q0 n j k)) (ks:=o);have of:=λp=>qak1 (f:=λk=>Ab n.toNat (s%n.toNat) (Q0 n j k)) (ks:=o) (p:=p);have es:=qar4 (z:=false) (L:=o.map λk=>(((Ab n.toNat (s%n.toNat) (Q0 n j k):Nat):Int),k)) rfl N ⋯;generalize Gk (o.map λk=>(((Ab n.toNat (s%n.toNat) (Q0 n j k):Nat):Int),k))=L at pw Z of es;refine qb6 (qa1 (a:=D.l false (Q5 L)) es (qa1 (a:=Q5 L) rfl ⟨qO7 L,?_⟩));refine qf3 (λi v=>∃g top I J,v=[Ae n wr j,.l z (Q3 o),H,.int (s:Nat),.l false (Q4 n.toNat λi=>g (Ab n.toNat (s%n.toNat) i)),.int ((top:Nat)-1:Int),I,J]/\Fill n.toNat (λk=>Ab n.toNat (s%n.toNat) (Q0 n j k)) g ((L.take i).map (·.2)) top) _ 0 _ ⟨_,0,_,_,rfl,Fill.start ⋯ λk=>qj3 (B k) G⟩ ?_ ?_
  .rintro i y U v ⟨g,top,I,J,rfl,F⟩ K2 W;rw[zAl] at F W;unfold Q5 at U;rw[zB9] at U;obtain⟨⟨h0,k⟩,hp,rfl⟩:=zA8.mp U;obtain rfl:h0=((Ab n.toNat (s%n.toNat) (Q0 n j k):Nat):Int):=of _ (zB2 hp);have a2:=(zA4.mp hp).1;have a3:L.map (·.2)=((L.take i).map (·.2)++[k])++(L.drop (i+1)).map (·.2):=by
    conv=>lhs;rw[<-zBh i L,zC6 a2,(zA4.mp hp).2]
    simp
   have tk:(L.take (i+1)).map (·.2)=(L.take i).map (·.2)++[k]:=by rw[Oc,hp,zBo];rfl
   rw[a3] at pw Z;have A:∀x∈(L.take i).map (·.2),L7 (λk=>Ab n.toNat (s%n.toNat) (Q0 n j k)) x k:=λx hx=>(List.pairwise_append.mp (List.pairwise_append.mp pw).1).2.2 x hx k (zAd.mpr rfl);have nk:¬k∈(L.take i).map (·.2):=λh=>by rcases A k h with z|z<;>lia
   have u:=F.room A λq c=>a1 q ((c.mono (Ox _ _)).perm Z);have F':=F.put nk A u;generalize er:max top (Ab n.toNat (s%n.toNat) (Q0 n j k))=r at u F';refine qD5 (At [Ae n wr j,.l z (Q3 o),H,.int (s:Nat),.l false (Q4 n.toNat λi=>g (Ab n.toNat (s%n.toNat) i)),.int ((top:Nat)-1:Int),.int (Ab n.toNat (s%n.toNat) (Q0 n j k):Nat),.int k] rfl ?_);refine qb1 [Ae n wr j,.l z (Q3 o),H,.int (s:Nat),.l false (Q4 n.toNat λi=>g (Ab n.toNat (s%n.toNat) i)),.int (r:Nat),.int (Ab n.toNat (s%n.toNat) (Q0 n j k):Nat),.int k] (λK t=>qA0 (d:=.int (r:Nat)) ?_ t) ?_;{show some (D.int (if ((Ab n.toNat (s%n.toNat) (Q0 n j k):Nat):Int)>(top:Nat)-1+1 then ((Ab n.toNat (s%n.toNat) (Q0 n j k):Nat):Int) else (top:Nat)-1+1))=_;congr 2;split<;>lia};have em:(((s:Nat):Int)+(r:Nat))%n=(rot n.toNat (s%n.toNat) r:Nat):=by have:((s+r:Nat):Int)%((n.toNat:Nat):Int)=((s+r)%n.toNat:Nat):=⋯;rw[show ((n.toNat:Nat):Int)=n by lia,Nat.add_mod,zCi u,qay5 G u] at this;rw[<-this];congr 1
   refine qM4 (ys:=Q4 n.toNat λi=>g (Ab n.toNat (s%n.toNat) i)) (d:=.int k) (k:=(rot n.toNat (s%n.toNat) r:Nat)) rfl rfl rfl (Ah (x:=.int ((s:Nat)+(r:Nat))) (y:=.int n) rfl rfl ((G2 ⋯).trans (by rw[em]))) (Ll (qT8 G u)) ?_;rw[qI6];have ec:Q4 n.toNat (Row.set (λi=>g (Ab n.toNat (s%n.toNat) i)) (rot n.toNat (s%n.toNat) r) k)=Q4 n.toNat λi=>Row.set g r k (Ab n.toNat (s%n.toNat) i):=ql7 λi hi=>by by_cases e:i=rot n.toNat (s%n.toNat) r;{subst e;rw[qc3,qs2 G u,qc3]};rw[qe2 e,qe2 λz=>e (by rw[<-z,qq7 G hi])]
   refine W _ ⟨_,r+1,.int (Ab n.toNat (s%n.toNat) (Q0 n j k):Nat),.int k,?_,by rw[tk];exact F'⟩;rw[<-ec,show (((r+1:Nat):Int)-1)=((r:Nat):Int) by lia];rfl
  rintro v ⟨g,top,I,J,rfl,F⟩;have X:(Q5 L).length=L.length:=zAe _;rw[zAl,X,Oe] at F;refine t _ ⟨_,_,_,_,rfl,?_⟩;have K1:=F.k.of_perm Z;cases wr with|true=>exact K1.turn G B|false=>obtain rfl:=E rfl;rw[Nat.zero_mod] at K1 ⊢;rw[show (λk=>Ab n.toNat 0 (Q0 n j k))=Q0 n j from funext λk=>J1] at K1;rw[show (λi=>g (Ab n.toNat 0 i))=g from funext λi=>by rw[J1]];exact K1
 rintro v ⟨g,d5,I,J,rfl,KP⟩;exact q' nc g KP
theorem qd0:qa9 ["_law_bag_here", "_law_size", "_law_many", "_law_way", "_law_one", "_law_other", "_law_homes", "_law_k", "_law_some"] ["_law_bag_here", "_law_size", "_law_many"] (qa4 ql5):=by walk_at "s"
def qE7:VSp:=λds Q _=>∃b n m ns,ds=[b,.int n,.int m]/\Re ns b/\1<=n/\n<=64/\0<=m/\m<=100/\∀c a,Re ns c->(∀h∈a,0<=h/\h<n)->a.length=m.toNat->Q (kL a) [c,.int n,.u]
theorem qaX9{x y i:Int}(c:0<=i)(h1:i<2){P:Int->Prop}(d:P x)(e:P y):∃v,atI [D.int x,D.int y] i=some (.int v)/\P v:=by obtain⟨v,a,b⟩:=qE1 (xs:=[D.int x,D.int y]) c h1;simp only[zAj,zBk,or_false] at a;rcases a with rfl|rfl;{exact⟨x,b,d⟩};exact⟨y,b,e⟩
theorem qP5{x y z w i:Int}(c:0<=i)(h1:i<4){P:Int->Prop}(d:P x)(e:P y)(f:P z)(g:P w):∃v,atI [D.int x,D.int y,D.int z,D.int w] i=some (.int v)/\P v:=by obtain⟨v,b,a⟩:=qE1 (xs:=[D.int x,D.int y,D.int z,D.int w]) c h1;simp only[zAj,zBk,or_false] at b;rcases b with rfl|rfl|rfl|rfl;{exact⟨x,a,d⟩};{exact⟨y,a,e⟩};{exact⟨z,a,f⟩};exact⟨w,a,g⟩
theorem qF4(T:Txt K mg a):VFn P w K mg base 2 a.f45 a.d45 ["_law_bag_here", "_law_size", "_law_many"] qE7:=by
 refine VFn.mk' T.d45.F qd0 (wOf [true,true,true]) (λc Q Q' M X Y _ h=>by obtain⟨b,n,m,j,e,N,O,R,A,Z,q⟩:=h;exact⟨b,n,m,j,e,N,O,R,A,Z,λs f S a2 a3=>Y _ _ (q s f S a2 a3)⟩) (λc Q M h=>by obtain⟨b,n,m,j,e,_⟩:=h;rw[e];rfl) (λc Q M h=>by obtain⟨b,n,m,j,e,⟨x,y,z,eb,_⟩,_⟩:=h;rw[e,eb];rfl) (λ_ _ _ _ _ _ _ C=>⟨_,(Ac (Aj 3 qd0.nd (Af T.d41 (qb8 T) qa0 (rm C) (vaN 0 (vaV (qa3 Ad) Aa)))) (Ac (Aj 4 qd0.nd (Af T.d41 (qb8 T) qa0 (rm C) (vaN 0 (vaN 1 Aa)))) (Ac (Aj 5 qd0.nd (Af T.d41 (qb8 T) qa0 (rm C) (vaN 0 (vaN 1 Aa)))) (Ac (Aj 6 qd0.nd (qa3 (Bs qa6))) (Ac (Lb P9 T.D3 (Gv (vaN 2 Aa)) (Bc 7 qd0.nd) (Ac (Aj 8 qd0.nd (Hg (vaV (Af T.d41 (qb8 T) qa0 (rm C) (vaN 0 (vaN 1 Aa))) (vaV (qb9 (vnm 4)) (vaV (e2 (Ak qr1) qq9 (qa3 (v2 (Ak qr1) qq9 (vnm 1) Ad)) (Af T.d41 (qb8 T) qa0 (rm C) (vaN 0 (vaV (qa3 (vbi (qz3 rfl) qaa2.ops T.Et (qa2 Ad (qa2 (vnm 1) qa6 rfl) rfl))) Aa)))) (vaV (qa3 (v2 (Av qb4) Al (Bs (qa2 (vnm 4) (qa2 (vnm 5) qa6 rfl) rfl)) (v2 (Ak qr2) qr0 (vnm 7) Ad))) Aa)))))) (Ag (Bd (Gj 6 qC9 Qb Qc Qd qf1 (vaV (qb9 (v2 (Av qb4) Al (vnm 8) (vnm 3))) Aa)))))) (Ag (An (emv 6)))))))),λc Q M h=>?_⟩);obtain⟨b,n,m,j,rfl,B,n1,n2,m0,m1,q⟩:=h;refine At [b,.int n,.int m,.u,.u,.u,.u,.u,.u] rfl ?_;refine qc1 (λc=>∃b w,c=[b,.int n,.int m,.int w,.u,.u,.u,.u,.u]/\Re j b/\0<=w/\w<4) (λK g=>?_) ?_;{exact qc5 rfl B rfl ∅ ∅ λv s E G B'=>g _ ⟨s,v,rfl,B',E,G⟩};rintro c ⟨b,way,rfl,B,w0,w1⟩;refine qc1 (λc=>∃b o,c=[b,.int n,.int m,.int way,.int o,.u,.u,.u,.u]/\Re j b/\0<=o/\o<n) (λK g=>?_) ?_;{exact qz4 (m:=n) rfl B rfl ∅ ⋯ ⋯ λv s E G B'=>g _ ⟨s,v,rfl,B',E,G⟩};rintro c ⟨b,o,rfl,B,V,W⟩;refine qc1 (λc=>∃b p,c=[b,.int n,.int m,.int way,.int o,.int p,.u,.u,.u]/\Re j b/\0<=p/\p<n) (λK g=>?_) ?_;{exact qz4 (m:=n) rfl B rfl ∅ ⋯ ⋯ λv s E G B'=>g _ ⟨s,v,rfl,B',E,G⟩};rintro c ⟨b,p,rfl,B,p0,p1⟩;refine qb1 [b,.int n,.int m,.int way,.int o,.int p,kL [],.u,.u] (λK g=>g) ?_;refine qc1 (λc=>∃b f t k,c=[b,.int n,.u,.int way,.int o,.int p,kL f,t,k]/\Re j b/\(∀h∈f,0<=h/\h<n)/\f.length=m.toNat) (λK g=>?_) ?_
 .refine qau9 (n:=m) rfl (Mr ⋯ ⋯) ?_;refine qf3 (λi c=>∃b f t k,c=[b,.int n,.u,.int way,.int o,.int p,kL f,t,k]/\Re j b/\(∀h∈f,0<=h/\h<n)/\f.length=i) _ 0 _ ⟨b,[],_,_,rfl,B,nofun,rfl⟩ ?_ ?_
  .rintro i x hx c ⟨b,f,t,k,rfl,B,U,L⟩ K2 H;rw[zAl] at L H;obtain⟨hi,rfl⟩:=Lj hx;refine At [b,.int n,.u,.int way,.int o,.int p,kL f,.int (i:Nat),k] rfl ?_;refine qc1 (λc=>∃b u I l r,c=[b,.int n,.u,.int way,.int o,.int p,kL f,.int (i:Nat),.l false [.int u,.int I,.int l,.int r]]/\Re j b/\(0<=u/\u<n)/\(0<=I/\I<n)/\(0<=l/\l<n)/\(0<=r/\r<n)) (λK g=>?_) ?_
   .refine qe0 (qr7 (qd2 ?_));refine qz4 (ds:=[b,.int n,.u,.int way,.int o,.int p,kL f,.int (i:Nat),k]) (m:=n) rfl B rfl ∅ ⋯ ⋯ λu b1 a0 S B1=>?_;refine qe1 (y:=.int o) rfl rfl (qd2 (qy0 (x:=.int (n-1)) rfl ?_));refine qc5 (ds:=[b1,.int n,.u,.int way,.int o,.int p,kL f,.int (i:Nat),k]) (m:=if n<4 then n else 4) rfl B1 rfl (by split<;>lia) (by split<;>lia) λl b2 c0 c1 B2=>?_;have c2:l<n:=by revert c1;split<;>lia
    refine qa1 (a:=D.int (n-1-l)) rfl ?_;obtain⟨r,e4,A⟩:=qaX9 (x:=o) (y:=p) (i:=((i:Nat):Int)%2) ⋯ ⋯ (P:=λv=>0<=v/\v<n) ⟨V,W⟩ ⟨p0,p1⟩;refine qc8 (y:=.int r) (Ah (x:=.l false [.int o,.int p]) rfl (Ah (x:=.int (i:Nat)) (y:=.int 2) rfl rfl (G2 ∅)) e4) (qb6 ⟨lt4,?_⟩);exact g _ ⟨b2,u,o,n-1-l,r,rfl,B2,⟨a0,S⟩,⟨V,W⟩,⟨⋯,⋯⟩,A⟩
   rintro c ⟨b,u,I,l,r,rfl,B,N,O,R,A⟩;obtain⟨v,ev,hv⟩:=qP5 (P:=λv=>0<=v/\v<n) w0 w1 N O R A;refine qaC3 (ys:=Q3 f) (d:=.int v) rfl (Ah (x:=.l false [.int u,.int I,.int l,.int r]) rfl rfl ev) rfl (by rw[qh3];unfold big;lia) ?_;rw[qY2];refine H _ ⟨b,f++[v],_,_,rfl,B,λh J=>?_,by rw[zAb,L];rfl⟩;rcases zAf.mp J with J|J;{exact U h J};rw[zAd.mp J];exact hv
  rintro c ⟨b,f,t,k,rfl,h⟩;rw[zAl,qY1] at h;exact g _ ⟨b,f,t,k,rfl,h⟩
 rintro c ⟨b,f,t,k,rfl,B,U,L⟩;exact q b f B U L
theorem qe3:qa9 ["_law_bag_here", "_law_most", "_law_way", "_law_size", "_law_wraps", "_law_many", "_law_told_here", "_law_great", "_law_keys", "_law_home_here", "_law_key", "_law_homes", "_law_number"] ["_law_bag_here", "_law_most"] (qa4 qT5):=by walk_at "s"
def qar2:VSp:=λds Q _=>∃b M ns,ds=[b,.int M]/\Re ns b/\1<=M/\M<=64/\∀a n wr ps ks,Re ns a->1<=n->n<=64->qG0 ps->ks.Nodup->(∀k∈ks,Am k)->ks.length<=66->Q (.q [Ae n wr ps,kL ks]) [a,.int M]
theorem qaC7{x y z i:Int}(c:0<=i)(h1:i<3){P:Int->Prop}(d:P x)(e:P y)(f:P z):∃v,atI [D.int x,D.int y,D.int z] i=some (.int v)/\P v:=by obtain⟨v,b,a⟩:=qE1 (xs:=[D.int x,D.int y,D.int z]) c h1;simp only[zAj,zBk,or_false] at b;rcases b with rfl|rfl|rfl;{exact⟨x,a,d⟩};{exact⟨y,a,e⟩};exact⟨z,a,f⟩
theorem qaV4{x i:Int}(b:0<=i)(h1:i<5)(d:0<=x/\x<=64):∃v,atI [D.int 0,D.int 0,D.int 1,D.int 6,D.int x] i=some (.int v)/\0<=v/\v<=64:=by obtain⟨v,a,c⟩:=qE1 (xs:=[D.int 0,D.int 0,D.int 1,D.int 6,D.int x]) b h1;simp only[zAj,zBk,or_false] at a;rcases a with rfl|rfl|rfl|rfl|rfl<;>exact⟨_,c,⋯,⋯⟩
theorem qaO7{ps:Pr}{m:Int}:Q5 ps++[.q [.int k,.int m]]=Q5 (ps++[(k,m)]):=by unfold Q5;rw[zBo];rfl
theorem qaS2(ps:Pr):(Q5 ps).length=ps.length:=zAe _
abbrev qf0 (M) (way) (n:Int) (wr:Bool) (told) (gr) (p0 d e f a b c:D):=([p0,.int M,.int way,.int n,.bl wr,d,.int told,.int gr,e,f,a,b,c]:Ds)
theorem qat2(T:Txt K mg a):VFn P w K mg base 3 a.f46 a.d46 ["_law_bag_here", "_law_most"] qar2:=by
 refine VFn.mk' T.d46.F qe3 (wOf [true,true]) (λc Q Q' xe a9 hQ _ h=>by obtain⟨b,M,s,e,h1,h2,h3,q⟩:=h;exact⟨b,M,s,e,h1,h2,h3,λO n wr j f a1 H a3 a4 a5 a6 a7=>hQ _ _ (q O n wr j f a1 H a3 a4 a5 a6 a7)⟩) (λc Q xe ⟨b,M,s,e,_⟩=>by rw[e];rfl) (λc Q xe h=>by obtain⟨b,M,s,e,⟨x,y,z,eb,_⟩,_⟩:=h;rw[e,eb];rfl) (λ_ _ _ _ _ _ _ t=>⟨_,(Ac (Aj 2 qe3.nd (Af T.d41 (qb8 T) qa0 (rm t) (vaN 0 (vaV (qa3 Ad) Aa)))) (Ac (Aj 3 qe3.nd (e2vP (Av qb4) Al (Hg (vaV (e2 (Ak qh1) qh0 (qa3 Ad) (Af T.d41 (qb8 T) qa0 (rm t) (vaN 0 (vaV (qa3 (vbi (qz3 rfl) qaa2.ops T.Et (qa2 Ad (qa2 (vnm 1) qa6 rfl) rfl))) Aa)))) (vaV (e2 (Ak qh1) qh0 (qa3 Ad) (Af T.d41 (qb8 T) qa0 (rm t) (vaN 0 (vaV (qa3 (vbi (qz3 rfl) qaa2.ops T.Et (qa2 Ad (qa2 (vnm 1) qa6 rfl) rfl))) Aa)))) (vaV (e2 (Ak qh1) qh0 (qa3 Ad) (Af T.d41 (qb8 T) qa0 (rm t) (vaN 0 (vaN 1 Aa)))) (vaV (qb9 (vnm 1)) Aa))))) (vnm 2))) (Ac (Aj 4 qe3.nd (e2v (Ax (qm4 t.u64) (qa8 _)) Bk (Af T.d41 (qb8 T) qa0 (rm t) (vaN 0 (vaV (qa3 Ad) Aa))) Ad)) (Ac (Aj 5 qe3.nd (e2P (Av qb4) Al (Hg (vaV (qb9 (vnm 3)) (vaV (qa3 (v2 (Ak qh1) qh0 (vnm 3) Ad)) (vaV (qa3 (v2 (Ak qh1) qh0 Ad (v2 (Ak qU2) qaG4 (v2 (Ak qC2) qC1 (vnm 3) Ad) Ad))) (vaV (Af T.d41 (qb8 T) qa0 (rm t) (vaN 0 (vaV (qa3 (v2 (Ak qh1) qh0 (vnm 3) Ad)) Aa))) Aa))))) (Af T.d41 (qb8 T) qa0 (rm t) (vaN 0 (vaV (qa3 Ad) Aa))))) (Ac (Aj 6 qe3.nd (e2P (Av qb4) Al (qa3 (Bs (qa2 Ad (qa2 Ad (qa2 Ad (qa2 Ad (qa2 Ad qa6 rfl) rfl) rfl) rfl) rfl))) (Af T.d41 (qb8 T) qa0 (rm t) (vaN 0 (vaV (qa3 Ad) Aa))))) (Ac (Aj 7 qe3.nd (e2P (Av qb4) Al (qa3 (Bs (qa2 Ad (qa2 Ad (qa2 Ad (qa2 (vpow 10000000000000000) qa6 rfl) rfl) rfl) rfl))) (Af T.d41 (qb8 T) qa0 (rm t) (vaN 0 (vaV (qa3 Ad) Aa))))) (Ac (Aj 8 qe3.nd (qa3 (Bs qa6))) (Ac (G9 P9 (Af T.d45 (qF4 T) qa0 (rm t) (vaN 0 (vaN 3 (vaN 5 Aa)))) (Bc 9 qe3.nd) (Ac (Aj 10 qe3.nd (e2n 9 (Ak qh1) qh0 (e2n 3 (Ak qC2) qC1 (Af T.d41 (qb8 T) qa0 (rm t) (vaN 0 (vaN 7 Aa)))))) (Ag (sif (q2 (Ap qC3 (by with_unfolding_all rfl)) Ke (vnm 10) (vnm 8)) (Ag (Bd (Gj 8 qC9 Qb Qc Qd qf1 (vaN 10 Aa)))) Aw)))) (Ac (Aj 11 qe3.nd (qa3 (Bs qa6))) (Ac (G9 P9 (qa3 (vsl (vnm 8) Hk (Hl (vnm 6)))) (Bc 10 qe3.nd) (Ac (Aj 12 qe3.nd (e2P (Av qb4) Al (Hg (vaV (Af T.d41 (qb8 T) qa0 (rm t) (vaN 0 (vaN 3 Aa))) (vaV (e2 (Ak qr1) qq9 (qa3 (vpow 1000000000000000000)) (Af T.d41 (qb8 T) qa0 (rm t) (vaN 0 (vaN 3 Aa)))) (vaV (Af T.d41 (qb8 T) qa0 (rm t) (vaN 0 (vaV (qa3 (vpow 1000000000000000000)) Aa))) Aa)))) (Af T.d41 (qb8 T) qa0 (rm t) (vaN 0 (vaV (qa3 Ad) Aa))))) (Ag (Bd (Gj 11 qC9 Qb Qc Qd qf1 (vaV (qa3 (Ga (qa2 (vnm 10) (qa2 (vnm 12) qa6 rfl) rfl))) Aa)))))) (Ag (An (Jj (vaV (Jj (vaV (qb9 (vnm 3)) (vaV (qb9 (vnm 4)) (vaV (efz 11) Aa)))) (vaV (emv 8) Aa))))))))))))))),λc Q xe h=>?_⟩);obtain⟨b,M,s,rfl,B,M0,M1,q⟩:=h;refine At [b,.int M,.u,.u,.u,.u,.u,.u,.u,.u,.u,.u,.u] rfl ?_;refine qc1 (λc=>∃b way,c=[b,.int M,.int way,.u,.u,.u,.u,.u,.u,.u,.u,.u,.u]/\Re s b/\0<=way/\way<4) (λK o=>?_) ?_;{exact qc5 rfl B rfl ∅ ∅ λv O X v1 B'=>o _ ⟨O,v,rfl,B',X,v1⟩};rintro c ⟨b,way,rfl,B,w0,w1⟩;refine qc1 (λc=>∃b n,c=[b,.int M,.int way,.int n,.u,.u,.u,.u,.u,.u,.u,.u,.u]/\Re s b/\1<=n/\n<=64) (λK o=>?_) ?_
 .refine qe0 (qay1 (qr7 (qd2 (qy0 (x:=.int 1) rfl ?_))));refine qc5 (ds:=[b,.int M,.int way,.u,.u,.u,.u,.u,.u,.u,.u,.u,.u]) (m:=if M<8 then M else 8) rfl B rfl (by split<;>lia) (by split<;>lia) λR L a1 c1 B1=>?_;have e1:R<M:=by revert c1;split<;>lia
  refine qa1 (a:=D.int (1+R)) rfl (qd2 (qy0 (x:=.int 1) rfl ?_));refine qc5 (ds:=[L,.int M,.int way,.u,.u,.u,.u,.u,.u,.u,.u,.u,.u]) (m:=if M<16 then M else 16) rfl B1 rfl (by split<;>lia) (by split<;>lia) λI J H N B2=>?_;have e2:I<M:=by revert N;split<;>lia
  refine qa1 (a:=D.int (1+I)) rfl (qd2 (qy0 (x:=.int 1) rfl ?_));refine qz4 (ds:=[J,.int M,.int way,.u,.u,.u,.u,.u,.u,.u,.u,.u,.u]) (m:=M) rfl B2 rfl ∅ ⋯ ⋯ λx3 b3 a3 c3 B3=>?_;refine qa1 (a:=D.int (1+x3)) rfl (qe1 (y:=.int M) rfl rfl (qb6 ⟨lt4,qa1 (a:=D.int way) rfl ⟨rfl,?_⟩⟩));obtain⟨n,en,hn⟩:=qP5 (P:=λv=>1<=v/\v<=64) w0 w1 (x:=1+R) (y:=1+I) (z:=1+x3) (w:=M) ⟨⋯,⋯⟩ ⟨⋯,⋯⟩ ⟨⋯,⋯⟩ ⟨M0,M1⟩;exact qa1 en (o _ ⟨b3,n,rfl,B3,hn.1,hn.2⟩)
 rintro c ⟨b,n,rfl,B,n1,n2⟩;refine qc1 (λc=>∃b wr,c=[b,.int M,.int way,.int n,.bl wr,.u,.u,.u,.u,.u,.u,.u,.u]/\Re s b) (λK o=>?_) ?_;{refine qe0 (qu5 (qc5 rfl B rfl ∅ ∅ λv O X v1 B'=>?_));exact qa1 (a:=D.bl (decide (v=1))) rfl (o _ ⟨O,_,rfl,B'⟩)};rintro c ⟨b,wr,rfl,B⟩;refine qc1 (λc=>∃b m,c=[b,.int M,.int way,.int n,.bl wr,.int m,.u,.u,.u,.u,.u,.u,.u]/\Re s b/\0<=m/\m<=66) (λK o=>?_) ?_;{refine qe0 (Mx (qr7 (qe1 (y:=.int n) rfl rfl (qc8 (y:=.int (n+2)) rfl (qc8 (y:=.int (1+n*3/4)) (Ah (x:=.int 1) rfl (Ah (x:=.int (n*3)) (y:=.int 4) (Ah (x:=.int n) (y:=.int 3) rfl rfl (Ms ∅)) rfl (qaK9 ∅ ∅)) rfl) (qd2 ?_))))));refine qc5 (ds:=[b,.int M,.int way,.int n,.bl wr,.u,.u,.u,.u,.u,.u,.u,.u]) (m:=n+1) rfl B rfl ⋯ ⋯ λR L a1 c1 B1=>?_;refine qb6 ⟨lt4,?_⟩;refine qc5 (ds:=[L,.int M,.int way,.int n,.bl wr,.u,.u,.u,.u,.u,.u,.u,.u]) (m:=4) rfl B1 rfl ∅ ∅ λI J H N B2=>?_;obtain⟨m,Y,A⟩:=qP5 (P:=λv=>0<=v/\v<=66) H N (x:=n) (y:=n+2) (z:=1+n*3/4) (w:=R) ⟨⋯,⋯⟩ ⟨⋯,⋯⟩ ⟨⋯,⋯⟩ ⟨⋯,⋯⟩;exact qa1 Y (o _ ⟨J,m,rfl,B2,A.1,A.2⟩)};rintro c ⟨b,m,rfl,B,m0,m1⟩;refine qc1 (λc=>∃b told,c=[b,.int M,.int way,.int n,.bl wr,.int m,.int told,.u,.u,.u,.u,.u,.u]/\Re s b/\0<=told/\told<=64) (λK o=>?_) ?_;{refine qe0 (qy0 (x:=.l false [.int 0,.int 0,.int 1,.int 6,.int 40]) rfl (qc5 (ds:=[b,.int M,.int way,.int n,.bl wr,.int m,.u,.u,.u,.u,.u,.u,.u]) (m:=5) rfl B rfl ∅ ∅ λI J H N B2=>?_));obtain⟨m,Y,A⟩:=qaV4 (x:=40) H N ∅;exact qa1 Y (o _ ⟨J,m,rfl,B2,A.1,A.2⟩)};rintro c ⟨b,told,rfl,B,t0,t1⟩;refine qc1 (λc=>∃b r,c=(qf0 M way n wr told r b (.int m) .u .u .u .u .u)/\Re s b/\1<=r/\r<=10000000000000000) (λK o=>?_) ?_;{refine qe0 (qy0 (x:=.l false [.int 9,.int 9,.int 9,.int 10000000000000000]) rfl (qc5 (ds:=[b,.int M,.int way,.int n,.bl wr,.int m,.int told,.u,.u,.u,.u,.u,.u]) (m:=4) rfl B rfl ∅ ∅ λI J H N B2=>?_));obtain⟨m,Y,A⟩:=qP5 (P:=λv=>1<=v/\v<=10000000000000000) H N (x:=9) (y:=9) (z:=9) (w:=10000000000000000) ∅ ∅ ∅ ∅;exact qa1 Y (o _ ⟨J,m,rfl,B2,A.1,A.2⟩)};rintro c ⟨b,r,rfl,B,g0,g1⟩;refine qb1 (qf0 M way n wr told r b (.int m) (kL []) .u .u .u .u) (λK o=>o) ?_;refine qc1 (λc=>∃b f u g,c=(qf0 M way n wr told r b .u (kL f) u g .u .u)/\Re s b/\f.Nodup/\(∀k∈f,Am k)/\f.length<=66) (λK o=>?_) ?_
 .refine qax3 (x:=b) (y:=.int n) (w:=.int m) (qe7 rfl B.known) rfl rfl rfl (qe7 rfl B.known) ⟨b,n,m,s,rfl,B,n1,n2,m0,⋯,λL hs B1 hh hl=>?_⟩;refine qa1 (a:=(qf0 M way n wr told r L .u (kL []) .u .u .u .u)) rfl (qa1 (a:=Q3 hs) rfl ⟨qe8 hs,?_⟩);refine qf3 (λi c=>∃b f u g,c=(qf0 M way n wr told r b .u (kL f) u g .u .u)/\Re s b/\f.Nodup/\(∀k∈f,Am k)/\f.length<=i) _ 0 _ ⟨L,[],_,_,rfl,B1,O0,nofun,zA3 _⟩ ?_ ?_
  .rintro i x S c ⟨b,f,u,g,rfl,B,U,V,C⟩ K2 E;rw[zAl] at C E;obtain⟨h,hi,rfl⟩:=qau0 S;obtain⟨h0,h1⟩:=hh h (zB2 hi);have a0:i<66:=by have:=(zA4.mp hi).1;lia
   refine qk4 (At (qf0 M way n wr told r b .u (kL f) (.int h) g .u .u) rfl ?_);refine qc1 (λc=>∃b W,c=(qf0 M way n wr told r b .u (kL f) (.int h) (.int W) .u .u)/\Re s b/\Am W) (λK o=>?_) ?_;{refine qe0 ⟨rfl,rfl,?_⟩;refine qz4 (ds:=[b,.int M,.int way,.int n,.bl wr,.u,.int told,.int r,kL f,.int h,g,.u,.u]) (m:=r) rfl B rfl ∅ ⋯ ⋯ λv O X v1 B'=>?_;have e2:0<=n*v:=Int.mul_nonneg ⋯ X;have e3:n*v<=64*v:=Int.mul_le_mul_of_nonneg_right n2 X;exact qa1 (a:=D.int (n*v)) (mulL (qah1 ⋯ ⋯)) (qa1 (a:=D.int (h+n*v)) rfl (o _ ⟨O,h+n*v,rfl,B',⋯,⋯⟩))};rintro c ⟨b,W,rfl,B,a8⟩;refine if_v (b:=!decide (W∈f)) (Ah rfl rfl qak5) (λhb=>?_) λhb=>E _ ⟨b,f,_,_,rfl,B,U,V,⋯⟩;have A:¬W∈f:=λz=>by rw[zAi z] at hb;cases hb
   refine qaW7 (ys:=Q3 f) (d:=.int W) rfl rfl rfl ∅ (by rw[qh3];unfold big;lia) ?_;rw[qY2];refine E _ ⟨b,f++[W],_,_,rfl,B,zBs.mpr ⟨U,(by simp),λx S y hy e=>A (by rw[<-zAd.mp hy,<-e];exact S)⟩,λx S=>?_,by rw[zAb];exact Nat.add_le_add_right C 1⟩;rcases zAf.mp S with h|h;{exact V x h};rw[zAd.mp h];exact a8
  rintro c ⟨b,f,u,g,rfl,B,U,V,C⟩;rw[zAl,qh3] at C;exact o _ ⟨b,f,u,g,rfl,B,U,V,⋯⟩
 rintro c ⟨b,f,u,g,rfl,B,U,V,C⟩;refine qb1 (qf0 M way n wr told r b .u (kL f) u g (.l false (Q5 [])) .u) (λK o=>o) ?_;refine qc1 (λc=>∃b j g l,c=(qf0 M way n wr told r b .u (kL f) u g (.l false (Q5 j)) l)/\Re s b/\j.map (·.1)=f.take told.toNat/\∀p∈j,Am p.2) (λK o=>?_) ?_
 .have ec:Bz (Q3 f) none (some told)=Q3 (f.take told.toNat):=by rw[show told=((told.toNat:Nat):Int) by lia,qL2,Int.toNat_natCast];unfold Q3;rw[Os]
  refine qn5 (qbf1 rfl rfl rfl ec) (qa1 (a:=Q3 (f.take told.toNat)) rfl ⟨qe8 _,?_⟩);refine qf3 (λi c=>∃b j g l,c=(qf0 M way n wr told r b .u (kL f) u g (.l false (Q5 j)) l)/\Re s b/\j.map (·.1)=(f.take told.toNat).take i/\∀p∈j,Am p.2) _ 0 _ ⟨b,[],_,_,rfl,B,rfl,nofun⟩ ?_ ?_
  .rintro i x S c ⟨b,j,g,l,rfl,B,G,Z⟩ K2 E;rw[zAl] at G E;obtain⟨k,hi,rfl⟩:=qau0 S;have a0:j.length<=64:=by have:=congrArg Ob G;simp at this;lia
   refine qk4 (At (qf0 M way n wr told r b .u (kL f) u (.int k) (.l false (Q5 j)) l) rfl ?_);refine qc1 (λc=>∃b v,c=(qf0 M way n wr told r b .u (kL f) u (.int k) (.l false (Q5 j)) (.int v))/\Re s b/\Am v) (λK o=>?_) ?_;{refine qe0 (Mx (qr7 (qd2 ?_)));refine qz4 (ds:=[b,.int M,.int way,.int n,.bl wr,.u,.int told,.int r,kL f,u,.int k,.l false (Q5 j),l]) (m:=n) rfl B rfl ∅ ⋯ ⋯ λR L a1 c1 B1=>qd2 (qy0 (x:=.int 1000000000000000000) rfl ?_);refine qz4 (ds:=[L,.int M,.int way,.int n,.bl wr,.u,.int told,.int r,kL f,u,.int k,.l false (Q5 j),l]) (m:=n) rfl B1 rfl ∅ ⋯ ⋯ λI J H N B2=>qa1 (a:=D.int (1000000000000000000-I)) rfl (qd2 ?_);refine qc5 (ds:=[J,.int M,.int way,.int n,.bl wr,.u,.int told,.int r,kL f,u,.int k,.l false (Q5 j),l]) (m:=1000000000000000000) rfl B2 rfl ∅ ∅ λx3 b3 a3 c3 B3=>qb6 ⟨lt3,?_⟩;refine qc5 (ds:=[b3,.int M,.int way,.int n,.bl wr,.u,.int told,.int r,kL f,u,.int k,.l false (Q5 j),l]) (m:=3) rfl B3 rfl ∅ ∅ λx4 b4 a4 c4 B4=>?_;obtain⟨v,ev,hv⟩:=qaC7 (P:=Am) a4 c4 (x:=R) (y:=1000000000000000000-I) (z:=x3) ⟨⋯,⋯⟩ ⟨⋯,⋯⟩ ⟨⋯,⋯⟩;exact qa1 ev (o _ ⟨b4,v,rfl,B4,hv⟩)};rintro c ⟨b,v,rfl,B,hv⟩;refine qab4 (ys:=Q5 j) (d:=.q [.int k,.int v]) rfl rfl (by rw[qaS2];unfold big;lia) ?_;rw[qaO7];refine E _ ⟨b,j++[(k,v)],_,_,rfl,B,by rw[zBo,G,qm7 hi];rfl,λp A=>?_⟩;rcases zAf.mp A with h|h;{exact Z p h};rw[zAd.mp h];exact hv
  rintro c ⟨b,j,g,l,rfl,B,G,Z⟩;rw[zAl,qh3,Oe] at G;exact o _ ⟨b,j,g,l,rfl,B,G,Z⟩
 rintro c ⟨b,j,g,l,rfl,B,G,Z⟩;have hG:qG0 j:=⟨by have:=congrArg Ob G;simp at this;lia,by rw[G];exact U.sublist (zBn _ _),λp A=>⟨V _ (O4 (by rw[<-G];exact List.mem_map_of_mem A)),Z p A⟩⟩;refine qf5 (Mw (qaM5 (qe1 (y:=.int n) rfl rfl (qe1 (y:=.bl wr) rfl rfl (qd2 (qaY1 (d:=.l false (Q5 j)) rfl (qb6 ⟨lt3,?_⟩)))))));refine qd2 (qa1 (a:=D.l false (Q3 f)) rfl (qb6 ⟨lt2,?_⟩));have e:(D.l false (Q5 j)).fz=.l true (Q5 j):=congrArg (D.l true) (qan6 j);rw[e];exact q b n wr j f B n1 n2 hG U V C
theorem qv5:qa9 ["_law_plan", "_law_keys", "_law_found", "_law_key"] ["_law_plan", "_law_keys"] (qa4 qB7):=by walk_at "s"
def qac6:VSp:=λds Q _=>∃n wr ps z ks,ds=[Ae n wr ps,.l z (Q3 ks)]/\1<=n/\n<=64/\(ps.map (·.1)).Nodup/\ks.Nodup/\ks.length<=100/\∀S,S.Sublist ks->(∀q,¬Crowd n.toNat wr (Q0 n ps) S q)->Q (kL S) ds
theorem qad9(T:Txt K mg a):VFn P w K mg base 4 a.f47 a.d47 ["_law_plan", "_law_keys"] qac6:=by refine VFn.mk2 T.d47.F qv5 (wOf [true,true]) (by walk_at "m") (by walk_at "l") (λ_ _ _ _ _ _ _ H=>⟨_,(Ac (Aj 2 qv5.nd (qa3 (Bs qa6))) (Ac (sforP P9 (vpn 1) (Bc 3 qv5.nd) (Ag (sif (q2v (Ax qj6 (qa8 _)) (Ap qj6 (qa8 _)) qp0 (Af T.d44 (qn4 T) qa0 (rm H) (vaN 0 (vaV (qa3 (v2 (Ak qh1) qh0 (vnm 2) (Bs (qa2 (vnm 3) qa6 rfl)))) Aa))) A9) (Ag (Bd (Gj 2 qC9 Qb Qc Qd qf1 (vaN 3 Aa)))) Aw))) (Ag (An (emv 2))))),λj Q N h=>?_⟩);obtain⟨n,wr,c,z,f,rfl,E,I,J,r,L,q⟩:=h;refine At [Ae n wr c,.l z (Q3 f),.u,.u] rfl ?_;refine qb1 [Ae n wr c,.l z (Q3 f),kL [],.u] (λK t=>t) ?_;refine qc1 (λj=>∃S o,j=[Ae n wr c,.l z (Q3 f),kL S,o]/\S.Sublist f/\∀q,¬Crowd n.toNat wr (Q0 n c) S q) (λK t=>?_) ?_;{refine qa1 (a:=(1,[])) rfl (qa1 (a:=D.l z (Q3 f)) rfl (qa1 (a:=Q3 f) rfl ⟨qe8 f,λw=>?_⟩));refine qf3 (λi j=>∃S o,j=[Ae n wr c,.hole w,kL S,o]/\S.Sublist (f.take i)/\∀q,¬Crowd n.toNat wr (Q0 n c) S q) _ 0 _ ⟨[],_,rfl,.slnil,λq=>(Kept.none ⋯ (G3 E)).no_crowd q⟩ ?_ ?_;{rintro i y u j ⟨S,o,rfl,b,s⟩ K2 p;rw[zAl] at b p;obtain⟨k,v,rfl⟩:=qau0 u;have A:¬k∈S:=λz=>qC6 r v (b.subset z);have B:S.Nodup:=r.sublist (b.trans (zBn _ _));have G:S.length<=100:=zAg (b.trans (zBn _ _)).length_le L;refine qk4 (At [Ae n wr c,.hole w,kL S,.int k] rfl ?_);refine qq8 (qg3 (qc4 (x:=Ae n wr c) rfl (qc8 (y:=kL (S++[k])) (Ah (x:=kL S) (y:=kL [k]) rfl rfl (qaX1 (by show _+1<=1000;lia))) (qb6 (qa1 (a:=Ae n wr c) rfl ?_)))));refine⟨n,wr,c,false,S++[k],rfl,E,I,J,zBs.mpr ⟨B,(by simp),λx M y u e=>A (by rw[<-zAd.mp u,<-e];exact M)⟩,by rw[zAb];show _+1<=200;lia,λ_=>?_,λC g _=>?_⟩;{refine qa1 (a:=[Ae n wr c,.hole w,kL S,.int k]) rfl (qa1 (a:=D.bl false) rfl (qa1 (a:=false) rfl (Il ∅ (p _ ⟨S,_,rfl,b.trans ?_,s⟩))));rw[qm7 v];exact Ox _ _};refine qa1 (a:=[Ae n wr c,.hole w,kL S,.int k]) rfl (qa1 (a:=D.bl true) rfl (qa1 (a:=true) rfl (By rfl ?_)));refine qaW7 (ys:=Q3 S) (d:=.int k) rfl rfl rfl ∅ (by rw[qh3];unfold big;lia) ?_;rw[qY2];refine p _ ⟨S++[k],_,rfl,?_,C⟩;rw[qm7 v];exact b.append (List.Sublist.refl _)};rintro j ⟨S,o,rfl,b,s⟩;rw[zAl,qh3,Oe] at b;exact qa1 (qaB9 rfl) (t _ ⟨S,o,rfl,b,s⟩)};rintro j ⟨S,o,rfl,b,s⟩;exact q S b s
theorem qar8:qa9 ["_law_found"] ["_law_found"] (qa4 qT3):=by walk_at "s"
def qar0:VSp:=A4 λds d=>∃x t,ds=[x]/\x.kind=some t/\d=.bl (Ht t "int" && !(Ht t "bool"))
theorem qat1(T:Txt K mg a):VFn P w K mg base 1 a.f39 a.d39 ["_law_found"] qar0:=by
 refine VFn.mk2 T.d39.F qar8 (wOf [true]) qb3 (by walk_at "l") (λ_ _ _ _ _ _ _ f=>⟨_,(Ag (An (qa3 (Me (vbi qi8 qL3.ops T.Cd (qa2 (vnm 0) (qa2 (vty "int" T.Ew) qa6 rfl) rfl)) (K7 (vnot (vbi qi8 qL3.ops T.Cd (qa2 (vnm 0) (qa2 (vty "bool" T.Ej) qa6 rfl) rfl)))))))),λg Q i h=>?_⟩);obtain⟨d,⟨x,t,rfl,b,rfl⟩,q⟩:=h;refine At [x] rfl ?_;have c:∀n:String,K6 n=true->A7 (fx2 gIsi) (A5 (rdN 0) (A5 (kC (D.ty n)) λ_=>some [])) [x]=some (.bl (Ht t n)):=λn e=>by unfold A7 A5;rw[rd0 (qi5 b)];show (if K6 n=true then x.kind.map λt=>D.bl (Ht t n) else none)=_;rw[if_pos e,b];rfl
 exact qg9 _ (qZ6 (c "int" rfl) (Ay (c "bool" rfl) rfl)) q
theorem qar9:qa9 ["_law_plan", "_law_keys", "_law_room"] ["_law_plan", "_law_keys", "_law_room"] (qa4 qT6):=by walk_at "s"
def qar3:VSp:=A4 λds d=>∃n wr ps z ks r,ds=[Ae n wr ps,.l z (Q3 ks),.int r]/\1<=n/\(ps.map (·.1)).Nodup/\ks.length<=1000/\0<=r/\r<n/\d=.bl (qL5 n wr ps ks r)
theorem qat3(T:Txt K mg a):VFn P w K mg base 2 a.f49 a.d49 ["_law_plan", "_law_keys", "_law_room"] qar3:=by
 refine VFn.mk2 T.d49.F qar9 (wOf [true,true,true]) qb3 (by walk_at "l") (λ_ _ _ _ _ _ _ g=>⟨_,(Ac (sif (tor (Bi (te (Af T.d39 (qat1 T) qa0 (rm g) (vaN 2 Aa)))) (Iv (Bi (qch I9 Mb Jy Kc Ad (vnm 2) (v2 (Av qb4) Al (vnm 0) Ad))))).te (Ag (An (qa3 vbl))) Aw) (Ac (sif (tv (v2 (Av qb4) Al (vnm 0) Ad)) (Ag (An (qa3 (Me (v2 (Ax (qm4 g.u64) (qa8 _)) Bk (vnm 2) Ad) (K7 (v2 (Ax B8 (qa8 _)) Fp (vbi qu3 qu2.ops T.Cz (qa2 (vnm 1) qa6 rfl)) (v2 (Av qb4) Al (vnm 0) Ad))))))) Aw) (Ag (An (e2v (Ax B8 (qa8 _)) Fp (ebi qu3 qu2.ops T.Cz (Gv (vaV (ecN (NY:=["_law_key", "_law_room", "_law_plan"]) (src:=[none,some 2,some 0]) 1 (blk (λj C m H0 o=>(Bc 0 (show (["_law_key", "_law_room", "_law_plan"]:List Str).Nodup by decide +kernel))) (λj C m H0 o=>(Hr (q2v (Ax Ib (qa8 _)) (Ap Ib (qa8 _)) Kd (Af T.d42 (qU8 T) qn7 (rm g) (vaN 2 (vaN 0 Aa))) (vnm 1)))) (λj C m H0 o=>(qb9 (vnm 0))))) Aa))) (v2 (Ak qr1) qq9 (v2 (Av qb4) Al (vnm 0) Ad) (vnm 2))))))),λB Q E h=>?_⟩);obtain⟨d,⟨n,wr,c,z,e,r,rfl,p,s,G,t,u,rfl⟩,q⟩:=h;refine At [Ae n wr c,.l z (Q3 e),.int r] rfl ?_;unfold qL5 at q;refine qj2 false (λQ q=>?_) nofun λ_=>?_
 {refine qp2 false false (λQ q=>qbc5 (x:=.int r) (d:=.bl true) rfl ⟨_,_,rfl,rfl,rfl⟩ rfl q) (λ_ Q q=>qk8 (b:=true) ?_ q) q;show (if decide (0<=r)=true then some (D.bl (decide (r<n))) else some (.bl false))=_;rw[if_pos (zAi t),zAi u]};refine qi9 wr rfl (λh=>?_) λh=>?_;{subst h;rw[if_pos rfl] at q;refine qg9 _ (qZ6 (a:=decide (r=0)) (b:=decide (n<(e.length:Int))) rfl (Ah (x:=.int (e.length:Nat)) (y:=.int n) (by rw[qD3 (z:=z) (ys:=Q3 e) rfl,qh3]) rfl rfl)) q};subst h;rw[if_neg ∅] at q;refine qf5 (qu5 (Kt (qd2 (qa1 (a:=D.l z (Q3 e)) rfl (qa1 (a:=Q3 e) rfl ⟨qe8 e,?_⟩)))));refine qi7 (λι=>∃d,ι=[d,.int r,Ae n false c]) (Gb λk=>decide (r<=qd4 n c k)) _ [] _ (by show 0+_<1000000;rw[qh3];lia) ⟨_,rfl⟩ ?_ ?_;{rintro y v ι i ⟨d,rfl⟩ R A f;obtain⟨k,_,rfl⟩:=zB8.mp v;have this:=A [.int k,.int r,Ae n false c] ⟨_,rfl⟩;refine qk4 (qq8 (qK4 (x:=Ae n false c) (y:=.int k) (d:=.int (qd4 n c k)) rfl rfl rfl ⟨n,false,c,k,rfl,p,s,rfl⟩ rfl ?_));refine qa1 (a:=D.bl (decide (r<=qd4 n c k))) rfl (qa1 (a:=decide (r<=qd4 n c k)) rfl (ite_b (λh=>?_) λh=>?_));{rw[qO4 (by exact h)] at this;exact qt8 (d:=.int k) rfl rfl ⟨f,this⟩};rw[qO5 (by exact h)] at this;have this:R (i++[]) _:=this;rw[zAa] at this;exact this};rintro ι ⟨d,rfl⟩;rw[qx1,zB4];refine qb6 (qa1 (a:=D.int ((e.filter λk=>decide (r<=qd4 n c k)).length:Nat)) (by show some (D.int ((Q3 _).length:Nat))=_;rw[qh3]) ?_);exact qa1 (a:=D.bl _) rfl q
theorem qA5:qa9 ["_law_e", "_law_some", "_law_words"] ["_law_e"] (qa4 qai0):=by walk_at "s"
def qag7(L:List (γ×Str)):VSp:=A4 λds d=>∃C fs w,ds=[.exn C fs]/\(C,w)∈L/\d=.str w
theorem isx{K:P'}{u:V'}{C:γ}{R:Ds->List Pl->Ds->Prop}(c:f ds=some (.exn C fs))(ix:IsX K C)(d:Qa K (.ref C) u=some b)(h:tr ds (λxs ps a=>R (.bl b::xs) (.no::ps) a) xe):tbV (Mn K f u) tr ds R xe:=qa1 c ⟨C,fs,b,rfl,ix,d,h⟩
theorem qaR4{K:P'}{u:V'}{C:γ}{Q:Bool->Ds->Prop}(a:f ds=some (.exn C fs))(ix:IsX K C)(c:Qa K (.ref C) u=some b)(q:Q (!b) ds):Gi (ttE (Mn K f u)) ds Q xe:=qa1 a ⟨C,fs,b,rfl,ix,c,qa1 rfl q⟩
theorem as_t{M:γ->Option Bool}{ts:VTS}{tr:VH}{C:γ}{p:Str×D}{r:List (Str×D)}(a:M C=some true)(h:ts (Ik e) (ds.set j (.exn C (p::r)))):hAs M j ts tr ⟨C,p::r⟩ e ds:=⟨λz=>(nomatch z),true,a,By rfl h⟩
theorem as_f{M:γ->Option Bool}{ts:VTS}{tr:VH}{C:γ}{p:Str×D}{r:List (Str×D)}(a:M C=some false)(h:tr ⟨C,p::r⟩ e ds):hAs M j ts tr ⟨C,p::r⟩ e ds:=⟨λz=>(nomatch z),false,a,Il zAn h⟩
theorem qag5{K:P'}{L:List (γ×Str)}{C:γ}{w:Str}{v:D}(h:rdN i ds=some (.exn C fs))(a:Aq [.sl i] [.exn C fs] (ds.set i .u)=some ds)(hm:(C,w)∈L)(ex:Exc K C)(b:qd1 K C fl)(c:fs.lookup fl=some v)(q:e.rt (.q [.str w,v]) ds):sRet (Kk (tbV (qk9 (qag7 L) [] (tbN i A6)) (tbV (tEFX K (rdN i) fl) A6))) (Ik e) ds:=qf5 (Mw (qd2 (qW4 h ⟨.str w,⟨C,fs,w,rfl,hm,rfl⟩,qa1 a (qd2 (qa1 h ⟨C,fs,v,rfl,ex,b,c,qb6 ⟨lt2,q⟩⟩))⟩)))
noncomputable abbrev M5:Ds:=[.str "wrong",.str "room",.str "there",.str "gone",.str "unkept",.str "unlike",.str "text",.str "row",.str "plan",.str "many"]
theorem qU7(T:Txt K mg a):G0 false P w K mg base 1 a.f48 a.d48 ["_law_e"] (qag7 [(a.Ch, "wrong"),(a.Cf, "room")]):=by
 refine VFn.mk2 T.d48.F qA5 (wOf [true]) qb3 (by walk_at "l") (λ_ _ _ _ _ _ _ n=>⟨_,(Ac (Aj 1 qA5.nd (Hg (vaV (Gm a.Ch T.Cd (vnm 0) T.Cp) (vaV (Gm a.Cf T.Cd (vnm 0) T.Ea) (vaV (Gm a.Dm T.Cd (vnm 0) T.Fi) (vaV (Gm a.Cy T.Cd (vnm 0) T.Es) Aa)))))) (Ac (Aj 1 qA5.nd (e2n 1 (Ak qh1) qh0 (Hg (vaV (Gm a.Da T.Cd (vnm 0) T.Fe) (vaV (Gm a.D9 T.Cd (vnm 0) T.Fa) (vaV (Gm a.D8 T.Cd (vnm 0) T.F8) (vaV (Gm a.Dl T.Cd (vnm 0) T.Fh) Aa))))))) (Ac (Aj 1 qA5.nd (e2n 1 (Ak qh1) qh0 (Hg (vaV (Gm a.D7 T.Cd (vnm 0) T.F7) (vaV (Gm a.D2 T.Cd (vnm 0) T.Ez) Aa))))) (Ac (sif (tor (Bi (te (eisXt "ValueError" T.Cd (vnm 0) T.Eg))) (Iv (q2 (Ap (qh7 n.u64) (qa8 _)) Br (vbm qaQ6 Qb Qg Qj qak8 (vnm 1) vbl qaB6) Ad))).te (Ag (An (qa3 Bh))) Aw) (Ac (Aj 2 qA5.nd (qa3 (Bs (qa2 Bh (qa2 Bh (qa2 Bh (qa2 Bh (qa2 Bh (qa2 Bh (qa2 Bh (qa2 Bh (qa2 Bh (qa2 Bh qa6 rfl) rfl) rfl) rfl) rfl) rfl) rfl) rfl) rfl) rfl)))) (Ag (An (qb9 (v2 (Av qb4) Al (vnm 2) (vbm qas9 Qb Qe Qf qD0 (vnm 1) vbl qY8)))))))))),λI Q J h=>?_⟩);obtain⟨d,⟨C,k,w,rfl,m,rfl⟩,q⟩:=h;obtain⟨c,e,f,g,i,ix,o,p,r,s,t,u,v,z,A,B,D,E,G,H⟩:∃c e f g i,IsX K C/\Qa K (.ref C) (.ref a.Ch)=some c/\Qa K (.ref C) (.ref a.Cf)=some e/\Qa K (.ref C) (.ref a.Dm)=some f/\Qa K (.ref C) (.ref a.Cy)=some g/\Qa K (.ref C) (.ref a.Da)=some false/\Qa K (.ref C) (.ref a.D9)=some false/\Qa K (.ref C) (.ref a.D8)=some false/\Qa K (.ref C) (.ref a.Dl)=some false/\Qa K (.ref C) (.ref a.D7)=some false/\Qa K (.ref C) (.ref a.D2)=some false/\Qa K (.ref C) (.type "ValueError")=some true/\La (.l false [.bl c,.bl e,.bl f,.bl g,.bl false,.bl false,.bl false,.bl false,.bl false,.bl false]) (.bl true)=some (.int 1)/\K9 (.l false [.bl c,.bl e,.bl f,.bl g,.bl false,.bl false,.bl false,.bl false,.bl false,.bl false]) (.bl true)=some (.int i)/\gIx (.l false M5) (.int i)=some (.str w):=by simp only[zAj,zBk,or_false,Prod.mk.injEq] at m;rcases m with⟨rfl,rfl⟩|⟨rfl,rfl⟩;{exact⟨true,false,false,false,0,T.F6,qam1 _ _,T.E3,T.E7,T.Dg,T.E6,T.Dw,T.Dy,T.E8,T.E2,T.Dt,T.F9,rfl,rfl,rfl⟩};exact⟨false,true,false,false,1,T.F4,T.E5,qam1 _ _,T.E4,T.De,T.Dq,T.Dr,T.Do,T.Dx,T.Dn,T.Dk,T.Ey,rfl,rfl,rfl⟩
 refine At [.exn C k,.u,.u] rfl ?_;refine qb1 [.exn C k,.l false [.bl c,.bl e,.bl f,.bl g],.u] (λK j=>qe0 (qr7 (isx rfl ix o (isx rfl ix p (isx rfl ix r (isx rfl ix s (qb6 ⟨lt4,j⟩))))))) ?_;refine qb1 [.exn C k,.l false [.bl c,.bl e,.bl f,.bl g,.bl false,.bl false,.bl false,.bl false],.u] (λK j=>qe0 ⟨rfl,qr7 (isx rfl ix t (isx rfl ix u (isx rfl ix v (isx rfl ix z (qb6 ⟨lt4,qa1 rfl j⟩)))))⟩) ?_;refine qb1 [.exn C k,.l false [.bl c,.bl e,.bl f,.bl g,.bl false,.bl false,.bl false,.bl false,.bl false,.bl false],.u] (λK j=>qe0 ⟨rfl,qr7 (isx rfl ix A (isx rfl ix B (qb6 ⟨lt2,qa1 rfl j⟩)))⟩) ?_;refine qj2 false (λQ q=>qp2 false false (λQ q=>qaR4 rfl ix D q) (λ_ Q q=>qm6 (b:=false) (Ah (x:=.int 1) (y:=.int 1) (Ah rfl rfl E) rfl rfl) q) q) nofun λ_=>?_
 refine qb1 [.exn C k,.l false [.bl c,.bl e,.bl f,.bl g,.bl false,.bl false,.bl false,.bl false,.bl false,.bl false],.l false M5] (λK j=>j) ?_;exact qf5 (qt8 (d:=.str w) (Ah (x:=.l false M5) (y:=.int i) rfl (Ah rfl rfl G) H) rfl q)
theorem qJ0:qa9 ["_law_row", "_law_size", "_law_e"] ["_law_row", "_law_size"] (qa4 qah8):=by walk_at "s"
def qaD6(C CP CG:γ):VSp:=λds Q _=>∃x y,ds=[x,y]/\(∃t,y.kind=some t)/\((M4 C CP CG x/\x.known=true/\Q (.q [.str "wrong",.int 0]) ds)∨∃zr n wr ps g dn S,x=Au zr C CP n wr ps g dn/\n<=64/\qG0 ps/\(∀k∈S,Am k)/\Kept n.toNat wr (Q0 n ps) g S/\(y.within 1 64=false->Q (.q [.str "wrong",.int 1]) ds)/\∀m,y=.int m->1<=m->m<=64->(∀r:Nat,Crowd m.toNat wr (Q0 m ps) S r->Q (.q [.str "room",.int (r:Nat)]) ds)/\((∀q,¬Crowd m.toNat wr (Q0 m ps) S q)->∀g',Kept m.toNat wr (Q0 m ps) g' S->Q (.q [.str "told",Au false C CP m wr ps g' []]) ds))
theorem qaY0{th:VH}(h:∀(N:Ds->Prop)(X:XKd),(∀a,e.nx a->N a)->(∀x a,th x e a->X x a)->t {e with nx:=N,xe:=X} ds):sTryW t th e ds:=h _ _ (λ_ z=>z) λ_ _ z=>z
theorem qJ8(T:Txt K mg a):VFn P w K mg base 14 a.f50 a.d50 ["_law_row", "_law_size"] (qaD6 a.Cb a.Ca a.Ci):=by refine VFn.mk2 T.d50.F qJ0 (wOf [true,true]) (by walk_at "m") (by walk_at "l") (λ_ _ _ _ _ _ _ d=>⟨_,(Ag (stryW (λE' v C z=>(Ag (An (Jj (vaV (qa3 Bh) (vaV (Af T.d37 (qr3 T) z (rm d) (vaN 0 (vaN 1 Aa))) Aa)))))) (vhas 2 qJ0.nd T.E9 T.Cp (λf=>(Ag (An (Jj (vaV (Af T.d48 (qU7 T) qam0 (rm (d.mark _)) (vaN 2 Aa)) (vaV (eefld rfl (vnm 2)) Aa)))))) (vhas 2 qJ0.nd T.Dp T.Ea (λf=>(Ag (An (Jj (vaV (Af T.d48 (qU7 T) qam0 (rm (d.mark _)) (vaN 2 Aa)) (vaV (eefld (K:=K) rfl (vnm 2)) Aa)))))) (vhas 2 qJ0.nd T.Eh T.El (λf=>(Ag (An (Jj (vaV (Af T.d48 (qU7 T) qam0 (rm (d.mark _)) (vaN 2 Aa)) (vaV (qa3 Ad) Aa)))))) vhnil))))),λD Q v h=>?_⟩);obtain⟨x,y,rfl,⟨t,j⟩,h⟩:=h;refine At [x,y,.u] rfl ?_;have k:=qi5 j;refine qaY0 λN X E o=>?_;have p:∀i:Int,Q (.q [.str "wrong",.int i]) [x,y]->X ⟨a.Ch,[("at",.int i)]⟩ [x,y,.u]:=λi q=>o _ _ (as_t T.Ef (qag5 rfl rfl (.head _) T.E9 T.Eb rfl q));rcases h with⟨hn,hk,q⟩|⟨zr,n,wr,ps,g,dn,S,rfl,n2,G,hS,KP,qw,q⟩;{exact qf5 (Mw (qc8 rfl (qd2 (qu4 (x:=x) (y:=y) (qe7 rfl hk) (qe7 rfl k) (qe7 rfl hk) ⟨x,y,rfl,.inl ⟨hn,hk,qa1 rfl (p 0 q)⟩⟩))))};refine qf5 (Mw (qc8 rfl (qd2 (qu4 (y:=y) rfl (qe7 rfl k) rfl ⟨_,y,rfl,.inr ⟨zr,n,wr,ps,g,dn,S,rfl,n2,G,hS,KP,⟨t,j⟩,λb=>qa1 rfl (p 1 (qw b)),λm e s u=>⟨λr c=>?_,λA B K'=>?_⟩⟩⟩))));{exact qa1 rfl (o _ _ (as_f T.Ec (as_t T.Dv (qag5 rfl rfl (.tail _ (.head _)) T.Dp T.Dc rfl ((q m e s u).1 r c)))))};exact qa1 rfl (qb6 ⟨lt2,(q m e s u).2 A B K'⟩)
theorem qac8:qa9 ["self"] ["self"] (qa4 qB2):=by walk_at "s"
def qac1(C CP:γ):VSp:=A4 λds d=>∃zr n wr ps g dn S,ds=[Au zr C CP n wr ps g dn]/\n<=64/\Kept n.toNat wr (Q0 n ps) g S/\d=.int (S.length:Nat)
theorem qad6(T:Txt K mg a):VFn P w K mg base 2 a.f30 a.d30 ["self"] (qac1 a.Cb a.Ca):=by refine VFn.mk2 T.d30.F qac8 (wOf [true]) qb3 (by walk_at "l") (λ_ _ _ _ _ _ _ f=>⟨_,(Ag (An (ebi qu3 qu2.ops T.Cz (Gv (vaV (qe9 0 T.d29 T.Cc.cl (qf9 T) qa0 (rm f)) Aa))))),λj Q k h=>?_⟩);obtain⟨d,⟨b,n,wr,c,g,e,S,rfl,i,KP,rfl⟩,q⟩:=h;refine At [Au b a.Cb a.Ca n wr c g e] rfl ?_;refine qf5 (Kt (qd2 (qm5 rfl (qc7 rfl) ⟨b,n,wr,c,g,e,rfl,i,rfl⟩ rfl (qb6 (qa1 ?_ q)))));show some (D.int ((Q3 ((N7 n.toNat).filterMap g)).length:Nat))=_;rw[qh3,KP.perm.length_eq]
theorem qm8:qa9 ["_law_row", "_law_plan", "_law_due", "_law_some", "_law_out", "_law_key"] ["_law_row", "_law_plan", "_law_due"] (qa4 qJ2):=by walk_at "s"
theorem qaJ4{z:Bool}{g:Nat->Option Int}(h:∀i,i<N->g i=g' i):gNe (.l z (Q4 N g)) (.l z' (Q4 N g'))=some (.bl false):=by rw[ql7 h];show (Fv (eqN 20) (Q4 N g') (Q4 N g')).map (λx=>D.bl !x)=_;rw[Mv _ λ_=>Mu];rfl
theorem ne_kk{z:Bool}:gNe (.l z (Q3 ks)) (.l z' (Q3 ks))=some (.bl false):=by show (Fv (eqN 20) (Q3 ks) (Q3 ks)).map (λx=>D.bl !x)=_;rw[eq_ks,zAi rfl];rfl
theorem qaI9{z:Bool}{g:Nat->Option Int}(hi:i<N)(e:g i=some k):K9 (.l z (Q4 N g)) (.int k)=some (Ft N g k):=by show ((some (V.int k)).bind λv=>(flats (Q4 N g)).bind λb=>(B6 v b).map λj=>D.int (j:Nat))=_;rw[qK9];show (B6 (.int k) _).map _=_;rw[qY7];show (Go N g k).map _=_;obtain⟨j,a⟩:=qy8 hi e;unfold Ft at a ⊢;cases h:Go N g k with|some j=>rfl|none=>rw[h] at a;cases a
theorem Jo{z:Bool}{L:List Int}{m:Nat}:gSl (.l z (Q3 L)) none (some ((m:Nat):Int))=some (kL (L.take m)):=by show gd (D.imms (Bz (Q3 L) none (some ((m:Nat):Int)))=true) (.l false (Bz (Q3 L) none (some ((m:Nat):Int))))=_;rw[qL2,show (Q3 L).take m=Q3 (L.take m) from List.map_take.symm];exact qk5 (qe8 _)
theorem out70(l:ks.length<=64):∃(o:Nat)(r:List Int),o<70/\¬(o:Int)∈ks/\(Bo 0 70).filterMap (Gb λx=>!decide (x∈ks))=.int (o:Nat)::Q3 r:=by
 have e:Bo 0 70=Q3 ((N7 70).map λi:Nat=>((i:Nat):Int)):=by unfold Bo Q3;rw[zC4];exact O6 λi _=>congrArg D.int (Int.zero_add _)
 rw[e,qx1];cases h:((N7 70).map λi:Nat=>((i:Nat):Int)).filter λx=>!decide (x∈ks) with
 |nil=>
  have sub:((N7 70).map λi:Nat=>((i:Nat):Int)) ⊆ ks:=λx b=>by by_cases a:x∈ks;{exact a};have:x∈((N7 70).map λi:Nat=>((i:Nat):Int)).filter λx=>!decide (x∈ks):=zAt.mpr ⟨b,by rw[zAz a];rfl⟩;rw[h] at this;cases this
  have d:((N7 70).map λi:Nat=>((i:Nat):Int)).Nodup:=zBx.mpr (List.Pairwise.imp (λh e=>h ⋯) Ol);have:=qB9 (g:=λi=>ks[i]?) (N7 ks.length) _ d λk a=>by obtain⟨i,e⟩:=List.mem_iff_getElem?.mp (sub a);exact⟨i,zAo.mpr (zA4.mp e).1,e⟩
  rw[zAe,zBa,zBa] at this;lia
 |cons x r=>
  have b:x∈((N7 70).map λi:Nat=>((i:Nat):Int)).filter λx=>!decide (x∈ks):=by rw[h];exact zA7
  obtain⟨f,c⟩:=zAt.mp b;obtain⟨o,j,rfl⟩:=zB8.mp f;exact⟨o,r,zAo.mp j,(λz=>by rw[zAi z] at c;exact nomatch c),rfl⟩
theorem qaL0(r:Nat):Bz ys (some ((r:Nat):Int)) none=ys.drop r:=by unfold Bz;rw[HT.qai2,HT.qT7];by_cases h:r<=ys.length;{rw[zCm h];exact zAr (by rw[zCj];lia)};rw[Nat.min_eq_right ⋯,Oj (zA3 _),Oj ⋯,List.take_nil]
theorem sl_tl{z:Bool}{L:List Int}:gSl (.l z (Q3 (k::L))) (some 1) none=some (kL L):=by show gd (D.imms (Bz (Q3 (k::L)) (some 1) none)=true) (.l false (Bz (Q3 (k::L)) (some 1) none))=_;rw[show Bz (Q3 (k::L)) (some 1) none=(Q3 (k::L)).drop 1 from qaL0 1];exact qk5 (qe8 _)
theorem qau5(h:qc ds (λb a=>if b=true then t e a else u e a) e.xe):sIf qc t u e ds:=h
theorem qax9{t u:VTT}{Q:Bool->Ds->Prop}(h:t ds (λb a=>if b=true then Q true a else u a Q xe) xe):ttOr t u ds Q xe:=h
theorem qaZ1{g:D->D->Option D}{Q:Bool->Ds->Prop}(h:ta ds (λx ds1=>tb ds1 (λy a=>orF (g x y) λd=>orF d.asB λb=>Q b a) xe) xe):ttE (t2 g ta tb) ds Q xe:=h
def qag8(C CP:γ):VSp:=λds Q _=>∃n wr ps g z S,ds=[Au false C CP n wr ps g [],Ae n wr ps,.l z (Q4 n.toNat g)]/\1<=n/\n<=64/\(ps.map (·.1)).Nodup/\(∀y∈S,Am y)/\Kept n.toNat wr (Q0 n ps) g S/\Q (.bl true) ds
abbrev qf6(n:Int)(wr:Bool)(ps:Pr) (z) (g) (o) (p0 a b:D):=([p0,Ae n wr ps,.l z (Q4 n.toNat g),a,.int (o:Nat),b]:Ds)
theorem qak4(T:Txt K mg a):VFn P w K mg base 16 a.f51 a.d51 ["_law_row", "_law_plan", "_law_due"] (qag8 a.Cb a.Ca):=by
 refine VFn.mk2 T.d51.F qm8 (wOf [true,true,true]) (by walk_at "m") (by walk_at "l") (λ_ _ _ _ _ _ _ t=>⟨_,(Ac (Aj 3 qm8.nd (ecN (NY:=["_law_key"]) (src:=[none]) 2 (blk (λJ C M H0 N=>(Bc 0 (show (["_law_key"]:List Str).Nodup by decide +kernel))) (λJ C M H0 N=>(Hr (q2 (Ap qj6 (qa8 _)) qp0 (vnm 0) A9))) (λJ C M H0 N=>(qb9 (vnm 0)))))) (Ac (Aj 4 qm8.nd (e2vP (Av qb4) Al (ecR1 (NY:=["_law_key", "_law_some"]) (src:=[none,some 3]) T.D3 (Gv (vaV (qa3 Ad) Aa)) (blk (λJ C M H0 N=>(Bc 0 (show (["_law_key", "_law_some"]:List Str).Nodup by decide +kernel))) (λJ C M H0 N=>(Hr (q2 (Ap qC3 (by with_unfolding_all rfl)) Ke (vnm 0) (vnm 1)))) (λJ C M H0 N=>(qb9 (vnm 0))))) Ad)) (Ac (sif (tor (q2v (Ax (qh7 t.u64) (qa8 _)) (Ap (qh7 t.u64) (qa8 _)) Br (qe9 0 T.d28 T.Cc.cl (qb5 T) qa0 (rm t)) (vnm 2)) (tor (q2v (Ax (qh7 t.u64) (qa8 _)) (Ap (qh7 t.u64) (qa8 _)) Br (qe9 0 T.d29 T.Cc.cl (qf9 T) qa0 (rm t)) (vnm 3)) (tor (q2v (Ax (qh7 t.u64) (qa8 _)) (Ap (qh7 t.u64) (qa8 _)) Br (qe9 0 T.d30 T.Cc.cl (qad6 T) qa0 (rm t)) (vbi qu3 qu2.ops T.Cz (qa2 (vnm 3) qa6 rfl))) (Iv (q2v (Ax qj6 (qa8 _)) (Ap qj6 (qa8 _)) qp0 (qj7 0 T.d31 T.Cc.cl (qi0 T) qa0 (rm t) (vaN 4 Aa)) A9))))).te (Ag (An (qa3 vbl))) Aw) (Ac (G9 P9 (qa3 (vsl (vnm 3) Hk (Hl Ad))) (Bc 5 qm8.nd) (Ag (sif (q2v (Ax (qh7 t.u64) (qa8 _)) (Ap (qh7 t.u64) (qa8 _)) Br (qj7 0 T.d31 T.Cc.cl (qi0 T) qa0 (rm t) (vaN 5 Aa)) (vbm qas9 Qb Qe Qf qD0 (vnm 2) (vnm 5) qY8)) (Ag (An (qa3 vbl))) Aw))) (Ac (G9 P9 (qa3 (vsl (vnm 3) Hk (Hl Ad))) (Bc 5 qm8.nd) (Ac (Bd (qj7 0 T.d33 T.Cc.cl (qo2 T) qa0 (rm t) (vaN 5 Aa))) (Ag (sif (tor (q2e (Ax (qh7 t.u64) (qa8 _)) (Ap (qh7 t.u64) (qa8 _)) Br (qe9 0 T.d28 T.Cc.cl (qb5 T) qa0 (rm t)) (Af T.d44 (qn4 T) qa0 (rm t) (vaN 1 (vaV (qa3 (vsl (vnm 3) (Hl Ad) Hk)) Aa)))) (Iv (q2v (Ax qj6 (qa8 _)) (Ap qj6 (qa8 _)) qp0 (qe9 0 T.d34 T.Cc.cl (qw6 T) qa0 (rm t)) vbl))).te (Ag (An (qa3 vbl))) Aw)))) (Ag (An (Hf (e2v (Ax (qm4 t.u64) (qa8 _)) Bk (qe9 0 T.d28 T.Cc.cl (qb5 T) qa0 (rm t)) (vnm 2)) (Hf (e2v (Ax (qm4 t.u64) (qa8 _)) Bk (qe9 0 T.d35 T.Cc.cl (ql9 T) qa0 (rm t)) (Bs qa6)) (Jr (e2v (Ax Gs (qa8 _)) Gr (qe9 0 T.d34 T.Cc.cl (qw6 T) qa0 (rm t)) vbl))))))))))),λu Q xe h=>?_⟩);obtain⟨n,wr,f,g,z,S,rfl,W,H,nd,hS,KP,q⟩:=h;have O:=KP.perm;have a2:=KP.len;obtain⟨s,E⟩:∃s,(N7 n.toNat).filterMap g=s:=⟨_,rfl⟩
 rw[E] at O;have lk:s.length<=64:=by rw[O.length_eq];lia
 have nk:s.Nodup:=O.nodup_iff.mpr KP.h.1;have X:∀k∈s,Am k:=λk I=>hS k (O.subset I)
 have KK:Kept n.toNat wr (Q0 n f) g s:=KP.of_perm O.symm;refine At [rA a n wr f g [],Ae n wr f,.l z (Q4 n.toNat g),.u,.u,.u] rfl ?_;refine qb1 [rA a n wr f g [],Ae n wr f,.l z (Q4 n.toNat g),kL s,.u,.u] (λK B=>qe0 (qa1 (a:=D.l z (Q4 n.toNat g)) rfl (qa1 (a:=Q4 n.toNat g) rfl ⟨qD4 _ _,?_⟩))) ?_
 .refine qi7 (λι=>∃d,ι=[d]) Iq _ [] _ (by show 0+_<1000000;rw[qp9];lia) ⟨_,rfl⟩ ?_ ?_
  .rintro y U ι G ⟨d,rfl⟩ R Z A
   have this:=Z [y] ⟨_,rfl⟩;refine qk4 ?_;rcases Mu U with rfl|⟨k,rfl⟩
   .have this:R (G++[]) _:=this
    rw[zAa] at this;exact qm6 (b:=false) (Ah rfl rfl rfl) (Il ∅ this)
   exact qm6 (b:=true) (Ah rfl rfl rfl) (By rfl (qt8 (d:=.int k) rfl rfl ⟨A,this⟩))
  rintro ι ⟨d,rfl⟩;rw[qV3,zB4,E];exact B
 obtain⟨o,r,a3,on,eo⟩:=out70 lk;refine qb1 (qf6 n wr f z g o (rA a n wr f g []) (kL s) .u) (λK B=>qe0 (qay1 (qbf4 (qc8 (y:=.int 70) rfl (qb6 (qa1 (a:=(70:Int)) rfl ⟨rfl,?_⟩)))))) ?_
 .refine qi7 (λι=>∃d,ι=[d,kL s]) (Gb λx=>!decide (x∈s)) _ [] _ (by show 0+_<1000000;rw[qY1];decide) ⟨_,rfl⟩ ?_ ?_
  .rintro y U ι G ⟨d,rfl⟩ R Z A
   obtain⟨j,_,rfl⟩:=zB8.mp U;have this:=Z [.int (0+(j:Int)),kL s] ⟨_,rfl⟩;refine qk4 (qm6 (b:=!decide ((0+(j:Int))∈s)) (Ah rfl rfl qak5) (ite_b (λh=>?_) λh=>?_))
   .rw[qO4 (by exact h)] at this
    exact qt8 (d:=.int (0+(j:Int))) rfl rfl ⟨A,this⟩
   rw[qO5 (by exact h)] at this;have this:R (G++[]) _:=this;rw[zAa] at this;exact this
  rintro ι ⟨d,rfl⟩;have eo:(Bo 0 (70:Int).toNat).filterMap (Gb λx=>!decide (x∈s))=.int (o:Nat)::Q3 r:=eo;rw[eo,zB4];exact qa1 (a:=D.int 0) rfl ⟨rfl,qa1 (a:=D.int (o:Nat)) (qap3 (xs:=D.int (o:Nat)::Q3 r) (j:=0) rfl) B⟩
 refine qj2 false (λQ q=>qp2 false false (λQ q=>qq8 ?_) (λ_ Q q=>qp2 false false (λQ q=>qq8 ?_) (λ_ Q q=>qp2 false false (λQ q=>qq8 ?_) (λ_ Q q=>qq8 ?_) q) q) q) nofun λ_=>?_
 .exact qm5 (p:=rA a n wr f g []) (d:=rL n g) rfl (qc7 rfl) ⟨false,n,wr,f,g,[],rfl,rfl⟩ rfl (qa1 (a:=D.bl false) (qaJ4 λ_ _=>rfl) (qa1 (a:=false) rfl q))
 .exact qm5 (p:=rA a n wr f g []) (d:=kL s) rfl (qc7 rfl) ⟨false,n,wr,f,g,[],rfl,H,by rw[E]⟩ rfl (qa1 (a:=D.bl false) ne_kk (qa1 (a:=false) rfl q))
 .refine qm5 (p:=rA a n wr f g []) (d:=.int (s.length:Nat)) rfl (qc7 rfl) ⟨false,n,wr,f,g,[],s,rfl,H,KK,rfl⟩ rfl (qa1 (a:=D.bl false) ?_ (qa1 (a:=false) rfl q))
  show some (D.bl (!((((s.length:Nat):Int))==(((Q3 s).length:Nat):Int))))=_;rw[qh3,zB1];rfl
 .exact qK3 (p:=rA a n wr f g []) (x:=.int (o:Nat)) (d:=.non) rfl (qc7 rfl) rfl rfl ⟨false,n,wr,f,g,[],(o:Nat),rfl,⟨⋯,⋯⟩,(qX3 λi Y e=>on ((KK.h.2 _).mpr ⟨i,Y,e⟩)).symm⟩ rfl (qa1 (a:=D.bl false) rfl (qa1 (a:=false) rfl q))
 refine qc1 (λu=>∃d,u=(qf6 n wr f z g o (rA a n wr f g []) (kL s) d)) (λK B=>qn5 (d:=kL (s.take 9)) (by exact Jo (z:=false) (m:=9)) (qa1 (a:=Q3 (s.take 9)) rfl ⟨qe8 _,?_⟩)) ?_
 .refine qf3 (λ_ u=>∃d,u=(qf6 n wr f z g o (rA a n wr f g []) (kL s) d)) _ 0 _ ⟨_,rfl⟩ ?_ ?_
  .rintro j y U u ⟨d,rfl⟩ K2 a0
   obtain⟨k,I,rfl⟩:=zB8.mp (zB2 U);have I:=(zBn 9 s).subset I;obtain⟨i,Y,e⟩:=(KK.h.2 k).mp I;refine qk4 (if_of false (λQ q=>qq8 (qK3 (p:=rA a n wr f g []) (x:=.int k) (d:=Ft n.toNat g k) rfl (qc7 rfl) rfl rfl ⟨false,n,wr,f,g,[],k,rfl,X k I,rfl⟩ rfl (qa1 (a:=D.bl false) ?_ (qa1 (a:=false) rfl q)))) nofun λ_=>a0 _ ⟨_,rfl⟩);rw[Ah (x:=.l z (Q4 n.toNat g)) (y:=.int k) rfl rfl (qaI9 Y e)];obtain⟨j,hj⟩:=qy8 Y e;rw[hj];show some (D.bl (!(((j:Nat):Int)==(j:Nat))))=_;rw[zB1];rfl
  rintro u ⟨d,rfl⟩;exact B _ ⟨d,rfl⟩
 rintro u ⟨d,rfl⟩;refine qc1 (λu=>∃d,u=(qf6 n wr f z g o (rA a n wr f g []) (kL s) d)) (λK B=>qn5 (d:=kL (s.take 1)) (by exact Jo (z:=false) (m:=1)) (qa1 (a:=Q3 (s.take 1)) rfl ⟨qe8 _,?_⟩)) ?_
 .cases s with
  |nil=>exact B _ ⟨d,rfl⟩
  |cons k L=>
  obtain⟨V,a1⟩:=zC0.mp nk;have lL:L.length+1<=64:=lk;have ef:((k::L).filter λx=>decide (x≠k))=L:=by
   rw[zCg (by simp)];exact List.filter_eq_self.mpr λx hx=>zAi λe=>V (e ▸ hx)
  refine qk4 ?_;refine qc1 (λu=>∃v,u=(qf6 n wr f z g o (rA a n wr f v [.q [.str "take",.int k]]) (kL (k::L)) (.int k))/\Kept n.toNat wr (Q0 n f) v L) (λK B=>qi6 (qt3 (p:=rA a n wr f g []) rfl (qc7 rfl) (qc4 (x:=.int k) rfl (qb6 (qa1 (a:=D.int k) rfl (qa1 (a:=rA a n wr f g []) rfl ⟨n,wr,f,g,[],k::L,k,rfl,W,H,X,KK,zA7,∅,λr came v K'=>?_⟩)))))) ?_
  .rw[ef] at K'
   exact qa1 (a:=(qf6 n wr f z g o (rA a n wr f v [.q [.str "take",.int k]]) (kL (k::L)) (.int k))) rfl (B _ ⟨v,rfl,K'⟩)
  rintro u ⟨v,rfl,K'⟩;have nc:∀q,¬Crowd n.toNat wr (Q0 n f) (L++[k]) q:=λq c=>KK.no_crowd q (c.perm (List.perm_append_comm (l₁:=L) (l₂:=[k])))
  have end3:∀g3,Kept n.toNat wr (Q0 n f) g3 (L++[k])->rA a n wr f g3 []=rA a n wr f g []:=λg3 K3=>congrArg (λl=>D.ins false a.Cb [("plan",Qz true a.Ca n wr f),("held",.l false l),("done",.l false [])]) (ql7 (K3.same KK λx=>by rw[zAf,zAd,zAj,or_comm]))
  refine qau5 (qax9 (qaZ1 (qm5 (p:=rA a n wr f v [.q [.str "take",.int k]]) (d:=rL n v) rfl (qc7 rfl) ⟨false,n,wr,f,v,_,rfl,rfl⟩ rfl (qg3 (qc4 (x:=Ae n wr f) rfl (qc8 (y:=kL L) (by exact sl_tl (z:=false)) (qb6 (qa1 (a:=Ae n wr f) rfl ⟨n,wr,f,false,L,rfl,W,H,nd,a1,⋯,λ⟨q,c⟩=>absurd c (K'.no_crowd q),λ_ g2 K2=>qa1 (a:=(qf6 n wr f z g o (rA a n wr f v [.q [.str "take",.int k]]) (kL (k::L)) (.int k))) rfl (qa1 (a:=D.bl false) (qaJ4 (K'.same K2 λ_=>Iff.rfl)) (qa1 (a:=false) rfl ?_))⟩))))))));refine qq8 (qt3 (p:=rA a n wr f v [.q [.str "take",.int k]]) rfl (qc7 rfl) (qb6 (qa1 (a:=rA a n wr f v [.q [.str "take",.int k]]) rfl ⟨n,wr,f,v,_,L,rfl,W,H,λx hx=>X x (.tail _ hx),K',.inr ⟨[],k,X k zA7,.inr ⟨rfl,V,nc,λg3 K3=>?_⟩⟩⟩)));exact qa1 (a:=(qf6 n wr f z g o (rA a n wr f g3 []) (kL (k::L)) (.int k))) rfl (qa1 (a:=D.bl false) rfl (qa1 (a:=false) rfl (B _ ⟨.int k,by rw[end3 g3 K3]⟩)))
 rintro u ⟨d,rfl⟩;refine qf5 (qaL8 (qu5 (qm5 (p:=rA a n wr f g []) (d:=rL n g) rfl (qc7 rfl) ⟨false,n,wr,f,g,[],rfl,rfl⟩ rfl (qa1 (a:=D.bl true) (qaJ7 λ_ _=>rfl) (qa1 (a:=true) rfl (By rfl ?_))))));refine qaL8 (qu5 (qm5 (p:=rA a n wr f g []) (d:=.l false []) rfl (qc7 rfl) ⟨false,n,wr,f,g,[],rfl,rfl,rfl⟩ rfl (qa1 (a:=D.bl true) rfl (qa1 (a:=true) rfl (By rfl ?_)))));exact qu5 (qt3 (p:=rA a n wr f g []) rfl (qc7 rfl) (qb6 (qa1 (a:=rA a n wr f g []) rfl ⟨n,wr,f,g,[],S,rfl,W,H,hS,KP,.inl ⟨rfl,qa1 (a:=(qf6 n wr f z g o (rA a n wr f g []) (kL s) d)) rfl (qa1 (a:=D.bl true) rfl q)⟩⟩)))
theorem ql0:qa9 ["_law_row", "_law_plan", "_law_keys", "_law_size", "_law_rooms", "_law_word", "_law_found", "_law_other", "_law_due", "_law_key"] ["_law_row", "_law_plan", "_law_keys", "_law_size"] (qa4 qT4):=by walk_at "s"
theorem qap6(h:te ds (λd a=>g d a e.nx) e.xe):G1 te g e ds:=h
theorem ok_pr(ps:Pr):(Q5 ps).all (okN 19)=true:=zBe.mpr λx a=>by
 obtain⟨p,_,rfl⟩:=zB8.mp a;rfl
theorem qaH3{n:Int}{wr:Bool}{ps:Pr}:gNe (Ae n wr ps) (Ae n wr ps)=some (.bl false):=by show (Fv (eqN 20) [.int n,.bl wr,.l true (Q5 ps)] [.int n,.bl wr,.l true (Q5 ps)]).map (λb=>D.bl (!b))=_;rw[qo4 λx a=>qD8 (zBe.mp (show ([.int n,.bl wr,.l true (Q5 ps)]:Ds).all (okN 20)=true by show (okN 20 (.int n)&&(okN 20 (.bl wr)&&((Q5 ps).all (okN 19)&&true)))=true;rw[ok_pr];rfl) x a)];rfl
def qar1(C CP:γ):VSp:=λds Q _=>∃n wr ps g dn z S m,ds=[Au false C CP n wr ps g dn,Ae n wr ps,.l z (Q3 S),.int m]/\1<=n/\n<=64/\1<=m/\m<=64/\qG0 ps/\(∀y∈S,Am y)/\Kept n.toNat wr (Q0 n ps) g S/\Q (.bl true) ds
abbrev qd7(a:Adr)(n:Int)(wr:Bool)(ps:Pr) (g) (dn) (z) (S) (m) (b c d e f:D):=([rA a n wr ps g dn,Ae n wr ps,.l z (Q3 S),.int m,rL n g,b,c,d,e,f]:Ds)
theorem qJ9(T:Txt K mg a):VFn P w K mg base 17 a.f52 a.d52 ["_law_row", "_law_plan", "_law_keys", "_law_size"] (qar1 a.Cb a.Ca):=by
 refine VFn.mk2 T.d52.F ql0 (wOf [true,true,true,true]) (by walk_at "m") (by walk_at "l") (λ_ _ _ _ _ _ _ s=>⟨_,(Ac (Aj 4 ql0.nd (qe9 0 T.d28 T.Cc.cl (qb5 T) qa0 (rm s))) (Ac (Hm (Af T.d50 (qJ8 T) qa0 (rm s) (vaN 0 (vaN 3 Aa))) (Km (n:=2) rfl (qP3 (Bc 5 ql0.nd) (qP3 (Bc 6 ql0.nd) Kl)))) (Ac (Aj 7 ql0.nd (qa3 (Ga (qa2 (vnm 3) (qa2 (v2 (Av qb4) Al (vnm 1) Ad) (qa2 (v2 (Av qb4) Al (vnm 1) Ad) qa6 rfl) rfl) rfl)))) (Ac (Aj 8 ql0.nd (Af T.d44 (qn4 T) qa0 (rm s) (vaN 7 (vaN 2 Aa)))) (Ac (sif (q2 (Ap Gs (qa8 _)) Gr (vnm 8) A9) (Ag (An (Hf (qa3 (v2 (Ax (qm4 s.u64) (qa8 _)) Bk (vnm 5) Bh)) (Hf (Af T.d49 (qat3 T) qa0 (rm s) (vaN 7 (vaN 2 (vaN 6 Aa)))) (Jr (e2v (Ax (qm4 s.u64) (qa8 _)) Bk (qe9 0 T.d28 T.Cc.cl (qb5 T) qa0 (rm s)) (vnm 4))))))) Aw) (Ac (sif (tor (q2 (Ap (qh7 s.u64) (qa8 _)) Br (vnm 5) Bh) (tor (Bi (tv (vbi (qM0 T.Ff T.Cc.cl) qaL2.ops T.Cd (qa2 (vnm 6) (qa2 (vcls a.Cb T.Cc.m) qa6 rfl) rfl)))) (tor (q2v (Ax (qh7 s.u64) (qa8 _)) (Ap (qh7 s.u64) (qa8 _)) Br (qe9 6 T.d28 T.Cc.cl (qb5 T) qa0 (rm s)) (vnm 8)) (Iv (q2v (Ax (qh7 s.u64) (qa8 _)) (Ap (qh7 s.u64) (qa8 _)) Br (qe9 6 T.d35 T.Cc.cl (ql9 T) qa0 (rm s)) (Bs qa6)))))).te (Ag (An (qa3 vbl))) Aw) (Ac (sif (q2 (Ap (qh7 s.u64) (qa8 _)) Br (Ga (qa2 (Ba rfl (Ba rfl (vnm 6) T.Cc.cl T.Cj) T.Ce.cl T.Cg) (qa2 (Ba rfl (Ba rfl (vnm 6) T.Cc.cl T.Cj) T.Ce.cl T.Cq) (qa2 (Ba rfl (Ba rfl (vnm 6) T.Cc.cl T.Cj) T.Ce.cl T.Di) qa6 rfl) rfl) rfl)) (vnm 7)) (Ag (An (qa3 vbl))) Aw) (Ac (sif (Bi (te (Af T.d51 (qak4 T) qa0 (rm s) (vaN 6 (vaN 7 (vaN 8 Aa)))))) (Ag (An (qa3 vbl))) Aw) (Ac (G9 P9 (qa3 (vsl (vnm 2) Hk (Hl Ad))) (Bc 9 ql0.nd) (Ag (Bd (qj7 6 T.d33 T.Cc.cl (qo2 T) qa0 (rm s) (vaN 9 Aa))))) (Ag (An (e2v (Ax (qm4 s.u64) (qa8 _)) Bk (qe9 0 T.d28 T.Cc.cl (qb5 T) qa0 (rm s)) (vnm 4))))))))))))),λu Q J h=>?_⟩);obtain⟨n,wr,i,g,j,z,S,m,rfl,O,I,v,A,G,C,KP,q⟩:=h;have E:=G.nd;have M:S.length<=64:=by have:=KP.len;lia
 refine At [rA a n wr i g j,Ae n wr i,.l z (Q3 S),.int m,.u,.u,.u,.u,.u,.u] rfl ?_;refine qb1 (qd7 a n wr i g j z S m .u .u .u .u .u) (λK t=>qe0 (qm5 (p:=rA a n wr i g j) (d:=rL n g) rfl (qc7 rfl) ⟨false,n,wr,i,g,j,rfl,rfl⟩ rfl t)) ?_;by_cases H:∃q,Crowd m.toNat wr (Q0 m i) S q
 .refine qc1 (λu=>∃r:Nat,Crowd m.toNat wr (Q0 m i) S r/\u=(qd7 a n wr i g j z S m (.str "room") (.int (r:Nat)) .u .u .u)) (λK t=>?_) ?_
  .refine qap6 (qu4 (x:=rA a n wr i g j) (y:=.int m) rfl rfl rfl ⟨_,_,rfl,⟨_,rfl⟩,.inr ⟨false,n,wr,i,g,j,S,rfl,I,G,C,KP,(λh=>by rw[qn9 v A] at h;cases h),λN e _ _=>⟨λr c=>?_,λB=>absurd H λ⟨q,c⟩=>?_⟩⟩⟩)
   .cases e
    exact qa1 (a:=(qd7 a n wr i g j z S m .u .u .u .u .u)) rfl (qD5 (t _ ⟨r,c,rfl⟩))
   cases e;exact B q c
  rintro u ⟨r,c,rfl⟩;have s:=c.1;refine qb1 (qd7 a n wr i g j z S m (.str "room") (.int (r:Nat)) (Ae m wr i) .u .u) (λK t=>qA0 (d:=Ae m wr i) rfl t) ?_;refine qb1 (qd7 a n wr i g j z S m (.str "room") (.int (r:Nat)) (Ae m wr i) .non .u) (λK t=>qe0 (qu4 (x:=Ae m wr i) (y:=.l z (Q3 S)) rfl rfl rfl ⟨m,wr,i,z,S,rfl,v,A,E,KP.h.1,⋯,λ_=>qa1 (a:=(qd7 a n wr i g j z S m (.str "room") (.int (r:Nat)) (Ae m wr i) .u .u)) rfl t,λB=>absurd H λ⟨q,c⟩=>B q c⟩)) ?_;refine qi9 true rfl (λ_=>qf5 (Ha true rfl (λ_=>qaL8 (qax3 (x:=Ae m wr i) (y:=.l z (Q3 S)) (w:=.int (r:Nat)) rfl rfl rfl rfl rfl (qm0 (d:=.bl true) ⟨m,wr,i,z,S,(r:Nat),rfl,v,E,⋯,⋯,⋯,by rw[(qL4 v s).mpr c]⟩ ?_))) nofun)) nofun;exact qa1 (a:=(qd7 a n wr i g j z S m (.str "room") (.int (r:Nat)) (Ae m wr i) .non .u)) rfl (qa1 (a:=true) rfl (By rfl (qu5 (qm5 (p:=rA a n wr i g j) (d:=rL n g) rfl (qc7 rfl) ⟨false,n,wr,i,g,j,rfl,rfl⟩ rfl (qa1 (a:=D.bl true) (qaJ7 λ_ _=>rfl) q)))))
 have B:∀q,¬Crowd m.toNat wr (Q0 m i) S q:=λq c=>H ⟨q,c⟩
 refine qc1 (λu=>∃o,Kept m.toNat wr (Q0 m i) o S/\u=(qd7 a n wr i g j z S m (.str "told") (rA a m wr i o []) .u .u .u)) (λK t=>?_) ?_
 .refine qap6 (qu4 (x:=rA a n wr i g j) (y:=.int m) rfl rfl rfl ⟨_,_,rfl,⟨_,rfl⟩,.inr ⟨false,n,wr,i,g,j,S,rfl,I,G,C,KP,(λh=>by rw[qn9 v A] at h;cases h),λN e _ _=>⟨λr c=>?_,λ_ o K'=>?_⟩⟩⟩)
  .cases e
   exact absurd c (B r)
  cases e;exact qa1 (a:=(qd7 a n wr i g j z S m .u .u .u .u .u)) rfl (qD5 (t _ ⟨o,K',rfl⟩))
 rintro u ⟨o,K',rfl⟩;refine qb1 (qd7 a n wr i g j z S m (.str "told") (rA a m wr i o []) (Ae m wr i) .u .u) (λK t=>qA0 (d:=Ae m wr i) rfl t) ?_;refine qb1 (qd7 a n wr i g j z S m (.str "told") (rA a m wr i o []) (Ae m wr i) (.l false (Q4 m.toNat o)) .u) (λK t=>qe0 (qu4 (x:=Ae m wr i) (y:=.l z (Q3 S)) rfl rfl rfl ⟨m,wr,i,z,S,rfl,v,A,E,KP.h.1,⋯,λ⟨q,c⟩=>absurd c (B q),λ_ g2 K2=>?_⟩)) ?_
 .rw[show rL m g2=rL m o from congrArg (D.l false) (ql7 (K2.same K' λ_=>Iff.rfl))]
  exact qa1 (a:=(qd7 a n wr i g j z S m (.str "told") (rA a m wr i o []) (Ae m wr i) .u .u)) rfl t
 refine qi9 false rfl nofun λ_=>?_
 refine qj2 false (λQ q=>qp2 false false (λQ q=>qm6 (b:=false) rfl q) (λ_ Q q=>qp2 false false (λQ q=>qk8 (b:=true) (show He a.Cb (rA a m wr i o []) (.adr a.Cb)=some (.bl true) from qaA5) q) (λ_ Q q=>qp2 false false (λQ q=>qq8 (qm5 (p:=rA a m wr i o []) (d:=.l false (Q4 m.toNat o)) rfl (qc7 rfl) ⟨false,m,wr,i,o,[],rfl,rfl⟩ rfl (qa1 (a:=D.bl false) (qaJ4 λ_ _=>rfl) (qa1 (a:=false) rfl q)))) (λ_ Q q=>qq8 (qm5 (p:=rA a m wr i o []) (d:=.l false []) rfl (qc7 rfl) ⟨false,m,wr,i,o,[],rfl,rfl,rfl⟩ rfl (qa1 (a:=D.bl false) rfl (qa1 (a:=false) rfl q)))) q) q) q) nofun λ_=>?_
 refine qi9 false (Ah (x:=Ae m wr i) (y:=Ae m wr i) ?_ rfl qaH3) nofun λ_=>?_
 .unfold A7 A5
  rw[Ay (Ay rfl qf8) qd8,Ay (Ay rfl qf8) qo3,Ay (Ay rfl qf8) qav1];rfl
 refine Gx (λQ J q=>qax3 (x:=rA a m wr i o []) (y:=Ae m wr i) (w:=.l false (Q4 m.toNat o)) rfl rfl rfl rfl rfl ⟨m,wr,i,o,false,S,rfl,v,A,E,C,K',qa1 (a:=(qd7 a n wr i g j z S m (.str "told") (rA a m wr i o []) (Ae m wr i) (.l false (Q4 m.toNat o)) .u)) rfl q⟩) ?_;refine qc1 (λu=>∃f k,u=(qd7 a n wr i g j z S m (.str "told") f (Ae m wr i) (.l false (Q4 m.toNat o)) k)) (λK t=>qn5 (d:=kL (S.take 1)) (by exact Jo (z:=z) (m:=1)) (qa1 (a:=Q3 (S.take 1)) rfl ⟨qe8 _,?_⟩)) ?_
 .cases S with
  |nil=>exact t _ ⟨_,_,rfl⟩
  |cons k L=>
  refine qk4 (qi6 (qt3 (p:=rA a m wr i o []) rfl (qc7 rfl) (qc4 (x:=.int k) rfl (qb6 (qa1 (a:=D.int k) rfl (qa1 (a:=rA a m wr i o []) rfl ⟨m,wr,i,o,[],k::L,k,rfl,v,A,C,K',zA7,∅,λr came g3 K3=>?_⟩))))));exact qa1 (a:=[rA a n wr i g j,Ae n wr i,.l z (Q3 (k::L)),.int m,rL n g,.str "told",rA a m wr i g3 [.q [.str "take",.int k]],Ae m wr i,.l false (Q4 m.toNat o),.int k]) rfl (t _ ⟨_,_,rfl⟩)
 rintro u ⟨f,k,rfl⟩;exact qf5 (qu5 (qm5 (p:=rA a n wr i g j) (d:=rL n g) rfl (qc7 rfl) ⟨false,n,wr,i,g,j,rfl,rfl⟩ rfl (qa1 (a:=D.bl true) (qaJ7 λ_ _=>rfl) q)))
theorem qF1:qa9 ["self", "homes"] ["self", "homes"] (qa4 ql6):=by walk_at "s"
def Jp(a:Bool)(CG C CP:γ)(n:Int)(ps:Pr)(g:Nat->Option Int)(dn:Ds)(h:Int):D:=.ins a CG [("row",Au a C CP n true ps g dn),("housed_anew",.int h)]
def qE8(CG C CP:γ):VSp:=λds Q _=>∃z ps,ds=[.ins false CG [],.l z (Q5 ps)]/\qG0 ps/\Q .non [Jp false CG C CP 4 ps (λ_=>none) [] 0,.l z (Q5 ps)]
theorem qF5(T:Txt K mg a):VFn P w K mg base 12 a.f38 a.d38 ["self", "homes"] (qE8 a.Ci a.Cb a.Ca):=by refine VFn.mk2 T.d38.F qF1 (wOf [true,true]) (by walk_at "m") (by walk_at "l") (λ_ _ _ _ _ _ _ d=>⟨_,(Ac (sif (Bi (te (Af T.d7 (qp7 T) qa0 (rm d) (vaN 1 Aa)))) (Ag (qo7 T.Co (qb2 T) (rm d) T.Cp T.d0.b qa0 (qa3 Ad))) Aw) (Ac (Iz rfl (vpn 0) (qbe8 (ndv:=[]) T.Cc T.En T.d27.bn (qw7 T) qa0 (rm d) (vaV (Bl (Kj T.Ce T.Ek T.d8 (qr4 T) qa0 (rm d) (vaV (qa3 (vgi T.Ed)) (vaV (qa3 vbl) (vaN 1 Aa))))) Aa)) T.D4.cl T.Ee) (Ag (Iz rfl (vpn 0) (qa3 Ad) T.D4.cl T.D5)))),λg Q e h=>?_⟩);obtain⟨z,c,rfl,G,q⟩:=h;refine At [.ins false a.Ci [],.l z (Q5 c)] rfl ?_;refine Gx (λQ e q=>qW4 rfl ⟨D.bl true,⟨_,rfl,(qt9 G).2,by rw[(qt9 G).1]⟩,qa1 rfl q⟩) ?_;refine qb1 [.ins false a.Ci [("row",rA a 4 true c (λ_=>none) [])],.l z (Q5 c)] (λK f=>M3 (qd2 (Gn (qG7 (qc8 rfl (qc8 rfl (qc4 rfl (qb6 (qa1 rfl ⟨4,true,z,c,rfl,∅,∅,G,rfl,?_⟩))))))))) ?_;{refine qa1 rfl (qa1 rfl (qb6 ?_));rw[qP4];refine⟨4,true,c,.non,λ_=>none,[],rfl,∅,∅,nofun,Kept.none ∅ (G3 ∅),.inl ⟨rfl,rfl⟩,rfl,?_⟩;exact qa1 rfl (qa1 rfl (qa1 rfl (qa1 qh9 ⟨∅,f⟩)))};exact M3 (qn5 rfl (qa1 rfl (qa1 qh9 ⟨by show 1<100;decide,q⟩)))
theorem qo0:qa9 ["_law_bag_here", "_law_row", "_law_odd", "_law_wrong", "_law_size"] ["_law_bag_here", "_law_row"] (qa4 qB5):=by walk_at "s"
noncomputable def Ln(u v:Int):Ds:=[.non,.str "4",.bl true,.bl false,.int 0,.int 65,.int (0-1-u),.int (65+v),.q [.int 4],.l true [.int 4],.dct true []]
theorem qaG9{u v:Int}(a:0<=u)(b:0<=v)(h:x∈Ln u v):x.imm=true/\x.within 1 64=false/\∃t,x.kind=some t:=by
 simp only[Ln,zAj,zBk,or_false] at h;rcases h with rfl|rfl|rfl|rfl|rfl|rfl|rfl|rfl|rfl|rfl|rfl;case inr.inr.inr.inr.inr.inr.inl=>exact⟨rfl,by show (decide (1<=0-1-u)&&_)=false;rw[zAz ⋯];rfl,_,rfl⟩
 case inr.inr.inr.inr.inr.inr.inr.inl=>exact⟨rfl,by show (_&&decide (65+v<=64))=false;rw[zAz (p:=65+v<=64) ⋯,Bool.and_false],_,rfl⟩
 all_goals exact⟨rfl,rfl,_,rfl⟩
def qH7(C CP CG:γ)(n:Int)(wr:Bool)(ps:Pr):Ds:=[.non,.int 5,.l true [],.str "row",.q [.u],Qz true CP n wr ps,.dct true [],.bl true,Jp true CG C CP 4 [] (λ_=>none) [] 0]
theorem qaf2{C CP CG:γ}{n:Int}{wr:Bool}{ps:Pr}(h:x∈qH7 C CP CG n wr ps):x.imm=true/\x.known=true/\M4 C CP CG x:=by
 have f:∀{x:D}{t:String},x.isC C=some (.bl false)->He C x (.adr C)=some (.bl false):=λh=>by show (if C=C then _ else none)=_;rw[if_pos rfl];exact h
 simp only[qH7,zAj,zBk,or_false] at h;rcases h with rfl|rfl|rfl|rfl|rfl|rfl|rfl|rfl|rfl;case inr.inr.inr.inr.inr.inl=>exact⟨rfl,rfl,qaT3 (.head _)⟩
 case inr.inr.inr.inr.inr.inr.inr.inr=>exact⟨rfl,rfl,qaT3 (.tail _ (.head _))⟩
 all_goals exact⟨rfl,rfl,f (t := "") rfl⟩
def qac4(C CP CG:γ):VSp:=λds Q _=>∃b ns zr n wr ps g dn S,ds=[b,Au zr C CP n wr ps g dn]/\Re ns b/\n<=64/\qG0 ps/\(∀k∈S,Am k)/\Kept n.toNat wr (Q0 n ps) g S/\∀a,Re ns a->Q (.bl true) [a,Au zr C CP n wr ps g dn]
abbrev qg4 (zr) (a:Adr) (n:Int) (wr:Bool) (ps:Pr) (g) (dn) (u) (v) (p0 b c:D):=([p0,Au zr a.Cb a.Ca n wr ps g dn,.l false (Ln u v),b,c]:Ds)
theorem qad7(T:Txt K mg a):VFn P w K mg base 15 a.f53 a.d53 ["_law_bag_here", "_law_row"] (qac4 a.Cb a.Ca a.Ci):=by
 refine VFn.mk2 T.d53.F qo0 (wOf [true,true]) (by walk_at "m") (by walk_at "l") (λ_ _ _ _ _ _ _ k=>⟨_,(Ac (Aj 2 qo0.nd (Hg (vaV (Bl (qa3 A9)) (vaV (Bl (qa3 Bh)) (vaV (Bl (qa3 vbl)) (vaV (Bl (qa3 vbl)) (vaV (Bl (qa3 Ad)) (vaV (Bl (qa3 Ad)) (vaV (Bl (e2 (Ak qr1) qq9 (qa3 (v2 (Ak qr1) qq9 Ad Ad)) (Af T.d41 (qb8 T) qa0 (rm k) (vaN 0 (vaV (qa3 Ad) Aa))))) (vaV (Bl (e2 (Ak qh1) qh0 (qa3 Ad) (Af T.d41 (qb8 T) qa0 (rm k) (vaN 0 (vaV (qa3 (vpow 1000000000000000000)) Aa))))) (vaV (Bl (qa3 (Ga (qa2 Ad qa6 rfl)))) (vaV (Bl (qa3 (Bs (qa2 Ad qa6 rfl)))) (vaV (Bl (qa3 vdct0)) Aa))))))))))))) (Ac (Aj 3 qo0.nd (e2P (Av qb4) Al (Hg (vaV (Bl (qa3 A9)) (vaV (Bl (qa3 Ad)) (vaV (Bl (qa3 (Bs qa6))) (vaV (Bl (qa3 Bh)) (vaV (Bl (qa3 (Ga (qa2 (vun (vnm 1)) qa6 rfl)))) (vaV (Bl (qb9 (Ba rfl (vnm 1) T.Cc.cl T.Cj))) (vaV (Bl (qa3 vdct0)) (vaV (Bl (qa3 vbl)) (vaV (Bl (Kj T.D4 T.Eo T.d38 (qF5 T) qa0 (rm k) (vaV (qa3 (Bs qa6)) Aa))) Aa)))))))))) (Af T.d41 (qb8 T) qa0 (rm k) (vaN 0 (vaV (qa3 Ad) Aa))))) (Ac (Aj 4 qo0.nd (e2nP 2 (Av qb4) Al (Af T.d41 (qb8 T) qa0 (rm k) (vaN 0 (vaV (qa3 Ad) Aa))))) (Ac (sif (tor (q2v (Ax (qh7 k.u64) (qa8 _)) (Ap (qh7 k.u64) (qa8 _)) Br (Af T.d50 (qJ8 T) qa0 (rm k) (vaN 1 (vaN 4 Aa))) (Ga (qa2 Bh (qa2 Ad qa6 rfl) rfl))) (Iv (q2v (Ax (qh7 k.u64) (qa8 _)) (Ap (qh7 k.u64) (qa8 _)) Br (Af T.d50 (qJ8 T) qa0 (rm k) (vaN 3 (vaN 4 Aa))) (Ga (qa2 Bh (qa2 Ad qa6 rfl) rfl))))).te (Ag (An (qa3 vbl))) Aw) (Ag (An (e2v (Ax (qm4 k.u64) (qa8 _)) Bk (Af T.d50 (qJ8 T) qa0 (rm k) (vaN 3 (vaV (qa3 Ad) Aa))) (Ga (qa2 Bh (qa2 Ad qa6 rfl) rfl))))))))),λo Q xe h=>?_⟩);obtain⟨b,A,f,n,wr,c,g,j,S,rfl,B,O,G,R,KP,q⟩:=h;refine At [b,Au f a.Cb a.Ca n wr c g j,.u,.u,.u] rfl ?_;refine qc1 (λo=>∃b u v,o=(qg4 f a n wr c g j u v b .u .u)/\Re A b/\0<=u/\0<=v) (λK r=>?_) ?_;{refine qe0 (qr7 ?_);refine qh8 (y:=.non) rfl ?_;refine qh8 (y:=.str "4") rfl ?_;refine qh8 (y:=.bl true) rfl ?_;refine qh8 (y:=.bl false) rfl ?_;refine qh8 (y:=.int 0) rfl ?_;refine qh8 (y:=.int 65) rfl ?_;refine qd2 (Gn (qy0 (x:=.int (0-1)) rfl (qc5 (ds:=[b,Au f a.Cb a.Ca n wr c g j,.u,.u,.u]) rfl B rfl ∅ ∅ λu s U u1 B'=>qa1 (a:=D.int (0-1-u)) rfl ?_)));refine qd2 (Gn (qy0 (x:=.int 65) rfl (qc5 (ds:=[s,Au f a.Cb a.Ca n wr c g j,.u,.u,.u]) rfl B' rfl ∅ ∅ λv V W v1 B2=>qa1 (a:=D.int (65+v)) rfl ?_)));refine qh8 (y:=.q [.int 4]) rfl ?_;refine qh8 (y:=.l false [.int 4]) rfl ?_;refine qh8 (y:=.dct false []) rfl ?_;exact qb6 ⟨by show 11<=1000000;decide,r _ ⟨V,u,v,rfl,B2,U,W⟩⟩};rintro o ⟨b,u,v,rfl,B,X,Y⟩;refine qc1 (λo=>∃b w,o=(qg4 f a n wr c g j u v b w .u)/\Re A b/\w∈qH7 a.Cb a.Ca a.Ci n wr c) (λK r=>?_) ?_;{refine qe0 (Mx (qr7 ?_));refine qh8 (y:=.non) rfl ?_;refine qh8 (y:=.int 5) rfl ?_;refine qh8 (y:=.l false []) rfl ?_;refine qh8 (y:=.str "row") rfl ?_;refine qh8 (y:=.q [.u]) rfl ?_;refine qaM7 (y:=Qz true a.Ca n wr c) (Ay rfl qf8) rfl ?_;refine qh8 (y:=.dct false []) rfl ?_;refine qh8 (y:=.bl true) rfl ?_;refine qd2 (Gn (qG7 (qc8 (y:=.l false []) rfl (qb6 ⟨false,[],rfl,⟨zBi _,O0,nofun⟩,rfl,qa1 (a:=Jp false a.Ci a.Cb a.Ca 4 [] (λ_=>none) [] 0) rfl (qa1 (a:=(qg4 f a n wr c g j u v b .u .u)) rfl (qb6 ⟨by show 9<=1000000;decide,?_⟩))⟩))));refine qc5 (ds:=[b,Au f a.Cb a.Ca n wr c g j,.l false (Ln u v),.u,.u]) rfl B rfl ∅ ∅ λi s C E B'=>?_;obtain⟨d,H,I⟩:=qE1 (xs:=qH7 a.Cb a.Ca a.Ci n wr c) (i:=i) C E;rw[qP4,show (Jp false a.Ci a.Cb a.Ca 4 [] (λ_=>none) [] 0).fz=Jp true a.Ci a.Cb a.Ca 4 [] (λ_=>none) [] 0 from rfl];exact qa1 (a:=d) I (r _ ⟨s,d,rfl,B',H⟩)};rintro o ⟨b,w,rfl,B,z⟩;obtain⟨wi,p,z⟩:=qaf2 z;refine qc1 (λo=>∃b y,o=(qg4 f a n wr c g j u v b w y)/\Re A b/\y.within 1 64=false/\∃t,y.kind=some t) (λK r=>qe0 ⟨rfl,?_⟩) ?_;{refine qc5 (ds:=[b,Au f a.Cb a.Ca n wr c g j,.l false (Ln u v),w,.u]) rfl B rfl ∅ ∅ λi s C E B'=>?_;obtain⟨d,H,I⟩:=qE1 (xs:=Ln u v) (i:=i) C E;have L:=qaG9 X Y H;exact qa1 (a:=d) I ⟨L.1,r _ ⟨s,d,rfl,B',L.2⟩⟩};rintro o ⟨b,y,rfl,B,M,t,J⟩;have N:=qi5 J;refine qj2 false (λQ q=>qp2 false false (λQ q=>qq8 (qu4 (x:=Au f a.Cb a.Ca n wr c g j) (y:=y) rfl (qe7 rfl N) rfl ⟨_,y,rfl,⟨t,J⟩,.inr ⟨f,n,wr,c,g,j,S,rfl,O,G,R,KP,λ_=>?_,λm e Z m2=>?_⟩⟩)) (λ_ Q q=>qq8 (qu4 (x:=w) (y:=y) (qe7 rfl p) (qe7 rfl N) (qe7 rfl p) ⟨w,y,rfl,⟨t,J⟩,.inl ⟨z,p,?_⟩⟩)) q) nofun λ_=>?_
 {exact qa1 (a:=(qg4 f a n wr c g j u v b w y)) rfl (qa1 (a:=D.bl false) rfl (qa1 (a:=false) rfl q))};{subst e;rw[qn9 Z m2] at M;cases M};{exact qa1 (a:=(qg4 f a n wr c g j u v b w y)) rfl (qa1 (a:=D.bl false) rfl (qa1 (a:=false) rfl q))};refine qf5 (qu5 (qg3 (qc4 (x:=w) (qe7 rfl p) (qc8 (y:=.int 4) rfl (qb6 (qa1 (a:=w) (qe7 rfl p) ⟨w,.int 4,rfl,⟨_,rfl⟩,.inl ⟨z,p,?_⟩⟩))))));exact qa1 (a:=(qg4 f a n wr c g j u v b w y)) rfl (qa1 (a:=D.bl true) rfl (q b B))
theorem qs8:qa9 ["_law_script", "_law_bag_here", "_law_plan", "_law_keys", "_law_row", "_law_key", "_law_deeds", "_law_turn", "_law_size", "_law_told_here", "_law_held", "_law_undoes"] ["_law_script"] (qa4 Jm):=by walk_at "s"
theorem qab3(b:S.Nodup)(h:k∈S):((S.filter λx=>decide (x≠k))++[k]).Perm S:=by refine(Ot ?_ b).mpr λx=>?_;{refine zBs.mpr ⟨b.filter _,(by simp),λx a y c e=>?_⟩;rw[e,zAd.mp c] at a;exact zAh (zAt.mp a).2 rfl};rw[zAf,zAt,zAd];exact⟨λe=>e.elim And.left λe=>e ▸ h,λa=>(Classical.em (x=k)).elim .inr λe=>.inl ⟨a,zAi e⟩⟩
theorem qR1{t:VT}{Q:Bool->Ds->Prop}(h:t ds (λd ds1=>orF d.asB λb=>Q (!b) ds1) xe):Gi (ttE t) ds Q xe:=h
theorem qaK0{l h:Option Int}(e:A7 (fx1 Ie) (A5 (rdN i) λ_=>some []) ds=some x)(s:(if noT x=true then gSl x l h else none)=some y):fsl (A7 (fx1 Ie) (A5 (rdN i) λ_=>some [])) (λ_=>some l) (λ_=>some h) ds=some y:=by unfold fsl;rw[e];exact s
theorem qaV0(N:Nat)(g:Nat->Option Int):D.fzs (Q4 N g)=Q4 N g:=by
 unfold Q4;induction N7 N with
 |nil=>rfl|cons a l b=>
  show (Gf (g a)).fz::D.fzs (l.map λi=>Gf (g i))=_;have e:(Gf (g a)).fz=Gf (g a):=by cases g a<;>rfl
  rw[b,e];rfl
theorem qaV2:(Au zr C CP n wr ps g dn).fz=Au true C CP n wr ps g (D.fzs dn):=by show D.ins true C [("plan",(Qz true CP n wr ps).fz),("held",.l true (D.fzs (Q4 n.toNat g))),("done",.l true (D.fzs dn))]=_;rw[qaV0,qP4];rfl
theorem fz_rl{z:Bool}{g:Nat->Option Int}:(D.l z (Q4 N g)).fz=.l true (Q4 N g):=congrArg (D.l true) (qaV0 _ _)
theorem qbe2{j:Int}(h:0<=j):gSl (.l z (Q3 ks)) none (some j)=some (kL (ks.take j.toNat)):=by rw[show j=((j.toNat:Nat):Int) by lia,Int.toNat_natCast];exact Jo
theorem qaU5(h:k∈S):Jv (Q3 S) [.int k]=some (Q3 (S.erase k),.non):=by show (intsD (Q3 S)).bind _=_;rw[qam8];exact if_pos h
theorem qaY9(hi:ds[i]?=some (kL S))(c:ds[j]?=some (.int k))(f:i≠j)(g:k∈S)(q:Q .non ((ds.set j .u).set i (kL (S.erase k)))):G7 Jv i (tbN j A6) ds Q xe:=by
 have e:(rdN i ds).bind D.own=some (Q3 S):=by rw[qe7 hi rfl];rfl
 have e2:(rdN i (ds.set j .u)).bind D.own=some (Q3 S):=by rw[qe7 (d:=kL S) (by rw[zBf (Ne.symm f)];exact hi) rfl];rfl
 refine⟨by rw[e];rfl,qc4 (qe7 c rfl) ?_⟩;refine qa1 (k:=λd=>orF ((rdN i (ds.set j .u)).bind D.own) λb=>orF (Jv b [d]) λz=>Q z.2 ((ds.set j .u).set i (.l false z.1))) (qe7 c rfl) ?_;refine qa1 (k:=λb=>orF (Jv b [.int k]) λz=>Q z.2 ((ds.set j .u).set i (.l false z.1))) e2 ?_;exact qa1 (a:=(Q3 (S.erase k),D.non)) (qaU5 g) q
def okD(dn:Ds):Prop:=∀d∈dn,∃w k,d=.q [.str w,.int k]
theorem okD.imms:∀{dn:Ds},okD dn->D.imms dn=true|[],_=>rfl|d::dn,h=>by obtain⟨p,k,rfl⟩:=h d zA7;show (true&&D.imms dn)=true;rw[okD.imms λx a=>h x (zA6 _ a)];rfl
theorem okD.ne{dn:Ds}(h:okD dn):gNe (.l false dn) (.l false dn)=some (.bl false):=by show (Fv (eqN 20) dn dn).map (λb=>D.bl (!b))=_;rw[qo4 λx a=>qD8 (by obtain⟨p,k,rfl⟩:=h x a;rfl)];rfl
theorem okD.app{dn:Ds}(h:okD dn)(w:Str)(k:Int):okD (dn++[.q [.str w,.int k]]):=λx a=>by
 rcases zAf.mp a with z|z
 .exact h x z
 exact⟨w,k,zAd.mp z⟩
def okT(C CP:γ)(wr:Bool)(ps:Pr)(TL:Ds):Prop:=TL.length<=2/\∀d∈TL,∃m g,d=Au true C CP m wr ps g []
theorem okT.imms{C CP:γ}{wr:Bool}{ps:Pr}:∀{TL:Ds},(∀d∈TL,∃m g,d=Au true C CP m wr ps g [])->D.imms TL=true|[],_=>rfl|d::TL,h=>by obtain⟨m,g,rfl⟩:=h d zA7;show (true&&D.imms TL)=true;rw[okT.imms λx a=>h x (zA6 _ a)];rfl
theorem okT.eq{C CP:γ}{wr:Bool}{ps:Pr}{TL:Ds}(h:okT C CP wr ps TL):gEq (.l false (TL.filterMap (D.fld C "held"))) (.l false (TL.filterMap (D.fld C "held")))=some (.bl true):=by show (Fv (eqN 20) (TL.filterMap (D.fld C "held")) (TL.filterMap (D.fld C "held"))).map D.bl=_;rw[qo4 λx a=>qD8 (by obtain⟨y,b,e⟩:=List.mem_filterMap.mp a;obtain⟨m,g,rfl⟩:=h.2 y b;rw[qj0] at e;obtain rfl:=P8 e;refine zBe.mpr λx a=>?_;rcases Mu a with rfl|⟨k,rfl⟩<;>rfl)];rfl
theorem two64{i a n:Int}(d:0<=i)(h1:i<2)(a0:0<=a)(e:a<64)(b:1<=n)(c:n<=64):∃s,atI [D.int (1+a),D.int n] i=some (.int s)/\1<=s/\s<=64:=by rcases (show i=0∨i=1 by lia) with rfl|rfl;{exact⟨1+a,rfl,⋯,⋯⟩};exact⟨n,rfl,b,c⟩
abbrev qs4 (u) (n:Int) (wr:Bool) (ps:Pr) (a:Adr) (g) (dn) (p1 d e f h i b c:D):=([D.hole u,p1,Ae n wr ps,d,rA a n wr ps g dn,e,.l false dn,f,h,i,b,c]:Ds)
theorem qbb7(T:Txt K mg a):Fx P w K mg base (CX1 P w) 18 a.f54 a.d54 ["_law_script"] (Ka K):=by
 refine T.d54.F.okX qs8 (λvs H Q E h=>?_) (λb3 A outer s H vs Q E M h=>?_);{obtain⟨l,ns,rfl,_⟩:=h;rfl};obtain⟨l,ns,rfl,hS,hl,k⟩:=h;refine⟨_,qT9 (sset 1 qs8.nd (J0 T.d40 (qaR0 T) (rm M) (qc6 (pv 0) qk1))) (show VSs ⟨λ_=>E,λ_=>false,N8 12 none,[]⟩ (Gz true (CX1 P w) P w K mg base ["_law_script", "_law_bag_here", "_law_plan", "_law_keys", "_law_row", "_law_key", "_law_deeds", "_law_turn", "_law_size", "_law_told_here", "_law_held", "_law_undoes"] "law" (qa4 Jm) a.f54 b3 A outer s H E) _ _ from(Ac (Hm (Af T.d46 (qat2 T) qa0 (rm M) (vaN 1 (vaV (qa3 Ad) Aa))) (Km (n:=2) rfl (qP3 (Bc 2 qs8.nd) (qP3 (Bc 3 qs8.nd) Kl)))) (Ac (Aj 3 qs8.nd (Af T.d47 (qad9 T) qa0 (rm M) (vaN 2 (vaN 3 Aa)))) (Ac (Aj 4 qs8.nd (qaW1 T.Cc T.En T.d27 (qw7 T) qa0 (rm M) (vaV (Bl (Kj T.Ce T.Ek T.d8 (qr4 T) qa0 (rm M) (vaV (qb9 (v2 (Av qb4) Al (vnm 2) Ad)) (vaV (qb9 (v2 (Av qb4) Al (vnm 2) Ad)) (vaV (qa3 (Iw qg7 qH5.ops T.D1 (qa2 (v2 (Av qb4) Al (vnm 2) Ad) qa6 rfl))) Aa))))) (vaV (Af T.d44 (qn4 T) qa0 (rm M) (vaN 2 (vaN 3 Aa))) Aa)))) (Ac (G9 P9 (eslN 3 (Af T.d41 (qb8 T) qa0 (rm M) (vaN 1 (vaV (qa3 Ad) Aa)))) (Bc 5 qs8.nd) (Ac (Bd (qj7 4 T.d33 T.Cc.cl (qo2 T) qa0 (rm M) (vaN 5 Aa))) (Ag (Bd (qj7 4 T.d32 T.Cc.cl (qak3 T) qa0 (rm M) (vaN 5 Aa)))))) (Ac (Aj 6 qs8.nd (qe9 4 T.d35 T.Cc.cl (ql9 T) qa0 (rm M))) (Ac (Lb P9 T.D3 (Gv (vaV (qa3 Ad) Aa)) (Bc 7 qs8.nd) (Ac (Aj 8 qs8.nd (e2P (Av qb4) Al (Hg (vaV (e2 (Ak qh1) qh0 (qa3 Ad) (Af T.d41 (qb8 T) qa0 (rm M) (vaN 1 (vaV (qa3 Ad) Aa)))) (vaV (ebi (qL9 rfl) qao3.ops T.Fc (Gv (vaV (qa3 Ad) (vaV (e2 (Ak qh1) qh0 (qa3 (v2 (Ak qr1) qq9 (vbi qu3 qu2.ops T.Cz (qa2 (vnm 3) qa6 rfl)) Ad)) (Af T.d41 (qb8 T) qa0 (rm M) (vaN 1 (vaV (qa3 Ad) Aa)))) Aa)))) (vaV (qb9 (v2 (Av qb4) Al (vnm 2) Ad)) (vaV (qa3 Ad) Aa))))) (Af T.d41 (qb8 T) qa0 (rm M) (vaN 1 (vaV (qa3 Ad) Aa))))) (Ag (sif (tor (Bi (te (Af T.d52 (qJ9 T) qa0 (rm M) (vaN 4 (vaN 2 (vaN 3 (vaV (qa3 (vbi (qz3 rfl) qaa2.ops T.Et (qa2 Ad (qa2 (vnm 8) qa6 rfl) rfl))) Aa))))))) (Iv (Bi (te (Af T.d53 (qad7 T) qa0 (rm M) (vaN 1 (vaN 4 Aa))))))).te (Ag (An (qa3 vbl))) Aw)))) (Ac (sif (q2v (Ax (qh7 M.u64) (qa8 _)) (Ap (qh7 M.u64) (qa8 _)) Br (qe9 4 T.d35 T.Cc.cl (ql9 T) qa0 (rm M)) (vnm 6)) (Ag (An (qa3 vbl))) Aw) (Ac (Aj 9 qs8.nd (Hg (vaV (Bl (Af T.d37 (qr3 T) qa0 (rm M) (vaN 4 (vaV (qb9 (v2 (Av qb4) Al (vnm 2) Ad)) Aa)))) Aa))) (Ac (sif (q2v (Ax qj6 (qa8 _)) (Ap qj6 (qa8 _)) qp0 (Af T.d44 (qn4 T) qa0 (rm M) (vaV (qa3 (Ga (qa2 Ad (qa2 (v2 (Av qb4) Al (vnm 2) Ad) (qa2 (v2 (Av qb4) Al (vnm 2) Ad) qa6 rfl) rfl) rfl))) (vaN 3 Aa))) A9) (Ag (Bd (Gj 9 qC9 Qb Qc Qd qf1 (vaV (Bl (Af T.d37 (qr3 T) qa0 (rm M) (vaN 4 (vaV (qa3 Ad) Aa)))) Aa)))) Aw) (Ac (scN (NY:=["_law_one"]) (src:=[none]) 10 9 qs8.nd (blk (λav C s0 H0 ex=>(Bc 0 (show (["_law_one"]:List Str).Nodup by decide +kernel))) (λav C s0 H0 ex=>Hq) (λav C s0 H0 ex=>(Bl (qe9 0 T.d28 T.Cc.cl (qb5 T) qn7 (rm M)))))) (Ac (Aj 11 qs8.nd (Af T.d41 (qb8 T) qa0 (rm M) (vaN 1 (vaV (qa3 Ad) Aa)))) (Ac (G9 P9 (qa3 (vsl (Iw qg7 qH5.ops T.D1 (qa2 (vnm 3) qa6 rfl)) Hk (Hl Ad))) (Bc 5 qs8.nd) (Ac (Bd (qj7 4 T.d33 T.Cc.cl (qo2 T) qa0 (rm M) (vaN 5 Aa))) (Ac (sif (Bi (te (Af T.d52 (qJ9 T) qa0 (rm M) (vaN 4 (vaN 2 (vaV (ecN (NY:=["_law_one", "_law_key"]) (src:=[none,some 5]) 3 (blk (λav C s0 H0 ex=>(Bc 0 (show (["_law_one", "_law_key"]:List Str).Nodup by decide +kernel))) (λav C s0 H0 ex=>(Hr (q2 (Ap (qh7 M.u64) (qa8 _)) Br (vnm 0) (vnm 1)))) (λav C s0 H0 ex=>(qb9 (vnm 0))))) (vaV (qb9 (v2 (Av qb4) Al (vnm 2) Ad)) Aa))))))) (Ag (An (qa3 vbl))) Aw) (Ac (sif (q2 (Ap (qm4 M.u64) (qa8 _)) Bk (vnm 11) Ad) (Ag (Bd (qe9 4 T.d34 T.Cc.cl (qw6 T) qa0 (rm M)))) (Ag (Bd (Gj 3 qbb8 Qb Qk F.type_list_remove qat6 (vaN 5 Aa))))) (Ag (sif (Bi (te (Af T.d52 (qJ9 T) qa0 (rm M) (vaN 4 (vaN 2 (vaN 3 (vaV (e2P (Av qb4) Al (Hg (vaV (e2 (Ak qh1) qh0 (qa3 Ad) (Af T.d41 (qb8 T) qa0 (rm M) (vaN 1 (vaV (qa3 Ad) Aa)))) (vaV (qb9 (v2 (Av qb4) Al (vnm 2) Ad)) Aa))) (Af T.d41 (qb8 T) qa0 (rm M) (vaN 1 (vaV (qa3 Ad) Aa)))) Aa))))))) (Ag (An (qa3 vbl))) Aw)))))) (Ag (An (e2v (Ax (qm4 M.u64) (qa8 _)) Bk (ecN (NY:=["_law_one"]) (src:=[none]) 9 (blk (λav C s0 H0 ex=>(Bc 0 (show (["_law_one"]:List Str).Nodup by decide +kernel))) (λav C s0 H0 ex=>Hq) (λav C s0 H0 ex=>(Bl (qe9 0 T.d28 T.Cc.cl (qb5 T) qn7 (rm M)))))) (vnm 10))))))))))))))))).h,?_⟩;refine⟨_,rfl,l,ns,rfl,hS,hl,λp L H' hp hL kp B=>?_⟩;obtain⟨x,y,z,U,B⟩:=B;refine qat9 (rest:=[]) (X:=Gz true (CX1 P w) P w K mg base [] "law" (qa4 Jm) a.f54 b3 A outer s H E) (n:=10) (x:=x) (y:=y) (z:=z) (ns:=U) rfl (λ_=>rfl) rfl B.at_ B.li B.ne (λH'=>k H') ?_;have B0:Re U (bagD x y z U):=⟨x,y,z,rfl,B.x0,B.y0,B.y1,B.z0,B.nn⟩;generalize bagD x y z U=b at B0;generalize V.ref l=u;refine At [D.hole u,b,.u,.u,.u,.u,.u,.u,.u,.u,.u,.u] rfl ?_;refine qc1 (λt=>∃b n wr f ks,t=[D.hole u,b,Ae n wr f,kL ks,.u,.u,.u,.u,.u,.u,.u,.u]/\Re U b/\1<=n/\n<=64/\qG0 f/\ks.Nodup/\(∀k∈ks,Am k)/\ks.length<=66) (λK N=>?_) ?_;{refine qap6 (qg3 (qc4 (x:=b) (qe7 rfl B0.known) (qc8 (y:=.int 64) rfl (qb6 (qa1 (a:=b) (qe7 rfl B0.known) ?_)))));exact⟨b,64,U,rfl,B0,∅,∅,λb' n wr f ks B' n1 n2 G nd hk a6=>qa1 (a:=[D.hole u,b',.u,.u,.u,.u,.u,.u,.u,.u,.u,.u]) rfl (qD5 (N _ ⟨b',n,wr,f,ks,rfl,B',n1,n2,G,nd,hk,a6⟩))⟩};rintro t ⟨b,n,wr,f,ks,rfl,B,n1,n2,G,nd,hk,a6⟩;refine qc1 (λt=>∃S:List Int,t=[D.hole u,b,Ae n wr f,kL S,.u,.u,.u,.u,.u,.u,.u,.u]/\S.Sublist ks/\∀q,¬Crowd n.toNat wr (Q0 n f) S q) (λK N=>qe0 (qu4 (x:=Ae n wr f) (y:=kL ks) rfl rfl rfl ⟨n,wr,f,false,ks,rfl,n1,n2,G.nd,nd,⋯,λS h nc=>qa1 (a:=[D.hole u,b,Ae n wr f,kL ks,.u,.u,.u,.u,.u,.u,.u,.u]) rfl (N _ ⟨S,rfl,h,nc⟩)⟩)) ?_;rintro t ⟨S,rfl,sub,nc⟩;replace hk:∀x∈S,Am x:=λx Z=>hk x (sub.subset Z);replace nd:=nd.sublist sub;replace a6:=zAg sub.length_le a6;refine qc1 (λt=>∃g,t=[D.hole u,b,Ae n wr f,kL S,rA a n wr f g [],.u,.u,.u,.u,.u,.u,.u]/\Kept n.toNat wr (Q0 n f) g S) (λK N=>qe0 (qG7 (qd2 (Gn (qG7 (qe1 (y:=.int n) rfl rfl (qe1 (y:=.bl wr) rfl rfl (qc8 (y:=.l false (Q5 f)) (qaA3 (z:=true)) (qb6 ⟨n,wr,false,f,rfl,n1,n2,G,rfl,qa1 (a:=Qz false a.Ca n wr f) rfl (qa1 (a:=[D.hole u,b,Ae n wr f,kL S,.u,.u,.u,.u,.u,.u,.u,.u]) rfl ?_)⟩))))))))) ?_;{rw[qP4];refine qd2 (qu4 (x:=Ae n wr f) (y:=kL S) rfl rfl rfl ⟨n,wr,f,false,S,rfl,n1,n2,G.nd,nd,⋯,λ⟨q,c⟩=>absurd c (nc q),λ_ g Kg=>qa1 (a:=[D.hole u,b,Ae n wr f,kL S,.u,.u,.u,.u,.u,.u,.u,.u]) rfl (qb6 ⟨n,wr,f,_,g,S,rfl,n1,n2,hk,Kg,.inr ⟨false,rfl⟩,rfl,?_⟩)⟩);exact qa1 (a:=rA a n wr f g []) rfl (qa1 (a:=[D.hole u,b,Ae n wr f,kL S,.u,.u,.u,.u,.u,.u,.u,.u]) rfl (N _ ⟨g,rfl,Kg⟩))};rintro t ⟨g,rfl,Kg⟩;refine qc1 (λt=>∃b g o J,t=[D.hole u,b,Ae n wr f,kL S,rA a n wr f g o,J,.u,.u,.u,.u,.u,.u]/\Re U b/\Kept n.toNat wr (Q0 n f) g S/\okD o/\o.length<=200) (λK N=>?_) ?_
 .refine⟨rfl,qc5 (ds:=[D.hole u,b,Ae n wr f,kL S,rA a n wr f g [],.u,.u,.u,.u,.u,.u,.u]) (m:=3) rfl B rfl ∅ ∅ λv b v0 v1 B=>qa1 (a:=v) rfl (qa1 (qbe2 (z:=false) v0) (qa1 (a:=Q3 (S.take v.toNat)) rfl ⟨qe8 _,?_⟩))⟩;have hv:(Q3 (S.take v.toNat)).length<=66:=by rw[qh3,zBp];lia
  refine qf3 (λi t=>∃g o J,t=[D.hole u,b,Ae n wr f,kL S,rA a n wr f g o,J,.u,.u,.u,.u,.u,.u]/\Kept n.toNat wr (Q0 n f) g S/\okD o/\o.length=2*i) _ 0 _ ⟨g,[],_,rfl,Kg,nofun,rfl⟩ ?_ ?_;{rintro j y hy t ⟨g,o,J,rfl,Kg,od,ld⟩ K2 a4;have hj:=(zA4.mp hy).1;obtain⟨k,a5,rfl⟩:=zB8.mp (zB2 hy);have a5:=(zBn _ S).subset a5;refine qk4 ?_;refine qc1 (λt=>∃Y,t=[D.hole u,b,Ae n wr f,kL S,rA a n wr f Y (o++[.q [.str "take",.int k]]),.int k,.u,.u,.u,.u,.u,.u]/\Kept n.toNat wr (Q0 n f) Y (S.filter λx=>decide (x≠k))) (λK N=>qi6 (qt3 (p:=rA a n wr f g o) rfl (qc7 rfl) (qc4 (x:=.int k) rfl (qb6 (qa1 (a:=D.int k) rfl (qa1 (a:=rA a n wr f g o) rfl ⟨n,wr,f,g,o,S,k,rfl,n1,n2,hk,Kg,a5,⋯,λr came Y K'=>qa1 (a:=[D.hole u,b,Ae n wr f,kL S,rA a n wr f Y (o++[.q [.str "take",.int k]]),.int k,.u,.u,.u,.u,.u,.u]) rfl (N _ ⟨Y,rfl,K'⟩)⟩)))))) ?_;rintro t ⟨Y,rfl,K'⟩;have pm:((S.filter λx=>decide (x≠k))++[k]).Perm S:=qab3 nd a5;refine qi6 (qt3 (p:=rA a n wr f Y (o++[.q [.str "take",.int k]])) rfl (qc7 rfl) (qc4 (x:=.int k) rfl (qb6 (qa1 (a:=D.int k) rfl (qa1 (a:=rA a n wr f Y (o++[.q [.str "take",.int k]])) rfl ⟨n,wr,f,Y,_,_,k,rfl,n1,n2,hk k a5,λx Z=>hk x (zAt.mp Z).1,K',λh=>zAh (zAt.mp h).2 rfl,λq c=>Kg.no_crowd q (c.perm pm),by rw[zAb];show o.length+1<=1000;lia,λcame g3 K3=>?_⟩)))));refine qa1 (a:=[D.hole u,b,Ae n wr f,kL S,rA a n wr f g3 ((o++[.q [.str "take",.int k]])++[.q [.str "put",.int k]]),.int k,.u,.u,.u,.u,.u,.u]) rfl (a4 _ ⟨g3,_,_,rfl,K3.of_perm pm,(od.app _ _).app _ _,?_⟩);rw[zAb,zAb];show o.length+1+1=_;lia};rintro t ⟨g,o,J,rfl,Kg,od,ld⟩;exact N _ ⟨b,g,o,J,rfl,B,Kg,od,⋯⟩
 rintro t ⟨b,g,o,J,rfl,B,Kg,od,ld⟩;refine qb1 (qs4 u n wr f a g o b (kL S) J .u .u .u .u .u) (λK N=>qe0 (qm5 (p:=rA a n wr f g o) (d:=.l false o) rfl (qc7 rfl) ⟨false,n,wr,f,g,o,rfl,od.imms,rfl⟩ rfl N)) ?_;refine qc1 (λt=>∃b W O,t=(qs4 u n wr f a g o b (kL S) J W O .u .u .u)/\Re U b) (λK N=>qZ2 (n:=4) rfl rfl ?_) ?_;{refine qf3 (λi t=>∃b W O,t=(qs4 u n wr f a g o b (kL S) J W O .u .u .u)/\Re U b) _ 0 _ ⟨b,_,_,rfl,B⟩ ?_ ?_;{rintro j y hy t ⟨b,W,O,rfl,B⟩ K2 a4;obtain⟨hj,rfl⟩:=Lj hy;refine qk4 ?_;refine qc1 (λt=>∃b s,t=(qs4 u n wr f a g o b (kL S) J (.int (j:Nat)) (.int s) .u .u .u)/\Re U b/\1<=s) (λK N=>qe0 (Mx (qr7 (qd2 (qy0 (x:=.int 1) rfl ?_))))) ?_;{refine qc5 (ds:=[D.hole u,b,Ae n wr f,kL S,rA a n wr f g o,J,.l false o,.int (j:Nat),O,.u,.u,.u]) rfl B rfl ∅ ∅ λx1 b a0 a1 B=>qa1 (a:=D.int (1+x1)) rfl (qd2 (Kt (qc8 (y:=.int 1) rfl (qd2 (qy0 (x:=.int ((S.length:Nat)-1)) (Ah (x:=.int (S.length:Nat)) (y:=.int 1) (by rw[qD3 (z:=false) (ys:=Q3 S) rfl,qh3]) rfl rfl) ?_)))));refine qc5 (ds:=[D.hole u,b,Ae n wr f,kL S,rA a n wr f g o,J,.l false o,.int (j:Nat),O,.u,.u,.u]) rfl B rfl ∅ ∅ λx2 b b0 b1 B=>qa1 (a:=D.int ((S.length:Nat)-1+x2)) rfl (qb6 (qa1 (a:=D.int (if ((S.length:Nat):Int)-1+x2>1 then ((S.length:Nat):Int)-1+x2 else 1)) rfl (qe1 (y:=.int n) rfl rfl (qc8 (y:=.int 64) rfl (qb6 ⟨lt4,?_⟩)))));refine qc5 (ds:=[D.hole u,b,Ae n wr f,kL S,rA a n wr f g o,J,.l false o,.int (j:Nat),O,.u,.u,.u]) rfl B rfl ∅ ∅ λi b i0 i1 B=>?_;obtain⟨s,es,s1⟩:=qP5 (P:=λv=>1<=v) i0 i1 (x:=1+x1) (y:=if ((S.length:Nat):Int)-1+x2>1 then ((S.length:Nat):Int)-1+x2 else 1) (z:=n) (w:=64) ⋯ (by split<;>lia) n1 ∅;exact qa1 (a:=D.int s) es (N _ ⟨b,s,rfl,B,s1⟩)};rintro t ⟨b,s,rfl,B,s1⟩;refine qau5 (qax9 (qR1 (qg3 (qc4 (x:=rA a n wr f g o) rfl (qc4 (x:=Ae n wr f) rfl (qc4 (x:=kL S) rfl (qc8 (y:=.int (if s<64 then s else 64)) rfl (qb6 (qa1 (a:=D.l false (Q3 S)) rfl (qa1 (a:=Ae n wr f) rfl (qa1 (a:=rA a n wr f g o) rfl ⟨n,wr,f,g,o,false,S,_,rfl,n1,n2,by split<;>lia,by split<;>lia,G,hk,Kg,qa1 (a:=(qs4 u n wr f a g o b (kL S) J (.int (j:Nat)) (.int s) .u .u .u)) rfl (qa1 (a:=true) rfl (Il ∅ ?_))⟩)))))))))));refine qR1 (qu4 (x:=b) (y:=rA a n wr f g o) (qe7 rfl B.known) rfl (qe7 rfl B.known) ⟨b,U,false,n,wr,f,g,o,S,rfl,B,n2,G,hk,Kg,λb B=>qa1 (a:=(qs4 u n wr f a g o b (kL S) J (.int (j:Nat)) (.int s) .u .u .u)) rfl (qa1 (a:=true) rfl (a4 _ ⟨b,_,_,rfl,B⟩))⟩)};rintro t ⟨b,W,O,rfl,B⟩;exact N _ ⟨b,W,O,rfl,B⟩};rintro t ⟨b,W,O,rfl,B⟩;refine qj2 false (λQ q=>qq8 (qm5 (p:=rA a n wr f g o) (d:=.l false o) rfl (qc7 rfl) ⟨false,n,wr,f,g,o,rfl,od.imms,rfl⟩ rfl (qa1 (a:=D.bl false) od.ne (qa1 (a:=false) rfl q)))) nofun λ_=>?_
 refine qc1 (λt=>∃TL,t=(qs4 u n wr f a g o b (kL S) J W O (.l false TL) .u .u)/\TL.length=1/\∀d∈TL,∃m g,d=Au true a.Cb a.Ca m wr f g []) (λK N=>qe0 (qr7 (qd2 (Gn (qg3 (qc4 (x:=rA a n wr f g o) rfl (qe1 (y:=.int n) rfl rfl (qb6 (qa1 (a:=rA a n wr f g o) rfl ⟨_,_,rfl,.inr ⟨false,n,wr,f,g,o,S,rfl,n2,G,hk,Kg,⟨_,rfl⟩,(λh=>by rw[qn9 n1 n2] at h;cases h),λm e _ _=>⟨λr c=>?_,λ_ g1 K1=>?_⟩⟩⟩))))))))) ?_;{cases e;exact absurd c (nc r)};{cases e;refine qa1 (a:=(qs4 u n wr f a g o b (kL S) J W O .u .u .u)) rfl (qb6 ⟨by show 1<=1000000;decide,N _ ⟨_,rfl,rfl,λd hd=>?_⟩⟩);rw[zAd.mp hd,qaV2];exact⟨_,_,rfl⟩};rintro t ⟨TL,rfl,lT,hT⟩;refine qc1 (λt=>∃TL,t=(qs4 u n wr f a g o b (kL S) J W O (.l false TL) .u .u)/\okT a.Cb a.Ca wr f TL) (λK N=>?_) ?_;{refine qau5 (qq8 (qg3 (qc8 (y:=Ae 64 wr f) rfl (qc4 (x:=kL S) rfl (qb6 (qa1 (a:=D.l false (Q3 S)) rfl ⟨64,wr,f,false,S,rfl,∅,∅,G.nd,nd,⋯,λ_=>?_,λb6 g2 K2=>?_⟩))))));{exact qa1 (a:=(qs4 u n wr f a g o b (kL S) J W O (.l false TL) .u .u)) rfl (qa1 (a:=D.bl false) rfl (qa1 (a:=false) rfl (N _ ⟨TL,rfl,⋯,hT⟩)))};refine qa1 (a:=(qs4 u n wr f a g o b (kL S) J W O (.l false TL) .u .u)) rfl (qa1 (a:=D.bl true) rfl (qa1 (a:=true) rfl (By rfl ?_)));refine qi6 ⟨rfl,qd2 (Gn (qg3 (qc4 (x:=rA a n wr f g o) rfl (qc8 (y:=.int 64) rfl (qb6 (qa1 (a:=rA a n wr f g o) rfl ⟨_,_,rfl,.inr ⟨false,n,wr,f,g,o,S,rfl,n2,G,hk,Kg,⟨_,rfl⟩,nofun,λm e _ _=>⟨λr c=>?_,λ_ g1 K1=>?_⟩⟩⟩))))))⟩;{cases e;exact absurd c (b6 r)};cases e;refine qa1 (a:=(qs4 u n wr f a g o b (kL S) J W O (.l false TL) .u .u)) rfl (qb6 (qa1 (a:=TL) rfl (qa1 (a:=(TL++[Au true a.Cb a.Ca 64 wr f g1 []],D.non)) ?_ (N _ ⟨_,rfl,by rw[zAb,lT];exact zA3 2,λd hd=>?_⟩))));{rw[qaV2];exact if_pos (show TL.length<big by rw[lT];decide)};rcases zAf.mp hd with h|h;{exact hT d h};exact⟨64,g1,zAd.mp h⟩};rintro t ⟨TL,rfl,oT⟩;refine qb1 (qs4 u n wr f a g o b (kL S) J W O (.l false TL) (.l false (TL.filterMap (D.fld a.Cb "held"))) .u) (λK N=>qe0 (qa1 (a:=D.l false TL) rfl (qa1 (a:=TL) rfl ⟨okT.imms oT.2,?_⟩))) ?_;{refine qi7 (λι=>∃d,ι=[d]) (D.fld a.Cb "held") _ [] _ (by show 0+TL.length<1000000;have:=oT.1;lia) ⟨_,rfl⟩ ?_ ?_;{rintro y hy ι a7 ⟨d,rfl⟩ R hR a3;obtain⟨m,g,rfl⟩:=oT.2 y hy;have this:=hR [Au true a.Cb a.Ca m wr f g []] ⟨_,rfl⟩;rw[qj0] at this;refine qk4 (Mt (By rfl (Gn (qm5 (p:=Au true a.Cb a.Ca m wr f g []) (d:=.l false (Q4 m.toNat g)) rfl (qc7 rfl) ⟨true,m,wr,f,g,[],rfl,rfl⟩ rfl ?_))));rw[fz_rl];exact⟨a3,this⟩};rintro ι ⟨d,rfl⟩;rw[zB4];exact N};refine qc1 (λt=>∃b ud,t=(qs4 u n wr f a g o b (kL S) J W O (.l false TL) (.l false (TL.filterMap (D.fld a.Cb "held"))) (.int ud))/\Re U b) (λK N=>qe0 (qc5 rfl B rfl ∅ ∅ λv b' v0 v1 B'=>N _ ⟨b',v,rfl,B'⟩)) ?_;rintro t ⟨b,ud,rfl,B⟩;refine qc1 (λt=>∃b g1 I S1 J,t=[D.hole u,b,Ae n wr f,kL S1,rA a n wr f g1 I,J,.l false o,W,O,.l false TL,.l false (TL.filterMap (D.fld a.Cb "held")),.int ud]) (λK N=>qn5 (d:=kL (S.take 3)) ?_ (qa1 (a:=Q3 (S.take 3)) rfl ⟨qe8 _,?_⟩)) ?_;{exact qaK0 (qaR8 (i:=3) (z:=false)) (Jo (z:=false) (m:=3))}
 .refine qf3 (λi t=>∃b g1 I S1 J,t=[D.hole u,b,Ae n wr f,kL S1,rA a n wr f g1 I,J,.l false o,W,O,.l false TL,.l false (TL.filterMap (D.fld a.Cb "held")),.int ud]/\Re U b/\Kept n.toNat wr (Q0 n f) g1 S1/\(∀x∈S1,x∈S)/\(∀x∈(S.take 3).drop i,x∈S1)/\I.length<=200+i) _ 0 _ ⟨b,g,o,S,_,rfl,B,Kg,λ_ h=>h,λx Z=>(zBn 3 S).subset Z,ld⟩ ?_ ?_
  .rintro j y hy t ⟨b,g1,I,S1,J,rfl,B,K1,s1,s2,l1⟩ K2 a4;rw[zAl] at s2 a4 l1;have e3:(S.take 3).length<=3:=by rw[zBp];lia
   obtain⟨hj,e0⟩:=zA4.mp hy;rw[qh3] at hj;obtain⟨k,ek,b7⟩:∃k,y=.int k/\(S.take 3)[j]?=some k:=by unfold Q3 at hy;rw[zB9] at hy;obtain⟨k,h1,h2⟩:=zA8.mp hy;exact⟨k,h2.symm,h1⟩
   subst ek;have a8:(S.take 3).drop j=k::(S.take 3).drop (j+1):=by rw[zC6 hj,(zA4.mp b7).2]
   have km:k∈S1:=s2 k (by rw[a8];exact zA7);have b8:(k::(S.take 3).drop (j+1)).Nodup:=a8 ▸ (nd.sublist ((List.drop_sublist j _).trans (zBn 3 S)));have a9:∀x∈S1,Am x:=λx Z=>hk x (s1 x Z);have b4:=K1.h.1;have len1:=K1.len;refine qk4 ?_;refine qc1 (λt=>∃Y,t=[D.hole u,b,Ae n wr f,kL S1,rA a n wr f Y (I++[.q [.str "take",.int k]]),.int k,.l false o,W,O,.l false TL,.l false (TL.filterMap (D.fld a.Cb "held")),.int ud]/\Kept n.toNat wr (Q0 n f) Y (S1.filter λx=>decide (x≠k))) (λK N=>qi6 (qt3 (p:=rA a n wr f g1 I) rfl (qc7 rfl) (qc4 (x:=.int k) rfl (qb6 (qa1 (a:=D.int k) rfl (qa1 (a:=rA a n wr f g1 I) rfl ⟨n,wr,f,g1,I,S1,k,rfl,n1,n2,a9,K1,km,⋯,λr came Y K'=>qa1 (a:=[D.hole u,b,Ae n wr f,kL S1,rA a n wr f Y (I++[.q [.str "take",.int k]]),.int k,.l false o,W,O,.l false TL,.l false (TL.filterMap (D.fld a.Cb "held")),.int ud]) rfl (N _ ⟨Y,rfl,K'⟩)⟩)))))) ?_;rintro t ⟨Y,rfl,K'⟩;have b5:∀x∈S1.filter λx=>decide (x≠k),Am x:=λx Z=>a9 x (zAt.mp Z).1;refine Gx (λQ xe q=>qg3 (qc4 (x:=rA a n wr f Y (I++[.q [.str "take",.int k]])) rfl (qc4 (x:=Ae n wr f) rfl (qd2 (qa1 (a:=D.l false (Q3 S1)) rfl (qa1 (a:=Q3 S1) rfl ⟨qe8 _,?_⟩)))))) ?_;{refine qi7 (λι=>∃d,ι=[d,.int k]) (Gb λx=>decide (x≠k)) _ [] _ (by show 0+_<1000000;rw[qh3];lia) ⟨_,rfl⟩ ?_ ?_;{rintro y hy ι a7 ⟨d,rfl⟩ R hR a3;obtain⟨x,_,rfl⟩:=zB8.mp hy;have this:=hR [.int x,.int k] ⟨_,rfl⟩;refine qk4 (qm6 (b:=decide (x≠k)) (Ah rfl rfl ?_) (ite_b (λh=>?_) λh=>?_));{show some (D.bl (!(x==k)))=_;by_cases e:x=k;{subst e;rw[zB1,zAz (λh=>h rfl)];rfl};rw[beq_false_of_ne e,zAi e];rfl};{rw[qO4 (by exact h)] at this;exact qt8 (d:=.int x) rfl rfl ⟨a3,this⟩};rw[qO5 (by exact h)] at this;have this:R (a7++[]) _:=this;rw[zAa] at this;exact this};rintro ι ⟨d,rfl⟩;rw[qx1,zB4];exact qe1 (y:=.int n) rfl rfl (qb6 (qa1 (a:=Ae n wr f) rfl (qa1 (a:=rA a n wr f Y (I++[.q [.str "take",.int k]])) rfl ⟨n,wr,f,Y,_,false,_,n,rfl,n1,n2,n1,n2,G,b5,K',qa1 (a:=[D.hole u,b,Ae n wr f,kL S1,rA a n wr f Y (I++[.q [.str "take",.int k]]),.int k,.l false o,W,O,.l false TL,.l false (TL.filterMap (D.fld a.Cb "held")),.int ud]) rfl q⟩)))};refine qc1 (λt=>∃g2 a2 S2 J,t=[D.hole u,b,Ae n wr f,kL S2,rA a n wr f g2 a2,J,.l false o,W,O,.l false TL,.l false (TL.filterMap (D.fld a.Cb "held")),.int ud]/\Kept n.toNat wr (Q0 n f) g2 S2/\(∀x∈S2,x∈S)/\(∀x∈(S.take 3).drop (j+1),x∈S2)/\a2.length<=200+(j+1)) (λK N=>?_) ?_
   .have pm:((S1.filter λx=>decide (x≠k))++[k]).Perm S1:=qab3 b4 km;have b2:∀x∈(S.take 3).drop (j+1),x∈S1/\x≠k:=λx Z=>⟨s2 x (by rw[a8];exact zA6 _ Z),λe=>(zC0.mp b8).1 (e ▸ Z)⟩;by_cases hu:ud=1
    .refine if_v (b:=true) (by subst hu;rfl) (λ_=>qi6 (qt3 (p:=rA a n wr f Y (I++[.q [.str "take",.int k]])) rfl (qc7 rfl) (qb6 (qa1 (a:=rA a n wr f Y (I++[.q [.str "take",.int k]])) rfl ⟨n,wr,f,Y,_,_,rfl,n1,n2,b5,K',.inr ⟨I,k,a9 k km,.inr ⟨rfl,λh=>zAh (zAt.mp h).2 rfl,λq c=>K1.no_crowd q (c.perm pm),λg3 K3=>?_⟩⟩⟩)))) nofun
     exact qa1 (a:=[D.hole u,b,Ae n wr f,kL S1,rA a n wr f g3 I,.int k,.l false o,W,O,.l false TL,.l false (TL.filterMap (D.fld a.Cb "held")),.int ud]) rfl (N _ ⟨g3,I,S1,_,rfl,K3.of_perm pm,s1,λx Z=>(b2 x Z).1,⋯⟩)
    refine if_v (b:=false) (show some (D.bl (ud==1))=_ by rw[beq_false_of_ne hu]) nofun λ_=>qi6 (qaY9 (S:=S1) (k:=k) rfl rfl ∅ km ?_)
    have ee:S1.erase k=S1.filter λx=>decide (x≠k):=by rw[b4.erase_eq_filter];refine Oh λx _=>?_;by_cases h:x=k<;>simp[h]
    exact N _ ⟨Y,(I++[.q [.str "take",.int k]]),S1.erase k,_,rfl,ee ▸ K',λx Z=>s1 x (List.mem_of_mem_erase Z),λx Z=>(List.mem_erase_of_ne (b2 x Z).2).mpr (b2 x Z).1,by rw[zAb];show I.length+1<=_;lia⟩
   rintro t ⟨g2,a2,S2,J,rfl,K3,s3,s4,l3⟩;have b9:∀x∈S2,Am x:=λx Z=>hk x (s3 x Z);refine qau5 (qR1 (qg3 (qc4 (x:=rA a n wr f g2 a2) rfl (qc4 (x:=Ae n wr f) rfl (qc4 (x:=kL S2) rfl (qd2 (Mx (qr7 (qd2 (qy0 (x:=.int 1) rfl ?_))))))))));refine qc5 (ds:=[D.hole u,b,Ae n wr f,kL S2,rA a n wr f g2 a2,J,.l false o,W,O,.l false TL,.l false (TL.filterMap (D.fld a.Cb "held")),.int ud]) rfl B rfl ∅ ∅ λx1 b a0 a1 B=>qa1 (a:=D.int (1+x1)) rfl (qe1 (y:=.int n) rfl rfl (qb6 ⟨lt2,?_⟩));refine qc5 (ds:=[D.hole u,b,Ae n wr f,kL S2,rA a n wr f g2 a2,J,.l false o,W,O,.l false TL,.l false (TL.filterMap (D.fld a.Cb "held")),.int ud]) rfl B rfl ∅ ∅ λi b i0 i1 B=>?_;obtain⟨m,em,m1,m2⟩:=two64 i0 i1 a0 a1 n1 n2;refine qa1 (a:=D.int m) em (qb6 (qa1 (a:=D.l false (Q3 S2)) rfl (qa1 (a:=Ae n wr f) rfl (qa1 (a:=rA a n wr f g2 a2) rfl ⟨n,wr,f,g2,a2,false,S2,m,rfl,n1,n2,m1,m2,G,b9,K3,qa1 (a:=[D.hole u,b,Ae n wr f,kL S2,rA a n wr f g2 a2,J,.l false o,W,O,.l false TL,.l false (TL.filterMap (D.fld a.Cb "held")),.int ud]) rfl (qa1 (a:=true) rfl ?_)⟩))));exact a4 _ ⟨b,g2,a2,S2,_,rfl,B,K3,s3,s4,l3⟩
  rintro t ⟨b,g1,I,S1,J,rfl,B,_⟩;exact N _ ⟨b,g1,I,S1,J,rfl⟩
 rintro t ⟨b,g1,I,S1,J,rfl⟩;refine qf5 (qu5 (qa1 (a:=D.l false TL) rfl (qa1 (a:=TL) rfl ⟨okT.imms oT.2,?_⟩)));refine qi7 (λι=>∃d,ι=[d]) (D.fld a.Cb "held") _ [] _ (by show 0+TL.length<1000000;have:=oT.1;lia) ⟨_,rfl⟩ ?_ ?_;{rintro y hy ι a7 ⟨d,rfl⟩ R hR a3;obtain⟨m,g,rfl⟩:=oT.2 y hy;have this:=hR [Au true a.Cb a.Ca m wr f g []] ⟨_,rfl⟩;rw[qj0] at this;refine qk4 (Mt (By rfl (Gn (qm5 (p:=Au true a.Cb a.Ca m wr f g []) (d:=.l false (Q4 m.toNat g)) rfl (qc7 rfl) ⟨true,m,wr,f,g,[],rfl,rfl⟩ rfl ?_))));rw[fz_rl];exact⟨a3,this⟩};rintro ι ⟨d,rfl⟩;rw[zB4];exact qa1 (a:=D.bl true) oT.eq rfl
end
theorem dfX{K:P'}{mg:Str->Option V'}{x qual:Str}{st:Nv}{f:γ}{ps:List Str}{oc:V'}{od g:Option γ}{m:Array (Option V')}{kV e i d j:V'}{h:Heap}(X:K.In h)(G:h.Ns Nf mg)(a:W.nsIn K Nf x=some (some (.ref f)))(l:K.lookup f=some ⟨oc,od,.func (W.fnOf x qual (qg2 st) (qd9 st) (qa4 st) .none kV e i g d j),m⟩)(c:W.codeIn K d qual=true)(k:W.keepIn K (.ref f)=true)(b:∀(kV e i:V')(g:Option γ)(d j:V')(us:List V'),us.length=ps.length->bindArgs (W.fnOf x qual (qg2 st) (qd9 st) (qa4 st) .none kV e i g d j) ⟨us,[]⟩=pure (ps.zip us)):Df K mg x qual st f (W.fnOf x qual (qg2 st) (qd9 st) (qa4 st) .none kV e i g d j) ps:=dfmk l c k (W.mg_of X G a) b
theorem qbg3{l:W.OpenLaw}{w:Nt}{K:P'}{mg:Str->Option V'}{fa f0 f1 f2 f3 f4 f5 f6 f7 f8 f9 f g h i j k n o p q r t u x y z A c B C D E F G H I J L d M N O P Q R S T U V X Y Z a0 a1 h6 C0 C1 C2 C3 C4 C5 C6 C7 C8 C9 C10 C11 C12 C13:γ}{d0 d1 d2 d3 d4 d5 d6 d7 d8 d9 a2 a3 a4 a5 a6 a7 a8 a9 b0 b1 b2 b3 b4 b5 b6 b7 b8 b9 c0 c1 c2 c3 c4 c5 c6 c7 c8 c9 e0 e1 e3 e4 e5 e6 e7 e8 e9 g0 g9 h0 h1 h2 h3 h4 b:ε}{Cu Cv Cw Ct:Tok}(h7:mg "law"=some (.ref fa))(j0:Md K C4 "__init__" "Wrong.__init__" qq6 f0 d0 ["self", "at"])(j1:Md K C5 "__init__" "NoRoom.__init__" qn2 f1 d1 ["self", "room"])(j2:Df K mg "is_whole" "is_whole" qA7 f2 d2 ["thing"])(j3:Df K mg "is_whole_within" "is_whole_within" qh4 f3 d3 ["thing", "least", "most"])(j4:Df K mg "is_number" "is_number" qv8 f4 d4 ["thing"])(j5:Df K mg "are_parted" "are_parted" qq5 f5 d5 ["numbers"])(j6:Df K mg "is_number_pair" "is_number_pair" qi3 f6 d6 ["thing"])(j7:Df K mg "is_home_list" "is_home_list" ql2 f7 d7 ["thing"])(j8:Md K C0 "__init__" "Plan.__init__" qw3 f8 d8 ["self", "rooms", "wraps", "homes"])(j9:Md K C0 "homes_told" "Plan.homes_told" qh5 f9 d9 ["self"])(h8:Md K C0 "is_room" "Plan.is_room" ql4 f a2 ["self", "thing"])(h9:Md K C0 "home" "Plan.home" qw4 g a3 ["self", "key"])(i0:Md K C0 "far" "Plan.far" qB4 h a4 ["self", "key", "room"])(i1:Md K C0 "goes_ahead" "Plan.goes_ahead" qh6 i a5 ["self", "room", "one", "other"])(i2:Df K mg "room_ahead" "room_ahead" qq4 j a6 ["plan", "room"])(i3:Df K mg "word_by_room_ahead" "word_by_room_ahead" qf2 k a7 ["plan", "rooms", "room"])(i4:Df K mg "word_due" "word_due" qA6 n a8 ["plan", "rooms", "room"])(i5:Df K mg "is_turned" "is_turned" qv7 o a9 ["plan", "rooms"])(i6:Df K mg "fault_of" "fault_of" qA8 p b0 ["plan", "rooms"])(i7:Df K mg "are_crowd" "are_crowd" qw1 q b1 ["plan", "keys", "room"])(i8:Df K mg "crowded_room" "crowded_room" ql3 r b2 ["plan", "keys"])(i9:Df K mg "refuse_crowd" "refuse_crowd" ql1 t b3 ["plan", "keys"])(k0:Df K mg "bring_in" "bring_in" qA9 u b4 ["plan", "rooms", "key"])(k1:Df K mg "house_all" "house_all" qv9 x b5 ["plan", "keys"])(k2:Df K mg "room_behind" "room_behind" qn0 y b6 ["plan", "room"])(k3:Df K mg "is_drawn_from" "is_drawn_from" qj4 z b7 ["plan", "rooms", "room"])(k4:Df K mg "draw_back" "draw_back" qw0 A b8 ["plan", "rooms", "room"])(k5:MdN K C1 "__init__" "Row.__init__" qB3 c b9 ["self", "plan", "rooms"])(k6:Md K C1 "rooms_held" "Row.rooms_held" qi4 B c0 ["self"])(k7:Md K C1 "keys_held" "Row.keys_held" qj5 C c1 ["self"])(k8:Md K C1 "many" "Row.many" qB2 D c2 ["self"])(k9:Md K C1 "room_of" "Row.room_of" qn1 E c3 ["self", "key"])(l0:Md K C1 "put" "Row.put" qJ1 F c4 ["self", "key"])(l1:Md K C1 "take" "Row.take" qB1 G c5 ["self", "key"])(l2:Md K C1 "undo" "Row.undo" qB0 H c6 ["self"])(l3:Md K C1 "deeds" "Row.deeds" qw2 I c7 ["self"])(l4:Df K mg "row_of_keys" "row_of_keys" qm9 J c8 ["plan", "keys"])(l5:Df K mg "row_sized" "row_sized" qv6 L c9 ["row", "rooms"])(l6:Md K C2 "__init__" "Growing.__init__" ql6 d e0 ["self", "homes"])(l7:Df K mg "_law_whole" "_law_whole" qT3 M e1 ["_law_found"])(l8:Df K mg "_law_bag" "_law_bag" qaE2 N e3 ["_law_script"])(l9:Df K mg "_law_take" "_law_take" qah9 O e4 ["_law_bag_here", "_law_many"])(m0:Df K mg "_law_home" "_law_home" qai1 P e5 ["_law_plan", "_law_key"])(m1:Df K mg "_law_passing" "_law_passing" qB6 Q e6 ["_law_plan", "_law_keys"])(m2:Df K mg "_law_housed" "_law_housed" qJ3 R e7 ["_law_plan", "_law_keys"])(m3:Df K mg "_law_drawn_homes" "_law_drawn_homes" ql5 S e8 ["_law_bag_here", "_law_size", "_law_many"])(m4:Df K mg "_law_drawn" "_law_drawn" qT5 T e9 ["_law_bag_here", "_law_most"])(m5:Df K mg "_law_fitting" "_law_fitting" qB7 U g0 ["_law_plan", "_law_keys"])(m6:Df K mg "_law_sort" "_law_sort" qai0 V g9 ["_law_e"])(m7:Df K mg "_law_crowd" "_law_crowd" qT6 X h0 ["_law_plan", "_law_keys", "_law_room"])(m8:Df K mg "_law_told" "_law_told" qah8 Y h1 ["_law_row", "_law_size"])(m9:Df K mg "_law_is_row" "_law_is_row" qJ2 Z h2 ["_law_row", "_law_plan", "_law_due"])(n0:Df K mg "_law_right" "_law_right" qT4 a0 h3 ["_law_row", "_law_plan", "_law_keys", "_law_size"])(n1:Df K mg "_law_refused" "_law_refused" qB5 a1 h4 ["_law_bag_here", "_law_row"])(h5:Df K mg "law" "law" Jm h6 b ["_law_script"])(n2:mg "MOST_NUMBER"=some (.int 1000000000000000000 Cu))(n3:mg "MOST_ROOMS"=some (.int 64 Cv))(n4:mg "MOST_HOMES"=some (.int 64 Cw))(n5:mg "LEAST_ROOMS"=some (.int 4 Ct))(n6:mg "ValueError"=none)(n7:mg "abs"=none)(n8:mg "all"=none)(n9:mg "bool"=none)(o0:mg "dict"=none)(o1:mg "enumerate"=none)(o2:mg "int"=none)(o3:mg "isinstance"=none)(o4:mg "len"=none)(o5:mg "list"=none)(o6:mg "max"=none)(o7:mg "min"=none)(o8:mg "range"=none)(o9:mg "set"=none)(p0:mg "sorted"=none)(p2:mg "tuple"=none)(p3:Cl K mg "Plan" C0)(p4:Mk K C0 f8)(p5:qd1 K C0 "rooms")(p6:qd1 K C0 "wraps")(p7:qd1 K C0 "homes")(p8:qd1 K C0 "home_numbers")(p9:IsO K C0)(q0:Cl K mg "Row" C1)(q1:Mk K C1 c)(q3:qd1 K C1 "plan")(q4:qd1 K C1 "held")(q5:qd1 K C1 "done")(q6:IsO K C1)(q7:Cl K mg "Growing" C2)(q8:Mk K C2 d)(q9:qd1 K C2 "row")(r0:qd1 K C2 "housed_anew")(r1:IsO K C2)(r2:Qa K (.ref C2) (.ref C1)=some false)(r3:Qa K (.ref C0) (.ref C1)=some false)(r4:mg "HomeError"=some (.ref C3))(r5:Exc K C3)(r6:mg "Wrong"=some (.ref C4))(r7:Exc K C4)(r8:Qa K (.ref C4) (.type "ValueError")=some true)(j100:MkE K C4 f0)(j101:qd1 K C4 "at")(j102:IsX K C4)(j103:Qa K (.ref C4) (.ref C5)=some false)(j104:Qa K (.ref C4) (.ref C6)=some false)(j105:Qa K (.ref C4) (.ref C7)=some false)(j106:Qa K (.ref C4) (.ref C8)=some false)(j107:Qa K (.ref C4) (.ref C9)=some false)(j108:Qa K (.ref C4) (.ref C10)=some false)(j109:Qa K (.ref C4) (.ref C11)=some false)(j110:Qa K (.ref C4) (.ref C12)=some false)(j111:Qa K (.ref C4) (.ref C13)=some false)(j112:W.mroIn K C4 (.ref C3)=some true)(j113:W.mroIn K C4 (.ref C4)=some true)(j114:W.mroIn K C4 (.ref C5)=some false)(j115:mg "NoRoom"=some (.ref C5))(j116:Exc K C5)(j117:Qa K (.ref C5) (.type "ValueError")=some true)(j118:MkE K C5 f1)(j119:qd1 K C5 "room")(j120:IsX K C5)(j121:Qa K (.ref C5) (.ref C4)=some false)(j122:Qa K (.ref C5) (.ref C6)=some false)(j123:Qa K (.ref C5) (.ref C7)=some false)(j124:Qa K (.ref C5) (.ref C8)=some false)(j125:Qa K (.ref C5) (.ref C9)=some false)(j126:Qa K (.ref C5) (.ref C10)=some false)(j127:Qa K (.ref C5) (.ref C11)=some false)(j128:Qa K (.ref C5) (.ref C12)=some false)(j129:Qa K (.ref C5) (.ref C13)=some false)(j130:W.mroIn K C5 (.ref C3)=some true)(j131:W.mroIn K C5 (.ref C4)=some false)(j132:W.mroIn K C5 (.ref C5)=some true)(j133:mg "There"=some (.ref C6))(j134:mg "NotThere"=some (.ref C7))(j135:mg "Unkept"=some (.ref C8))(j136:mg "Unlike"=some (.ref C9))(j137:mg "NoText"=some (.ref C10))(j138:mg "NoRow"=some (.ref C11))(j139:mg "NoPlan"=some (.ref C12))(j140:mg "TooMany"=some (.ref C13))(hb:∀(s:δ)(v:V'),BindsTo s b ⟨[v],[]⟩ [("_law_script",v)]):∃fd:ε,(∀(s:δ)(v:V'),BindsTo s fd ⟨[v],[]⟩ [("_law_script",v)])/\∀base:Heap,K.In base->base.Ns Nf mg->Fx l.prog w K mg base (CX1 l.prog w) 18 fa fd ["_law_script"] (Ka K):=by have e:=h7.symm.trans h5.m;injection e with e;injection e with e;subst e;exact⟨b,hb,λbase _ _=>qbb7 (a:=⟨f0,d0,f1,d1,f2,d2,f3,d3,f4,d4,f5,d5,f6,d6,f7,d7,f8,d8,f9,d9,f,a2,g,a3,h,a4,i,a5,j,a6,k,a7,n,a8,o,a9,p,b0,q,b1,r,b2,t,b3,u,b4,x,b5,y,b6,z,b7,A,b8,c,b9,B,c0,C,c1,D,c2,E,c3,F,c4,G,c5,H,c6,I,c7,J,c8,L,c9,d,e0,M,e1,N,e3,O,e4,P,e5,Q,e6,R,e7,S,e8,T,e9,U,g0,V,g9,X,h0,Y,h1,Z,h2,a0,h3,a1,h4,fa,b,Cu,Cv,Cw,Ct,C0,C1,C2,C3,C4,C5,C6,C7,C8,C9,C10,C11,C12,C13⟩) ⟨j0,j1,j2,j3,j4,j5,j6,j7,j8,j9,h8,h9,i0,i1,i2,i3,i4,i5,i6,i7,i8,i9,k0,k1,k2,k3,k4,k5,k6,k7,k8,k9,l0,l1,l2,l3,l4,l5,l6,l7,l8,l9,m0,m1,m2,m3,m4,m5,m6,m7,m8,m9,n0,n1,h5,n2,n3,n4,n5,n6,n7,n8,n9,o0,o1,o2,o3,o4,o5,o6,o7,o8,o9,p0,p2,p3,p4,p5,p6,p7,p8,p9,q0,q1,q3,q4,q5,q6,q7,q8,q9,r0,r1,r2,r3,r4,r5,r6,r7,r8,j100,j101,j102,j103,j104,j105,j106,j107,j108,j109,j110,j111,j112,j113,j114,j115,j116,j117,j118,j119,j120,j121,j122,j123,j124,j125,j126,j127,j128,j129,j130,j131,j132,j133,j134,j135,j136,j137,j138,j139,j140⟩⟩
theorem walk{l:W.OpenLaw}{d:DefRec}{K:Params->P'}(c:l.most=some 63)(b:d.params.defaults=[])(e:∀(w:Nt)(h:Heap),YP w h->(K w.params).In h)(F:∀(w:Nt)(mg:Str->Option V')(fa:γ)(h:Heap),(K w.params).In h->h.Ns Nf mg->mg d.name=some (.ref fa)->∃fd:ε,(∀(s:δ)(u:V'),BindsTo s fd ⟨[u],[]⟩ [("_law_script",u)])/\∀base:Heap,(K w.params).In base->base.Ns Nf mg->Fx l.prog w (K w.params) mg base (CX1 l.prog w) 18 fa fd ["_law_script"] (Ka (K w.params))):W.WalkO q loose XP YP l.row.toRowW d [] (λf vs=>PySem.call f vs):=L2.qaL9 (n:=63) (k:=18) (x := "_law_script") (CX:=λw=>CX1 l.prog w) (sp:=λw=>Ka (K w.params)) c ∅ b ⟨λ_=>rfl,∅,∅⟩ e F (λ_ _ a g i _ j=>⟨a,g,rfl,j,i,λ_=>rfl⟩) λ_ _ _ _ _ ⟨_,_,_,_,_,_,_,_,z⟩=>z
end LV.My
open PySem PySem.W PyProof.Rows L2
local macro_rules | `(tactic| walk_at "u")=>`(tactic| (intro _ _ _ _ _ _;repeat' first|exact LV.ec0 (rfl)|refine LV.ec1 λ_=>?_))
local macro_rules | `(tactic| walk_at "d")=>`(tactic| (refine' LV.My.dfX (by assumption) (by assumption) ?a ?l ?c ?k ?b;(case a|l|c|k=>k_is);(case b=>walk_at "u")))
local macro_rules | `(tactic| walk_at "e")=>`(tactic| (refine' mdmk ?l ?c ?k ?a ?i ?b;(case a|i|l|c|k=>k_is);(case b=>walk_at "u")))
local macro_rules | `(tactic| walk_at "c")=>`(tactic| (refine' mg_of (by assumption) (by assumption) ?a;k_is))
local macro_rules | `(tactic| walk_at "z")=>`(tactic| (refine' mg_none_of (by assumption) (by assumption) ?a;k_is))
local macro_rules | `(tactic| walk_at "q")=>`(tactic| (first|k_is|kernel_rfl|rfl))
local macro_rules | `(tactic| walk_at "n")=>`(tactic| (show findIn _ _ _=some none;k_is))
local macro_rules | `(tactic| walk_at "x9")=>`(tactic| (refine⟨?_,?_,?_,?_,?_,?_,?_,?_,?_⟩<;>walk_at "q"))
local macro_rules | `(tactic| walk_at "ix")=>`(tactic| (refine⟨⟨?_,?_,?_,?_,?_,?_,?_,?_,?_⟩,?_,?_,?_⟩<;>walk_at "q"))
local macro_rules | `(tactic| walk_at "me")=>`(tactic| (refine⟨⟨?_,?_,?_,?_,?_,?_,?_,?_,?_⟩,?_,?_,?_,?_⟩<;>walk_at "q"))
theorem PySem.Challenge.cw_homeward_k64_sized_holds : PySem.Challenge.rw_homeward_k64_sized.Holds := by
 w_on;o_law;k_head;(case hw=>w_witness2)
 k_fill
 refine LV.My.walk (l:=PySem.Challenge.rw_homeward_k64_sized) rfl rfl (λw h Y=>PySem.W.kIn_of Y) ?F
 case F=>
 intro w g j h KX G f;refine' LV.My.qbg3 f ?j0 ?j1 ?j2 ?j3 ?j4 ?j5 ?j6 ?j7 ?j8 ?j9 ?A0 ?A1 ?A2 ?A3 ?A4 ?A5 ?A6 ?A7 ?A8 ?A9 ?B0 ?B1 ?B2 ?B3 ?B4 ?B5 ?B6 ?B7 ?B8 ?B9 ?C0 ?C1 ?C2 ?C3 ?C4 ?C5 ?C6 ?C7 ?C8 ?C9 ?D0 ?D1 ?D2 ?D3 ?D4 ?D5 ?D6 ?D7 ?D8 ?D9 ?E0 ?E1 ?E2 ?E3 ?E4 ?E5 ?E6 ?E7 ?E8 ?E9 ?F0 ?F1 ?F2 ?F3 ?F4 ?F5 ?F6 ?F7 ?F8 ?F9 ?G0 ?G1 ?G2 ?G3 ?G4 ?G5 ?G6 ?G7 ?G8 ?G9 ?H0 ?H1 ?H2 ?H3 ?H4 ?H5 ?H6 ?H7 ?H8 ?H9 ?I0 ?I1 ?I2 ?I3 ?I4 ?I5 ?I6 ?I7 ?I8 ?I9 ?J0 ?J1 ?J2 ?J3 ?J4 ?J5 ?J6 ?J7 ?J8 ?J9 ?K0 ?K1 ?K2 ?K3 ?K4 ?K5 ?K6 ?K7 ?K8 ?K9 ?L0 ?L1 ?L2 ?L3 ?L4 ?L5 ?L6 ?L7 ?L8 ?L9 ?M0 ?M1 ?M2 ?M3 ?M4 ?M5 ?M6 ?M7 ?M8 ?M9 ?N0 ?hb
 case E5|E6|E7|E8|I5|I7|K5|M3|M4|M5|M6|M7|M8|M9|N0=>walk_at "c"
 case G5|H2|H8=>refine' ⟨⟨?_,?_,?_,?_⟩,mg_of (by assumption) (by assumption) ?a⟩;(case a=>k_is);k_is;k_is;k_is;k_is
 case j0|j1|j8|j9|A0|A1|A2|A3|B8|B9|C0|C1|C2|C3|C4|C5|C8=>walk_at "e"
 case j2|j3|j4|j5|j6|j7|A4|A5|A6|A7|A8|A9|B0|B1|B2|B3|B4|B5|B6|C6|C7|C9|D0|D1|D2|D3|D4|D5|D6|D7|D8|D9|E0|E1|E2|E3|E4=>walk_at "d"
 case B7=>refine' LV.mdmkN ?l ?c ?k ?a ?i ?t ?b ?bn;(case a|i|l|c|k|t=>k_is);(case b=>intro _ _ _ _ _ _;repeat' first|exact LV.ec0 (⟨_,rfl,rfl⟩)|refine LV.ec1 λ_=>?_);(case bn=>intro _ _ _ _ _ _;refine LV.ec2 ?_;repeat' first|exact LV.ec0 (⟨_,rfl,rfl⟩)|refine LV.ec1 λ_=>?_)
 case E9|F0|F1|F2|F3|F4|F5|F6|F7|F8|F9|G0|G1|G2|G3|G4=>walk_at "z"
 case G7|G8|G9|H0|H4|H5|H6|I0|I1|J1|K9=>walk_at "n"
 case H1|H7|I2=>refine⟨?_,?_,?_,?_,kf_of ?_ ?_ ?_ ?_ ?_ ?_ ?_⟩<;>walk_at "q"
 case I3|I4|I9|J3|J4|J5|J6|J7|J8|J9|K0|K1|K2|K3|K4|K7|L1|L2|L3|L4|L5|L6|L7|L8|L9|M0|M1|M2=>walk_at "q"
 case I6|I8|K6=>walk_at "x9"
 case J2|L0=>walk_at "ix"
 case G6|H3|H9=>refine⟨?_,?_,?_,?_⟩<;>k_is
 case J0|K8=>walk_at "me"
 case hb=>exact λs v=>.of_eq rfl
#print axioms PySem.Challenge.cw_homeward_k64_sized_holds
