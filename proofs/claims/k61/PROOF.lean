import PyProof.Rows.All
import Wide.All
import OpenK.AllK
import Wide.FinOn
import Lean
import PyProof.EqAt
import PyProof.EqKinds
import PyProof.TupleCall
import PyProof.CompFree
import KE.KIsAll
import PyProof.AttrMiss
import PyProof.IsiH_list
import KE.KDictOf
import PyProof.ConsumeWalk
import PyProof.Rows.SetFrom
import PyProof.NeKinds
import PyProof.AutoListH
import PyProof.EnumMake
import PyProof.EnumFor
import PyProof.EnumStmt
import PyProof.LayNew
import PyProof.Rows.EnumRows
import KE.KDictList
import KE.KItemsList
import PyProof.ZipIter
import PyProof.Rows.ZipGen
import KE.KRevIter
import PySem.Challenge.RW_homeward_k61_growing_step_by_step
local macro_rules|`(⋯)=>`(by lia)|`(∅)=>`(by decide)
set_option linter.all false
set_option Elab.async false
def zA0:=@List.count_append
def zA1:=@Option.bind_eq_some_iff
def zA2:=@Nat.le_refl
def zA3:=@List.size_toArray
def zA4:=@PySem.Heap.get?_push_of_some
def zA5:=@List.getElem?_eq_some_iff
def zA6:=@List.mem_cons_of_mem
def zA7:=@Option.map_eq_some_iff
def zA8:=@of_decide_eq_true
def zA9:=@List.mem_cons_self
def zAa:=@List.length_map
def zAb:=@List.mem_append
def zAc:=@List.append_nil
def zAd:=@List.length_append
def zAe:=@PySem.Heap.lt_size
def zAf:=@List.mem_singleton
def zAg:=@Bool.and_eq_true_iff
def zAh:=@Nat.lt_of_lt_of_le
def zAi:=@Nat.le_trans
def zAj:=@decide_eq_true
def zAk:=@Nat.zero_add
def zAl:=@List.mem_cons
def zAm:=@List.append_assoc
def zAn:=@List.getElem?_append_left
def zAo:=@List.take_of_length_le
def zAp:=@List.count_cons
def zAq:=@List.length_cons
def zAr:=@List.mem_range
def zAs:=@Nat.ne_of_lt
def zAt:=@Bool.false_ne_true
def zAu:=@List.lookup_cons
def zAv:=@List.mem_append_right
def zAw:=@List.mem_filter
def zAx:=@List.mem_map
def zAy:=@PySem.Heap.get?_push_size
def zAz:=@List.map_cons
def zB0:=@of_decide_eq_false
def zB1:=@Option.isSome_iff_exists
def zB2:=@List.forall_mem_cons
def zB3:=@beq_self_eq_true
def zB4:=@List.nil_append
def zB5:=@Array.toList_append
def zB6:=@decide_eq_false
def zB7:=@Array.length_toList
def zB8:=@List.mem_of_getElem?
def zB9:=@List.length_range
def zBa:=@Nat.le_of_lt
def zBb:=@List.cons_merge_cons
def zBc:=@decide_eq_true_eq
def zBd:=@List.getElem?_map
def zBe:=@List.all_eq_true
def zBf:=@Nat.zero_le
def zBg:=@List.take_append_drop
def zBh:=@List.map_append
def zBi:=@Bool.and_eq_true
def zBj:=@List.getElem?_set_ne
def zBk:=@List.length_set
def zBl:=@List.getElem?_eq_getElem
def zBm:=@Array.perm_iff_toList_perm
def zBn:=@List.getElem?_set_self
def zBo:=@List.forall_mem_append
def zBp:=@List.replicate_succ
def zBq:=@List.nodup_append
def zBr:=@beq_iff_eq
def zBs:=@List.length_take
def zBt:=@List.cons_append
def zBu:=@decide_eq_decide
def zBv:=@Nat.succ_le_succ
def zBw:=@Nat.le_of_lt_succ
def zBx:=@List.pairwise_map
def zBy:=@List.find?_cons
def zBz:=@beq_eq_false_iff_ne
def zC0:=@Nat.le_of_not_lt
def zC1:=@Nat.lt_of_le_of_lt
def zC2:=@List.map_map
def zC3:=@Nat.lt_irrefl
def zC4:=@List.drop_eq_getElem_cons
def zC5:=@List.nodup_cons
def zC6:=@Nat.lt_of_succ_lt
def zC7:=@List.flatten_cons
def zC8:=@Int.emod_eq_of_lt
def zC9:=@Nat.sub_le
def zCa:=@List.any_cons
def zCb:=@List.filterMap_cons
def zCc:=@List.filter_cons_of_neg
def zCd:=@List.length_drop
def zCe:=@Nat.mod_eq_of_lt
def zCf:=@List.not_mem_nil
def zCg:=@List.findIdx?_cons
def zCh:=@Int.emod_lt_of_pos
def zCi:=@Nat.le_of_eq
def zCj:=@Nat.min_eq_left
def zCk:=@Nat.not_lt_zero
set_option genSizeOf false
set_option genInjectivity false
set_option maxRecDepth 100000
noncomputable section
structure PySem.W.Fast:Prop where
 (tw4203803582369452249 tw8328651797434784519 tw294462296380387163 tw15241222210422944679 tw15069271586731598817 tw7860472528384325610 tw15071059801512506257 tw6120970479657349731 tw8332115136822720611 tw2620307144675833575 tw3578046156727934722 tw14222441681221506101 tw4036441056964102023 tw12834063444286119893 tw714166285742574194 tw1251874240862648499 tw17347453011687218794 tw10488186218915686917 tw7582854567951296586 tw14485993525818287646 tw10155325173834277261 tw17522795440863183913 tw6495700709289129759 tw14965606557620178721 tw6377060150008283211 tw10483860514539305118 tw1560322661450859430 tw17819887306809146033 tw13245392632404750115 tw13917928932722981636 tw13111695395207257595 tw6042892088643039540 tw9004677259724752776 tw13170271653243436597 tw7130828910618810572 tw16866310271821434199 tw4644238569323719287 tw8928077325022000679 tw917179073169205677 tw12194975785234513626
 tw10765818932982597581 tw8838944813984043269 tw9135499882174518854 tw12358080023712982280 tw14986458930955926652 tw12419828476474207912 tw4995924119163790746 tw9447554534293135476 tw9117878474997240455 tw17127750884909496905 tw14842145532185049883 tw16293372659833060882 tw14107268328523010229 tw2167366597837824146 tw6737076790141659814 tw4542116923442329809 tw15150855502187605057 tw4092507981919080923 tw12698026794047324371 tw3150475482851324748 tw17246066261213163834 tw12283716066945282450 tw9971737311395980187 tw15661040840681739399 tw15722745568686280520 tw14179522841654891807 tw1215673590569635013 tw10316227980867391568 tw14921819720761158218 tw10065122997907103771 tw17261679357014174238 tw1452563228645457241 tw1987222466263886347 tw14887385541102168716 tw17633700923585011024 tw6624514917931576102 tw13845184690375995373 tw1513989509435540787 tw10086503232589669988 tw7876547114179194257
 tw10132140967482380306 tw2936131693898683331 tw8958581975833140629 tw17976784764680100110 tw16509022814291848449 tw760096039033616583 tw12264406886936181144 tw14579616844118352902 tw12317282518657784738 tw14103538715509472791 tw4096522309535320252 tw4268942668092351786 tw4501561345307144340 tw13588692544651795298 tw32294312208640581 tw14925365245487169929 tw15234080354000779611 tw8655606871360297947 tw2844992615692479295 tw17998142185651830535 tw6649286780347762962 tw15210903508704129459 tw8686152120981095032 tw6387582727466592724 tw1075367452391073769 tw9055004978867512998 tw17325114402884034332 tw8025966560794537163 tw14865056856831432338 tw17556242104505394133 tw1233212622532423786 tw1668355312985442634 tw13524291255842681901 tw18168250273718760077 tw2978441192269191889 tw14940172661268117363 tw15001039244486301016 tw6819813968813030720 tw8275965573634241172 tw12626878819002544026
 tw17652016679377535555 tw1012179071541789959 tw5319441273825528867 tw13243474364955980965 tw11111841803371547513 tw12534589478815634203 tw13310917105793629597 tw4798164450202676835 tw9510770897949978364 tw3302455532772107079 tw279249012268693785 tw11376284544330474146 tw9484945861690533753 tw3743766929592685095 tw12862121835951523481 tw10110365360362761068 tw13580934238076649148 tw3487407985989421094 tw3464618248276785039 tw7936597269183383557 tw16715739851200789668 tw16665565657077840565 tw7680893115661842556 tw11429310606762665674 tw10007911507576281287 tw307849933211611652 tw15130348505186406330 tw12088911081316908414 tw1587574665592898065 tw7257306345626805342 tw10555671767230463936 tw9715951744096652052 tw11657723067699217568 tw939114401887756693 tw5143872603396841205 tw713964046715478421 tw15038123226450447171 tw9473334892338454780 tw483525978985452279 tw13375079293490908235
 tw17873652733089335302 tw13551702963547860688 tw8870032781255960036 tw13363968712870914017 tw7626239668028701695 tw2945628893072227698 tw3026160288419824314 tw3621491923592675419 tw6871572142255359307 tw98940594543185040 tw6822918262813161830 tw11107813671451993304 tw15625278613899084470 tw13621902709019524468 tw6882518399820304126 tw5624577142203393683 tw6674517026995940612 tw12151461191333217548 tw679266793751703770 tw1138808385580295082 tw7785720275111252314 tw9901414271065892967 tw13664200440277956256 tw7337252511790392951 tw9580899225137446158 tw281937349207581893 tw10051004043719377324 tw16572170393571468010 tw13894489873423979220 tw12210835195963553235 tw10654027837106476760 tw16121146381372823623 tw10967423066124805471 tw4611729544087208977 tw16914520207370589026 tw18301067015952430161 tw7494866180528618281 tw4988259498125387249 tw11481902625421499415 tw6591301110164667138
 tw5154998582674819468 tw3306316328094441293 tw9409904812640890991 tw9587953010263759965 tw15071655930126217142 tw376002993348841060 tw3642278361135168963 tw3488340947720845931 tw12153199170813911349 tw17802926287488918793 tw4685426458216639707 tw17082694589404284222 tw10292093080333676787 tw10203187606957692774 tw9081777161253593830 tw1668589817560937137 tw690462282784471443 tw16198647759566644876 tw13737171922043804367 tw4092507335180449963 tw12515149675150619988 tw12389827337116655285 tw12168681857348618363 tw11557276853078324963 tw4556115323979169178 tw6413853682681854806 tw4381088848884054476 tw16432774745964286935 tw10774516494002990855 tw4610698405785342385 tw15551018325137640311 tw3929444271324544098 tw9898193151372972169 tw13575603441089100219 tw12058117786223065858 tw10911925979900993137 tw18439325315678546877 tw2812230751718020090 tw9201791989456009498 tw7711970370301557936
 tw8099218948545217418 tw7311972206220021949 tw11039293564075533579 tw4250686097158865167 tw17168521556603724667 tw8418007983480298514 tw10633984719942898777 tw8722167509337774988 tw10580153305404164981 tw8498014931575151973 tw6450787891524852856 tw16544276833089359503 tw10511300314650489307 tw10094752280702883391 tw14916707719496068841 tw99262154963044253 tw8178179419116807483 tw6586413128512616597 tw6261709070700489298 tw6215598511709912880 tw4992427466172857842 tw3729687591000825627 tw3316990553892468421 tw18373105820624951222 tw18021282450848978156 tw17414287235298005298 tw13470997021533473938 tw12239922042533097269 tw11224767635565995558 tw10838701307786743747 tw10700489807516605493 tw10473012625432125894 tw10082092630979026493 tw639533475601268594 tw3074751239872629856 tw8728981421202320284 tw16107628798123033111 tw11555627268785094740 tw6740688943400988992 tw8983886056233564341
 tw4853431829089575822 tw17637086984393781943 tw17345106817609202063 tw13685572950690967272 tw13610757422472897468 tw12668161304637115054 tw11084132829540157106 tw7891590100402043942 tw348584215517368545 tw2545489182086898620 tw1225606302244950238 tw9969880866417820075 tw8592362368553067890 tw8317932539705368176 tw2364880785237111696 tw14983955840364344511 tw1123325304228094409 tw8989185579600329382 tw7705360802044109644 tw7361133104255316831 tw7185327707545564857 tw6869829231872969821 tw683669943031848941 tw6566245959900013672 tw5784149072418946171 tw5764291847709320598 tw5159457775103105755 tw304954407963289970 tw2427483984071700399 tw2150519817272068895 tw18010340156212690081 tw17935938277259211538 tw17124023775744240454 tw16534196046240339497 tw1524864992426861248 tw15046166428649176343 tw14360027907817098509 tw13831436694142643735 tw12598312965510351188 tw12326975422451659227
 tw11841363535846807499 tw10917977563632541750 tw10915042480195880715 tw10322668560909795504 tw8361549902112688398 tw11319337057141473554 tw8976252765870740350 tw13147712245058667020 tw4403820392667857039 tw1315237567797938755 tw7388637559336644777 tw3513671568521517482 tw13062773515350747783 tw7127566737980275969 tw4663737227570785442 tw4437678880801586728 tw431431145349519553 tw3847985227813331780 tw3514518347830726442 tw18395951705676291378 tw16822851240277429818 tw15267894405836822330 tw14008623201056498137 tw13601825428009055685 tw11254648094317969782 tw11066380654972224612 tw18330660903456824812 tw17646388080780885028 tw15638939922017693192 tw15569251152645880653 tw11487116668775990386 tw5959629331112507815 tw4966099381498399347 tw286196547736982245 tw2679230990595992515:True)
abbrev N'(x:PySem.Str):Prop:=(x==("__debug__" : PySem.Str))=false
abbrev γ:=PySem.Addr
abbrev V':=PySem.Value
abbrev δ:=PySem.Shared
abbrev ε:=PySem.FuncData
open PySem renaming wpAny_bind→E',wpAny_pure→G',starEach→J',sizeLine→Kl,compareOp→Km,foldedSetIterable→Kn,wpAny_holding→Ko,bootBuiltins→Kq,wpAny_truthy_bool→Kr,attributeBase→Ks,sizeLine_eq→Kt,mainGlobals→Ku,sysModules→Kv,keywordEach→Kw,wpAny_mono→Kx,wpAny_passesOwn→Ky,call_meets→Kz,assignEach→K4,binaryOp→K5,wpAny→K6,model→K7,Program→K8,Around→K9,World→La,Expr→Lb,Stmt→Lc
open PyProof.Rows renaming wpS_bind→Ld,wpS_pure→Lf,pendingOf→Lg,failedOf→Lh,wpS_modify→Li,arrOf→Lj,Keyed→Ll,SortSt→Lm,kindOf→Ln,setArr→Lp,setPending→Lq
open _root_.List renaming range→Lr,replicate→Ls,merge→Lu,length→Lv,take_sublist→Lw,take_add_one→Lx,all_cons→Ly,lookup→Lz,drop_zero→L5,filter_cons_of_pos→L6,filter_congr→L7,drop_of_length_le→L8,drop_eq_nil_of_le→L9,nodup_range→Ma,take_length→Mb,mem_append_left→Mc,foldl→Me,length_nil→Mf,dropLast_concat→Mg,mem_of_mem_take→Mh,count_nil→Mi,map_take→Mj,pairwise_iff_getElem→Ml,getElem_inj→Mm,drop_length→Mn,of_mem_zip→Mo,length_singleton→Mp,length_filter_le→Mq,nodup_nil→Mr,set_append_right→Ms,drop_drop→Mt,set_append_left→Mu,mergeSort_perm→Mv,map_congr_left→Mw,map_nil→Mx,getD→Mz,filterMap_map→M0,getElem_take→M1,getElem_drop→M3,countP_cons→M4,merge_right→M5,foldl_cons→M6,range_succ→M7,countP_map→M8,nil_merge→M9,take_take→M',take_zero→Na,mapM_cons→Nb,filterMap→Nc,map_drop→Nd,take_add→Nf,set_comm→Ng,all_map→Nh,map→Ni
open PySem.Value renaming ref→Nj,int→Nk,none→Nl,str→Nm,bool→Nn,float→No,isStrOf→Np,isInt→Nq,bytes→Nr,type→Nt
open And renaming imp_right→Nu
open Option.some renaming inj→Nv
open PySem.PassesOwn renaming leaving→Nw
open PySem.W renaming Frag→Nx,kitOne→Ny
open PySem.F renaming plainAttrs_list→Nz,slot_list_append→N0,type_list_append→N1,slot_list_index→N2,type_list_index→N3,slot_dict_get→N4,slot_list_count→N5,slot_list_remove→N6,slot_list_clear→N7,args_dict_get_3→N8,plainAttrs_dict→N9,slot_dict_items→Oa,entry_dict_get→Ob,slot_list_pop→Oc,slot_int_rmul→Oe
open PySem.NameKind renaming free→Of,cell→Og
open False renaming elim→Oh
open Or renaming inr→Oi,inl→Oj,imp→Ol
namespace L2
open PySem PySem.Spec PyProof.Rows
variable{M:Model}{N:List Str}{base:Heap}{body:List Lc}{ch fp:List γ}{i n t':Nat}{kw:List (Str×V')}{mg:Str->Option V'}{op:CmpOp}{pl:Sem Bool}{us:List V'}
abbrev Key:=Sum Int Str
noncomputable def E9:Key->V'->Bool|.inl k,v=>Nq k v|.inr x,v=>Np x v
noncomputable def keyH(w:La):Key->Int|.inl k=>hashInt k|.inr x=>hashStr w x
theorem qc7:∀{k:Key}{v:V'},E9 k v=true->(∃i t,k=Sum.inl i/\v=Nk i t)∨(∃x t,k=Sum.inr x/\v=Nm x t)|.inl i,v,h=>by obtain⟨t,e⟩:=Value.isInt_shape h;exact .inl ⟨i,t,rfl,e⟩|.inr x,v,h=>by obtain⟨t,e⟩:=Value.isStrOf_shape h;exact .inr ⟨x,t,rfl,e⟩
theorem qau8(i:Int)(t:Tok):E9 (.inl i) (.int i t)=true:=by simp[E9,Nq]
theorem qau7(x:Str)(t:Tok):E9 (.inr x) (.str x t)=true:=by simp[E9,Np]
theorem qba8(a b:Int):decide ((Sum.inl a:Key)=Sum.inl b)=(a==b):=by by_cases e:a=b;{subst e;simp};have h:¬(Sum.inl a:Key)=Sum.inl b:=λq=>e (Sum.inl.inj q);rw[zB6 h];exact(zBz.mpr e).symm
theorem qba5(a b:Str):decide ((Sum.inr a:Key)=Sum.inr b)=decide (a=b):=by by_cases e:a=b;{subst e;simp};have h:¬(Sum.inr a:Key)=Sum.inr b:=λq=>e (Sum.inr.inj q);rw[zB6 h,zB6 e]
theorem qba7(a:Int)(b:Str):decide ((Sum.inl a:Key)=Sum.inr b)=false:=zB6 (λq=>nomatch q)
theorem qba6(a:Str)(b:Int):decide ((Sum.inr a:Key)=Sum.inl b)=false:=zB6 (λq=>nomatch q)
def qg2(prog:K8)(w:La):PySem.KeyKind prog w Key where
 is:=E9
 hash:=keyH w
 inj:=λv a b g f=>by
  rcases qc7 g with⟨i,t,rfl,rfl⟩|⟨x,t,rfl,rfl⟩
  .rcases qc7 f with⟨j,u,rfl,e⟩|⟨y,u,rfl,e⟩
   .injection e with c _;rw[c]
   exact nomatch e
  rcases qc7 f with⟨j,u,rfl,e⟩|⟨y,u,rfl,e⟩
  .exact nomatch e
  injection e with c _;rw[c]
 byValue:=λk v h=>by
  rcases qc7 h with⟨i,t,rfl,rfl⟩|⟨x,t,rfl,rfl⟩<;>rfl
 pyHash:=λd h=>by
  rcases qc7 d with⟨i,t,rfl,rfl⟩|⟨x,t,rfl,rfl⟩
  .exact wpAny_pyHash_int h
  exact wpAny_pyHash_str h
 eqBool:=λl d h=>by
  rcases qc7 l with⟨i,t,rfl,rfl⟩|⟨x,t,rfl,rfl⟩
  .rcases qc7 d with⟨j,u,rfl,rfl⟩|⟨y,u,rfl,rfl⟩
   .rw[qba8] at h;exact wpAny_eqBool_int h
   rw[qba7] at h;exact SeqAt.EqAt.int_str i t y u _ _ _ _ h
  rcases qc7 d with⟨j,u,rfl,rfl⟩|⟨y,u,rfl,rfl⟩
  .rw[qba6] at h;exact SeqAt.EqAt.str_int x t j u _ _ _ _ h
  rw[qba5] at h;exact wpAny_eqBool_str h
 «strs»:=λk x t v h=>by
  rcases qc7 h with⟨i,u,rfl,e⟩|⟨y,u,rfl,e⟩
  .exact nomatch e
  injection e with c _
  subst c;cases v<;>rfl
theorem qaf1(prog:K8)(w:La)(i:Int)(t:Tok):(qg2 prog w).is (.inl i) (.int i t)=true:=qau8 i t
theorem qaf0(prog:K8)(w:La)(x:Str)(t:Tok):(qg2 prog w).is (.inr x) (.str x t)=true:=qau7 x t
inductive V where
 |non|bl (b:Bool)|int (i:Int)|str (x:Str)|byt (b:Array UInt8)|flt (b:UInt64)|ref (a:γ)|ty (n:String)
 deriving DecidableEq
def Ou:V->V'->Prop|.non,u=>u=Nl|.bl b,u=>u=Nn b|.int i,u=>∃t,u=Nk i t|.str x,u=>∃t,u=Nm x t|.byt b,u=>∃t,u=Nr b t|.flt b,u=>∃t,u=No b t|.ref a,u=>u=Nj a|.ty n,u=>u=Nt n
abbrev Ov:List V->List V'->Prop:=Paired Ou
theorem Ov.length(r:Ov xs us):xs.length=us.length:=Paired.length r
theorem Ov.get:∀{xs:List V}{us:List V'}{i:Nat}{x:V},Ov xs us->xs[i]?=some x->∃u,us[i]?=some u/\Ou x u|_,_,_,_,.nil,e=>by simp at e|_,_,0,_,.cons r _,e=>by simp at e;subst e;exact⟨_,rfl,r⟩|_,_,i+1,x,.cons _ t,e=>by obtain⟨u,a,b⟩:=Ov.get t (by simpa using e);exact⟨u,by simpa using a,b⟩
theorem Ov.set{x:V}{u:V'}(r:Ou x u):∀{xs:List V}{us:List V'}(i:Nat),Ov xs us->Ov (xs.set i x) (us.set i u)|_,_,_,.nil=>.nil|_,_,0,.cons _ t=>.cons r t|_,_,i+1,.cons q t=>.cons q (Ov.set r i t)
theorem Ov.append(h:Ov xs us)(s:Ov ys a):Ov (xs++ys) (us++a):=by induction h with|nil=>exact s|cons r t i=>exact .cons r i
theorem Ov.take:∀{xs:List V}{us:List V'}(n:Nat),Ov xs us->Ov (xs.take n) (us.take n)|_,_,0,_=>.nil|_,_,_+1,.nil=>.nil|_,_,n+1,.cons r t=>.cons r (Ov.take n t)
theorem Ov.drop:∀{xs:List V}{us:List V'}(n:Nat),Ov xs us->Ov (xs.drop n) (us.drop n)|_,_,0,r=>r|_,_,_+1,.nil=>.nil|_,_,n+1,.cons _ t=>Ov.drop n t
def RelO:Option V->Option V'->Prop|some v,some u=>Ou v u|none,none=>True|_,_=>False
def KV{a:Type}:List (a×V)->List (a×V')->Prop:=Paired λ(p:a×V)(q:a×V')=>p.1=q.1/\Ou p.2 q.2
noncomputable def kV:Key->V|.inl i=>.int i|.inr x=>.str x
inductive HO where
 |l (xs:List V)
 |q (xs:List V)
 |dK (kvs:List (Key×V))|dT (kvs:List (List Key×V))
 |set (S:Int->Bool) (n:Nat)
 |ins (C dx:γ) (fs:List (Str×V))
 |own (x:γ)
 |xd (fs:List (Str×V))
 |met (f x:γ)
 |rng (lo hi:Int)
 |frz (o:Obj) (u:HO)
 |tbl (ps:Array V')
 |ext (φ:Heap->Prop)
noncomputable abbrev Hp:=γ->Option HO
noncomputable def upd(H:Hp)(a:γ)(o:HO):Hp:=λb=>if b=a then some o else H b
theorem qb8:upd H a o a=some o:=by unfold upd;rw[if_pos rfl]
theorem qd1(h:b≠a):upd H a o b=H b:=by unfold upd;rw[if_neg h]
theorem qaL4:upd (upd H a o) a u=upd H a u:=by funext b;unfold upd;split<;>rfl
theorem ne_of{H:Hp}(h:H a=some o)(h':H b=some u)(d:o≠u):a≠b:=by intro e;subst e;rw[h] at h';exact d (Nv h')
theorem qg0{H:Hp}(h:H a=some o)(h':H b=none):a≠b:=by intro e;subst e;rw[h] at h';cases h'
section
variable(P:K8)(w:La)
def ObjOk(H:Hp)(h:Heap)(a:γ):HO->Prop
 |.l xs=>xs.length<=Kl/\∃(its:List V')(n:Nat),Ov xs its/\h.get? a=some {cls:=.type "list",data:=.seq its.toArray n}|.q xs=>xs.length<=Kl/\∃its:List V',Ov xs its/\IsTup h a its.toArray|.dK kvs=>kvs.length<=Kl/\(a==Kv)=false/\∃vs,KV kvs vs/\h.DictOf (qg2 P w) a vs|.dT kvs=>kvs.length<=Kl/\(a==Kv)=false/\∃xs:List (List Key×γ×V'),
  Paired (λ(p:List Key×V)(q:List Key×γ×V')=>p.1=q.1/\H q.2.1=some (.q (p.1.map kV))/\Ou p.2 q.2.2) kvs xs/\∃o es b,h.get? a=some o/\o.ExactDict/\o.data=.dict es b/\es.toList=xs.map (entryOfKey (tupleKind (qg2 P w)))/\(xs.map (·.1)).Nodup
 |.set S n=>h.SetOf (intKind P w) a S n|.ins C dx fs=>H dx=some (.own a)/\fs.length<=1000/\dx≠a/\h.get? a=some (W.instObj C dx)/\∃mA,h.Ns1 dx mA/\(∀f,RelO (fs.lookup f) (mA f))/\PySem.Within mA (fs.map (·.1))|.own _=>∃o,h.get? a=some o|.xd fs=>∃mA,h.Ns1 a mA/\∀f,RelO (fs.lookup f) (mA f)|.rng lo hi=>∃t u v,h.get? a=some {cls:=.type "range",data:=.fields #[.int lo t,.int hi u,.int 1 v]}|.frz o u=>h.get? a=some o/\ObjOk H h a u|.tbl ps=>h.get? a=some {cls:=.none,data:=.fields ps}|.met f x=>h.get? a=some (W.methodObj (.ref f) (.ref x))|.ext φ=>φ h/\(∃o,h.get? a=some o)/\∀h1 h2:Heap,φ h1->(∀o,h1.get? a=some o->h2.get? a=some o)->φ h2
def HOk(H:Hp)(h:Heap):Prop:=∀a o,H a=some o->ObjOk P w H h a o
end
section
variable{P:K8}{w:La}{H H':Hp}{h h':Heap}{a:γ}{o:HO}
theorem ObjOk.lt(x:ObjOk P w H h a o):a<h.objs.size:=by cases o with|l c=>obtain⟨_,_,_,_,e⟩:=x;exact zAe e|q c=>obtain⟨_,_,_,p⟩:=x;exact p.lt|dK b=>obtain⟨_,_,_,_,o,_,_,e,_⟩:=x;exact zAe e|dT b=>obtain⟨_,_,_,_,o,_,_,e,_⟩:=x;exact zAe e|set S n=>obtain⟨o,_,_,_,e,_⟩:=x;exact zAe e|ins C g d=>obtain⟨_,_,_,e,_⟩:=x;exact zAe e|own y=>obtain⟨_,e⟩:=x;exact zAe e|xd d=>obtain⟨_,⟨_,_,_,e,_⟩,_⟩:=x;exact zAe e|rng i j=>obtain⟨_,_,_,e⟩:=x;exact zAe e|frz k u=>obtain⟨e,_⟩:=x;exact zAe e|tbl l=>exact zAe (show h.get? a=some _ from x)|met f y=>exact zAe (show h.get? a=some _ from x)|ext φ=>obtain⟨_,⟨_,e⟩,_⟩:=x;exact zAe e
theorem Paired.mapP{α β:Type}{F G:α->β->Prop}{l:List α}{m:List β}(h:Paired F l m)(f:∀a b,F a b->G a b):Paired G l m:=by induction h with|nil=>exact .nil|cons r t i=>exact .cons (f _ _ r) i
theorem ObjOk.stay(x:ObjOk P w H h a o)(k:∀b u,(b=a∨H b=some (.own a))->h.get? b=some u->h'.get? b=some u)(D:∀b,H b=some (.own a)->H' b=some (.own a))(E:∀b xs,H b=some (.q xs)->H' b=some (.q xs)):ObjOk P w H' h' a o:=by induction o with|l xs=>obtain⟨z,l,n,r,e⟩:=x;exact⟨z,l,n,r,k _ _ (.inl rfl) e⟩|q xs=>obtain⟨z,l,r,g,e,c⟩:=x;exact⟨z,l,r,g,k _ _ (.inl rfl) e,c⟩|dK m=>obtain⟨z,y,F,r,g,i,j,e,c⟩:=x;exact⟨z,y,F,r,g,i,j,k _ _ (.inl rfl) e,c⟩|dT m=>obtain⟨z,y,xs,r,g,i,j,e,c⟩:=x;exact⟨z,y,xs,Paired.mapP r λp q z=>⟨z.1,E _ _ z.2.1,z.2.2⟩,g,i,j,k _ _ (.inl rfl) e,c⟩|set S n=>obtain⟨g,i,j,t,e,c⟩:=x;exact⟨g,i,j,t,k _ _ (.inl rfl) e,c⟩|ins C K G=>obtain⟨d,z,I,e,s,⟨A,i,j,e2,c⟩,r⟩:=x;exact⟨D _ d,z,I,k _ _ (.inl rfl) e,s,⟨A,i,j,k _ _ (.inr d) e2,c⟩,r⟩|own y=>obtain⟨g,e⟩:=x;exact⟨g,k _ _ (.inl rfl) e⟩|xd G=>obtain⟨s,⟨A,i,j,e,c⟩,r⟩:=x;exact⟨s,⟨A,i,j,k _ _ (.inl rfl) e,c⟩,r⟩|rng L M=>obtain⟨t,u,v,e⟩:=x;exact⟨t,u,v,k _ _ (.inl rfl) e⟩|frz g u J=>obtain⟨e,q⟩:=x;exact⟨k _ _ (.inl rfl) e,J q⟩|tbl N=>have e:=x;exact k a _ (.inl rfl) e|met f y=>have e:=x;exact k a _ (.inl rfl) e|ext φ=>obtain⟨p,⟨o,e⟩,B⟩:=x;exact⟨B _ _ p λo q=>k _ _ (.inl rfl) q,⟨o,k _ _ (.inl rfl) e⟩,B⟩
theorem HOk.lt(x:HOk P w H h)(e:H a=some o):a<h.objs.size:=(x a o e).lt
theorem HOk.fresh(x:HOk P w H h)(e:h.objs.size<=a):H a=none:=by cases q:H a with|none=>rfl|some u=>exact absurd (zAh (x.lt q) e) (zC3 _)
theorem HOk.kept(x:HOk P w H h)(k:∀b u,h.get? b=some u->h'.get? b=some u):HOk P w H h':=λa o e=>
 (x a o e).stay (λb u _ q=>k b u q) (λ_ q=>q) λ_ _ q=>q
theorem HOk.laid(x:HOk P w H h)(k:∀b u,h.get? b=some u->h'.get? b=some u)(i:h.objs.size<=a)(d:ObjOk P w (upd H a o) h' a o):HOk P w (upd H a o) h':=λb u e=>by
 have f:=x.fresh i;by_cases g:b=a
 .subst g;rw[qb8] at e;cases e;exact d
 rw[qd1 g] at e;exact(x b u e).stay (λc v _ q=>k c v q) (λc q=>by rw[qd1 (qg0 q f)];exact q) λc j q=>by rw[qd1 (qg0 q f)];exact q
end
def Rd(H:Hp)(a:γ)(u:HO):Prop:=H a=some u∨∃o,H a=some (.frz o u)
theorem Rd.ok(r:Rd H a u)(x:HOk P w H h):ObjOk P w H h a u:=by rcases r with r|⟨o,r⟩;{exact x a u r};obtain⟨_,q⟩:=x a _ r;exact q
def Mut:Option HO->Prop|some (.l _)=>True|some (.dK _)=>True|some (.dT _)=>True|some (.set _ _)=>True|some (.ins _ _ _)=>True|some (.ext _)=>True|_=>False
section
variable{P:K8}{w:La}{H:Hp}{h h':Heap}{x e:γ}{o':HO}
theorem HOk.write(o:HOk P w H h)(d:Mut (H x))(m:e=x∨H e=some (.own x))(k:∀b u,b≠e->h.get? b=some u->h'.get? b=some u)(j:∃u,h'.get? e=some u)(l:ObjOk P w (upd H x o') h' x o'):HOk P w (upd H x o') h':=λb u q=>by
 have nown:∀c y,H c=some (.own y)->c≠x:=λc y r z=>by subst z;rw[r] at d;exact d
 have ntup:∀c f,H c=some (.q f)->c≠x:=λc f r z=>by subst z;rw[r] at d;exact d
 by_cases g:b=x
 .subst g;rw[qb8] at q;cases q;exact l
 rw[qd1 g] at q;by_cases a:b=e
 .have n:H b=some (.own x):=by
   rcases m with z|z
   .exact absurd (a.trans z) g
   rw[a];exact z
  rw[q] at n;cases n;obtain⟨v,p⟩:=j;exact⟨v,by rw[a];exact p⟩
 refine(o b u q).stay (λc v i r=>k c v ?_ r) (λc r=>by rw[qd1 (nown c b r)];exact r) λc f r=>by rw[qd1 (ntup c f r)];exact r
 rcases i with rfl|i
 .exact a
 rintro rfl;rcases m with z|z
 .exact nown c b i z
 rw[i] at z;cases z;exact g rfl
end
structure Un(fs ex:List γ)(H H':Hp)(h h':Heap):Prop where
 keep:∀b o,h.get? b=some o->H b=none->b∉fs->b∉ex->h'.get? b=some o
 slot:∀b o,h.get? b=some o->H b=none->b∈fs->b∉ex->∃sl,h'.get? b=some {o with slots:=sl}
 free:∀b o,h.get? b=some o->H b=none->b∉ex->H' b=none
 there:∀b o,h.get? b=some o->b∉ex->∃o',h'.get? b=some o'
 tups:∀b xs,H b=some (.q xs)->H' b=some (.q xs)
 frzs:∀b o u,H b=some (.frz o u)->H' b=some (.frz o u)
 tbls:∀b ps,H b=some (.tbl ps)->∃more,H' b=some (.tbl (ps++more))
section
variable{fs s:List γ}{H v w:Hp}{h t y h':Heap}{a x e:γ}{o:HO}
theorem Un.any(u:Un fs s H v h t)(q:h.get? b=some ob)(n:H b=none)(a:b∉s):∃sl,t.get? b=some {ob with slots:=sl}:=by by_cases c:b∈fs;{exact u.slot b ob q n c a};exact⟨ob.slots,u.keep b ob q n c a⟩
theorem Un.trans(a:Un fs s H v h t)(b:Un fs s v w t y):Un fs s H w h y where
 keep:=λc d q n g e=>b.keep c d (a.keep c d q n g e) (a.free c d q n e) g e
 slot:=λc d q n g e=>by
  obtain⟨p,f⟩:=a.slot c d q n g e;obtain⟨j,e2⟩:=b.slot c _ f (a.free c d q n e) g e;exact⟨j,e2⟩
 free:=λc d q n e=>by
  obtain⟨k,f⟩:=a.there c d q e;exact b.free c k f (a.free c d q n e) e
 there:=λc d q e=>by
  obtain⟨k,f⟩:=a.there c d q e;exact b.there c k f e
 tups:=λc i q=>b.tups c i (a.tups c i q)
 frzs:=λc d i q=>b.frzs c d i (a.frzs c d i q)
 tbls:=λc l q=>by
  obtain⟨m,f⟩:=a.tbls c l q;obtain⟨o,e2⟩:=b.tbls c _ f;exact⟨m++o,by rw[e2,Array.append_assoc]⟩
theorem Un.kept(k:∀b u,h.get? b=some u->h'.get? b=some u):Un fs s H H h h':=⟨λb a q _ _ _=>k b a q,λb a q _ _ _=>⟨a.slots,k b a q⟩,λ_ _ _ n _=>n,λb a q _=>⟨a,k b a q⟩,λ_ _ q=>q,λ_ _ _ q=>q,λ_ c q=>⟨#[],by rw[q];simp⟩⟩
theorem Un.refl:Un fs s H H h h:=Un.kept λ_ _ q=>q
theorem Un.laid(k:∀b u,h.get? b=some u->h'.get? b=some u)(d:h.objs.size<=a)(c:H a=none):Un fs s H (upd H a o) h h' where
 keep:=λb u q _ _ _=>k b u q
 slot:=λb u q _ _ _=>⟨u.slots,k b u q⟩
 free:=λb u q n _=>by rw[qd1 (zAs (zAh (zAe q) d))];exact n
 there:=λb u q _=>⟨u,k b u q⟩
 tups:=λb e q=>by rw[qd1 (qg0 q c)];exact q
 frzs:=λb u e q=>by rw[qd1 (qg0 q c)];exact q
 tbls:=λb f q=>⟨#[],by rw[qd1 (qg0 q c),q];simp⟩
theorem Un.write(c:Mut (H x))(j:e=x∨H e=some (.own x))(k:∀b u,b≠e->h.get? b=some u->h'.get? b=some u)(d:∃u,h'.get? e=some u):Un fs s H (upd H x o) h h':=by
 have g:∀b,H b=none->b≠x:=λb n z=>by subst z;rw[n] at c;exact c
 have i:∀b,H b=none->b≠e:=λb n z=>by subst z;rcases j with r|r;{exact g b n r};rw[n] at r;cases r
 have f:∀b u,H b=some u->¬Mut (some u)->b≠x:=λb u q l z=>by subst z;rw[q] at c;exact l c
 refine⟨λb u q n _ _=>k b u (i b n) q,λb u q n _ _=>⟨u.slots,k b u (i b n) q⟩,λb u q n _=>by rw[qd1 (g b n)];exact n,λb u q _=>?_,
  λb m q=>by rw[qd1 (f b _ q λz=>z)];exact q,λb u m q=>by rw[qd1 (f b _ q λz=>z)];exact q,λb p q=>⟨#[],by rw[qd1 (f b _ q λz=>z),q];simp⟩⟩
 by_cases a:b=e;{subst a;exact d};exact⟨u,k b u a q⟩
end
noncomputable def trk(h:Heap)(H:Hp):List γ:=(Lr h.objs.size).filter λa=>(H a).isSome
def Gd(h:Heap)(H:Hp):Heap:=W.hideAll h (trk h H)
theorem qav0(h:Heap)(H:Hp):(Gd h H).objs.size=h.objs.size:=W.hideAll_size _ _
theorem qaI8(e:h.get? b=some o)(n:H b=none):(Gd h H).get? b=some o:=W.hideAll_get _ e λa=>by
 have q:=(zAw.mp a).2;rw[n] at q;simp at q
theorem qaQ5(e:(Gd h H).get? b=some o):h.get? b=some o/\H b=none:=by have a:h.get? b=some o:=W.of_hideAll (trk h H) e;refine⟨a,?_⟩;cases q:H b with|none=>rfl|some x=>have c:b∈trk h H:=zAw.mpr ⟨zAr.mpr (zAe a),by simp[q]⟩;have z:(Gd h H).get? b=none:=W.hideAll_none (trk h H) c;rw[z] at e;cases e
structure Mod(K:Nx)(mg:Str->Option V')(base:Heap):Prop where
 kin:K.In base
 glob:base.Ns Ku mg
 blt:∃mb,base.Ns builtinsNs mb/\∀x:Str,x ≠ "__name__" -> mb x=Kq x
 nolimit:base.NoLimit
structure Cx where
 prog:K8
 w:La
 K:Nx
 mg:Str->Option V'
 base:Heap
 A:K9
 N:List Str
 s₀:δ
 H₀:Hp
 env:Env
 outer:List Env
 stack:List Env
 ex:List γ
 fn:Str->Bool
 calm:Bool
 pn:List (γ×Obj)
 xe:V'->δ->Prop
noncomputable def frs(l:List Env):List γ:=l.filterMap (·.frame)
abbrev Cx.fs(X:Cx):List γ:=frs X.outer
def Vis(sc:Scope)(x:Str):Prop:=sc.names.lookup x=some .local∨sc.names.lookup x=some .cell∨sc.names.lookup x=some .free
def Loc(sc:Scope)(x:Str):Prop:=sc.names.lookup x=some .local∨sc.names.lookup x=some .cell
def Look(env:Env)(h:Heap)(m:Str->Option V')(x:Str)(u:V'):Prop:=(env.kindOf x=some .local/\m x=some u)∨((env.kindOf x=some .cell∨env.kindOf x=some .free)/\∃c,env.cells.lookup x=some c/\h.IsCell c (some u))
structure Cx.Ok(X:Cx):Prop where
 mod:Mod X.K X.mg X.base
 kind:X.env.scope.kind=.function
 glob:X.env.globals=Ku
 blt:X.env.builtins=builtinsNs
 above:X.s₀.heap.objs.size<=X.env.locals
 inj:∀x y c,X.env.cells.lookup x=some c->X.env.cells.lookup y=some c->x=y
 has:∀x,(X.env.kindOf x=some .cell∨X.env.kindOf x=some .free)->∃c,X.env.cells.lookup x=some c
 cab:∀x c,X.fn x=true->X.env.cells.lookup x=some c->X.s₀.heap.objs.size<=c
 hd:X.calm=true->X.A.handled=none
 frames:X.A.frames=some X.stack
 stk:X.stack=X.outer∨(X.stack=X.env::X.outer/\X.env.frame=some X.env.locals)
 exf:∀b∈X.ex,b≠X.env.locals/\∀x c,X.env.cells.lookup x=some c->c≠b
 bs:∀b o,X.base.get? b=some o->X.s₀.heap.get? b=some o/\X.H₀ b=none
 bsz:X.base.objs.size<=X.s₀.heap.objs.size
 noex:∀b o,X.base.get? b=some o->b∉X.ex
 exfs:∀b∈X.ex,b∉X.fs
 funs:X.s₀.heap.FunFrames X.base X.outer
 frf:∀b∈X.fs,X.H₀ b=none
structure Ox(X:Cx)(Dg:List (γ×Obj))(a:List (Option V))(H:Hp)(s:δ):Prop where
 ok:X.Ok
 os:s.os=X.s₀.os
 bare:AllBare s.gens
 base:Un X.fs X.ex X.H₀ H X.s₀.heap s.heap
 loc:∃m,s.heap.Ns X.env.locals m/\∀(i:Nat)(x:Str)(v:V),X.N[i]?=some x->a[i]?=some (some v)->Vis X.env.scope x->∃u,Ou v u/\Look X.env s.heap m x u
 cell:∀x c,X.env.cells.lookup x=some c->∃v,s.heap.IsCell c v
 free:H X.env.locals=none
 freeC:∀x c,X.env.cells.lookup x=some c->H c=none
 pin:∀p∈X.pn++Dg,s.heap.get? p.1=some p.2/\H p.1=none/\p.1≠X.env.locals/\p.1∉X.fs/\∀v,p.2.data≠.cell v
 hok:HOk X.prog X.w H s.heap
 len:a.length=X.N.length
section
variable{X:Cx}{Dg:List (γ×Obj)}{σ:List (Option V)}{H H':Hp}{s:δ}{h':Heap}
theorem Cx.Ok.nofr(a:X.Ok)(e:X.base.get? b=some o):b∉X.fs:=λc=>by
 have:=(a.funs.mem c).1
 rw[e] at this;cases this
theorem Ox.bs(I:Ox X Dg σ H s):∀b o,X.base.get? b=some o->s.heap.get? b=some o/\H b=none:=λb o e=>
 ⟨I.base.keep b o (I.ok.bs b o e).1 (I.ok.bs b o e).2 (I.ok.nofr e) (I.ok.noex b o e),I.base.free b o (I.ok.bs b o e).1 (I.ok.bs b o e).2 (I.ok.noex b o e)⟩
theorem Ox.bk(I:Ox X Dg σ H s):∀b o,X.base.get? b=some o->s.heap.get? b=some o:=λb o e=>(I.bs b o e).1
theorem Ox.mod(I:Ox X Dg σ H s):Mod X.K X.mg X.base:=I.ok.mod
theorem Ox.kIn(I:Ox X Dg σ H s):X.K.In s.heap:=I.ok.mod.kin.keeps I.bk
theorem Ox.lt(I:Ox X Dg σ H s):X.env.locals<s.heap.objs.size:=let ⟨_,hn,_⟩:=I.loc;hn.lt
theorem Ox.sz(I:Ox X Dg σ H s):X.s₀.heap.objs.size<=s.heap.objs.size:=zAi I.ok.above (zBa I.lt)
theorem Ox.nofs(I:Ox X Dg σ H s)(h:s.heap.objs.size<=a):a∉X.fs:=λb=>by
 obtain⟨_,o,c,_⟩:=I.ok.funs.mem b;exact absurd (zAh (zAe c) (zAi I.sz h)) (zC3 _)
theorem Ox.cne(I:Ox X Dg σ H s):∀x c,X.env.cells.lookup x=some c->c≠X.env.locals:=λx c e z=>by
 obtain⟨v,o,d,f⟩:=I.cell x c e;obtain⟨m,⟨g,h,i,a,b,_⟩,_⟩:=I.loc;rw[z,a] at d;cases d;rw[b] at f;cases f
theorem Ox.funs(I:Ox X Dg σ H s):s.heap.FunFrames X.base X.outer:=by
 have all:∀(l:List Env),(∀b∈frs l,b∈X.fs)->X.s₀.heap.FunFrames X.base l->s.heap.FunFrames X.base l:=by intro l;induction l with|nil=>intro _ _;trivial|cons g r h=>intro f i;obtain⟨j,⟨L,o,a,k,m,n⟩,p⟩:=i;have c:=f L (by unfold frs;rw[zCb,a];exact zA9);obtain⟨q,e⟩:=I.base.slot L o m (I.ok.frf L c) c λz=>I.ok.exfs L z c;exact⟨j,⟨L,_,a,k,e,n⟩,h (λb d=>f b (by unfold frs;rw[zCb,a];exact zA6 _ d)) p⟩
 exact all X.outer (λ_ d=>d) I.ok.funs
theorem Ox.stack(I:Ox X Dg σ H s):s.heap.FunFrames X.base X.stack:=by rcases I.ok.stk with e|⟨e,a⟩;{rw[e];exact I.funs};rw[e];obtain⟨m,b,_⟩:=I.loc;refine .cons (by rw[I.ok.kind];decide) a b ?_ I.funs;exact Heap.get?_none_of_le (zAi I.ok.bsz I.ok.above)
theorem Ox.stkSub(I:Ox X Dg σ H s):∀b∈frs X.stack,b∈X.env.locals::X.fs:=λb a=>by
 rcases I.ok.stk with e|⟨e,c⟩
 .rw[e] at a;exact zA6 _ a
 rw[e] at a;unfold frs at a;rw[zCb,c] at a;exact a
theorem Ox.stkFree(I:Ox X Dg σ H s):∀b∈frs X.stack,H b=none:=λb a=>by
 rcases zAl.mp (I.stkSub b a) with e|a
 .rw[e];exact I.free
 obtain⟨_,o,c,_⟩:=I.ok.funs.mem a;exact I.base.free b o c (I.ok.frf b a) λz=>I.ok.exfs b z a
theorem Ox.step(I:Ox X Dg σ H s)(f:∀b∈ch,(b∈X.ex∨X.s₀.heap.objs.size<=b)/\b≠X.env.locals/\(∀x c,X.env.cells.lookup x=some c->c≠b)/\∀p∈X.pn++Dg,p.1≠b)(keep:∀b o,b≠X.env.locals->b∉X.fs->b∉ch->s.heap.get? b=some o->H b=none->h'.get? b=some o)(slot:∀b o,b≠X.env.locals->b∈X.fs->b∉ch->s.heap.get? b=some o->H b=none->∃sl,h'.get? b=some {o with slots:=sl})(free:∀b o,b∉ch->s.heap.get? b=some o->H b=none->H' b=none)(there:∀b o,b∉ch->s.heap.get? b=some o->∃o',h'.get? b=some o')(tups:∀b xs,H b=some (.q xs)->H' b=some (.q xs))(frzs:∀b o u,H b=some (.frz o u)->H' b=some (.frz o u))(tbls:∀b ps,H b=some (.tbl ps)->∃more,H' b=some (.tbl (ps++more)))(ns:∀m,s.heap.Ns X.env.locals m->h'.Ns X.env.locals m)(B:HOk X.prog X.w H' h')(K:AllBare g'):Ox X Dg σ H' {s with heap:=h',gens:=g',drawn:=J,toks:=t'}:=by
 have A:∀b o,X.s₀.heap.get? b=some o->b≠X.env.locals:=λb o e=>zAs (zAh (zAe e) I.ok.above);have h:∀b o,X.s₀.heap.get? b=some o->b∉X.ex->b∉ch:=λb o e a t=>by rcases (f b t).1 with z|z;{exact a z};exact absurd (zAh (zAe e) z) (zC3 _)
 have cellK:∀x c,X.env.cells.lookup x=some c->∀v,s.heap.IsCell c v->h'.IsCell c v:=λx c e v ⟨o,y,C⟩=>by have g:=λz=>(f c z).2.2.1 x c e rfl;by_cases E:c∈X.fs;{obtain⟨sl,q⟩:=slot c o (I.cne x c e) E g y (I.freeC x c e);exact⟨_,q,C⟩};exact⟨o,keep c o (I.cne x c e) E g y (I.freeC x c e),C⟩
 refine⟨I.ok,I.os,K,⟨λb o e n t a=>?_,λb o e n t a=>?_,λb o e n a=>?_,λb o e a=>?_,λb xs e=>tups b xs (I.base.tups b xs e),λb o xs e=>frzs b o xs (I.base.frzs b o xs e),λb ps e=>?_⟩,?_,λx c e=>?_,?_,λx c e=>?_,λp F=>?_,B,I.len⟩;{exact keep b o (A b o e) t (h b o e a) (I.base.keep b o e n t a) (I.base.free b o e n a)};{obtain⟨sl,j⟩:=I.base.slot b o e n t a;obtain⟨D,e2⟩:=slot b _ (A b o e) t (h b o e a) j (I.base.free b o e n a);exact⟨D,e2⟩};{obtain⟨o',j⟩:=I.base.there b o e a;exact free b o' (h b o e a) j (I.base.free b o e n a)};{obtain⟨o',j⟩:=I.base.there b o e a;exact there b o' (h b o e a) j};{obtain⟨L,j⟩:=I.base.tbls b ps e;obtain⟨M,e2⟩:=tbls b _ j;exact⟨L++M,by rw[e2,Array.append_assoc]⟩};{obtain⟨m,N,O⟩:=I.loc;refine⟨m,ns m N,λi x v j e2 P=>?_⟩;obtain⟨u,r,l⟩:=O i x v j e2 P;refine⟨u,r,?_⟩;rcases l with l|⟨k,c,e,z⟩;{exact .inl l};exact .inr ⟨k,c,e,cellK x c e _ z⟩};{obtain⟨v,z⟩:=I.cell x c e;exact⟨v,cellK x c e v z⟩};{obtain⟨m,⟨o,_,_,y,_⟩,_⟩:=I.loc;exact free _ o (λz=>(f _ z).2.1 rfl) y I.free};{obtain⟨v,o,y,C⟩:=I.cell x c e;exact free c o (λz=>(f c z).2.2.1 x c e rfl) y (I.freeC x c e)};obtain⟨e,n,G,nf,d⟩:=I.pin p F;have g:=λz=>(f p.1 z).2.2.2 p F rfl;exact⟨keep p.1 p.2 G nf g e n,free p.1 p.2 g e n,G,nf,d⟩
theorem Ox.un(I:Ox X Dg σ H s)(u:Un X.fs [] H H' s.heap h')(c:HOk X.prog X.w H' h'):Ox X Dg σ H' {s with heap:=h',toks:=t'}:=by obtain⟨m,⟨o,l,p,h,r⟩,_⟩:=id I.loc;obtain⟨q,i⟩:=u.any h I.free (by simp);exact I.step (ch:=[]) (λ_ z=>nomatch z) (λb o _ d _ e n=>u.keep b o e n d (by simp)) (λb o _ d _ e n=>u.slot b o e n d (by simp)) (λb o _ e n=>u.free b o e n (by simp)) (λb o _ e=>u.there b o e (by simp)) u.tups u.frzs u.tbls (λt j=>by obtain⟨v,f,g,a,k⟩:=j;rw[h] at a;cases a;exact⟨_,f,g,i,k⟩) c I.bare
theorem Ox.call(I:Ox X Dg σ H s)(u:Un (frs X.stack) ch H H' s.heap h')(g:HOk X.prog X.w H' h')(q:AllBare g')(d:∀b∈ch,(b∈X.ex∨X.s₀.heap.objs.size<=b)/\b≠X.env.locals/\(∀x c,X.env.cells.lookup x=some c->c≠b)/\∀p∈X.pn++Dg,p.1≠b):Ox X Dg σ H' {s with heap:=h',gens:=g',drawn:=l,toks:=t'}:=by obtain⟨m,⟨o,A,B,k,r⟩,_⟩:=id I.loc;obtain⟨C,h⟩:=u.any k I.free λz=>(d _ z).2.1 rfl;exact I.step d (λb o h t a e n=>u.keep b o e n (λz=>(zAl.mp (I.stkSub b z)).elim h t) a) (λb o _ _ a e n=>u.any e n a) (λb o a e n=>u.free b o e n a) (λb o a e=>u.there b o e a) u.tups u.frzs u.tbls (λD v=>by obtain⟨E,i,j,f,y⟩:=v;rw[k] at f;cases f;exact⟨_,i,j,h,y⟩) g q
theorem Ox.turned(I:Ox X Dg σ H s)(k:∀b o,b≠it->s.heap.get? b=some o->h'.get? b=some o)(g:H it=none)(f:it≠X.env.locals)(h1:it∈X.ex∨X.s₀.heap.objs.size<=it)(h2:∀x c,X.env.cells.lookup x=some c->c≠it)(h:∀p∈X.pn++Dg,p.1≠it):Ox X Dg σ H {s with heap:=h',toks:=t'}:=by
 have d:∀b u,H b=some u->b≠it:=λb u e z=>by rw[z,g] at e;cases e
 refine I.step (ch:=[it]) (λb i=>?_) (λb o _ _ a e _=>k b o (λz=>a (by simp[z])) e) (λb o _ _ a e _=>⟨o.slots,k b o (λz=>a (by simp[z])) e⟩) (λ_ _ _ _ n=>n)
  (λb o a e=>⟨o,k b o (λz=>a (by simp[z])) e⟩) (λ_ _ e=>e) (λ_ _ _ e=>e) (λb y e=>⟨#[],by rw[e];simp⟩) (λm j=>?_) (λb u e=>?_) I.bare
 .have e:b=it:=by simpa using i
  subst e;exact⟨h1,f,h2,h⟩
 {obtain⟨o,l,t,w,r⟩:=j;exact⟨o,l,t,k _ o (Ne.symm f) w,r⟩};refine(I.hok b u e).stay (λc v a q=>k c v ?_ q) (λ_ q=>q) λ_ _ q=>q;rcases a with z|z;{rw[z];exact d b u e};exact d c _ z
theorem Ox.tok(I:Ox X Dg σ H s)(t:Nat):Ox X Dg σ H {s with toks:=t}:=I.un Un.refl I.hok
theorem Ox.kept(I:Ox X Dg σ H s)(k:∀b u,s.heap.get? b=some u->h'.get? b=some u):Ox X Dg σ H {s with heap:=h',toks:=t'}:=I.un (Un.kept k) (I.hok.kept k)
theorem Ox.laid(I:Ox X Dg σ H s)(k:∀b u,s.heap.get? b=some u->h'.get? b=some u)(c:s.heap.objs.size<=a)(d:ObjOk X.prog X.w (upd H a o) h' a o):Ox X Dg σ (upd H a o) {s with heap:=h',toks:=t'}:=I.un (Un.laid k c (I.hok.fresh c)) (I.hok.laid k c d)
theorem Ox.write(I:Ox X Dg σ H s)(d:Mut (H x))(f:e=x∨H e=some (.own x))(k:∀b u,b≠e->s.heap.get? b=some u->h'.get? b=some u)(a:∃u,h'.get? e=some u)(c:ObjOk X.prog X.w (upd H x o) h' x o):Ox X Dg σ (upd H x o) {s with heap:=h',toks:=t'}:=I.un (Un.write d f k a) (I.hok.write d f k a c)
theorem Ox.pins_of(I:Ox X Dg σ H s)(h:∀p∈pins',s.heap.get? p.1=some p.2/\H p.1=none/\p.1≠X.env.locals/\p.1∉X.fs/\∀v,p.2.data≠.cell v):Ox X pins' σ H s:=⟨I.ok,I.os,I.bare,I.base,I.loc,I.cell,I.free,I.freeC,λp a=>(zAb.mp a).elim (λz=>I.pin p (Mc _ z)) (h p),I.hok,I.len⟩
theorem qal7(c:N.Nodup)(a:N[i]?=some x)(b:N[j]?=some x):i=j:=by obtain⟨e,d⟩:=zA5.mp a;obtain⟨f,e2⟩:=zA5.mp b;exact(Mm c).mp (d.trans e2.symm)
theorem qas0(I:Ox X Dg σ H s)(hN:X.N.Nodup)(hi:X.N[i]?=some x)(t:Loc X.env.scope x)(r:Ou v u)(h:∀s',Ox X Dg (σ.set i (some v)) H s'->(∃a,Heap.SameBut a s.heap s'.heap/\(a=X.env.locals∨X.env.cells.lookup x=some a))->Q () s')(hf:X.fn x=true∨X.env.scope.names.lookup x=some .local:=by first|exact .inl rfl|exact .inr rfl|assumption):K6 M A (storeName X.env x u) Q E s:=by
 obtain⟨m,W,hl⟩:=id I.loc;have K:(X.env.scope.kind==.class||(X.env.scope.kind==.module&&X.env.locals != X.env.globals))=false:=by rw[I.ok.kind];rfl
 have hiσ:i<σ.length:=by rw[I.len];exact(zA5.mp hi).1
 have C:=I.cne;have tracked:∀{a:γ}{J:Heap},(∃o,s.heap.get? a=some o/\H a=none)->Heap.SameBut a s.heap J->HOk X.prog X.w H J:=λ{a J} ha f b ob e=>by obtain⟨_,_,hfree⟩:=ha;refine(I.hok b ob e).stay (λc S l q=>(f.2 c ?_).trans q) (λ_ q=>q) λ_ _ q=>q;rintro rfl;rcases l with rfl|l;{rw[hfree] at e;cases e};rw[hfree] at l;cases l
 rcases t with B|B;{refine wpAny_storeName_local B W (λJ Y f=>?_) K;obtain⟨oL,_,_,Z,_⟩:=id W;refine h _ ⟨I.ok,I.os,I.bare,⟨λb o e n D t=>?_,λb o e n D t=>?_,I.base.free,λb o e t=>?_,I.base.tups,I.base.frzs,I.base.tbls⟩,⟨_,Y,λj y v' g e2 e3=>?_⟩,λy c e=>?_,I.free,I.freeC,λp hp=>?_,tracked ⟨oL,Z,I.free⟩ f,by simpa using I.len⟩ ⟨_,f,.inl rfl⟩;{exact(f.2 b (zAs (zAh (zAe e) I.ok.above))).trans (I.base.keep b o e n D t)};{obtain⟨sl,g⟩:=I.base.slot b o e n D t;exact⟨sl,(f.2 b (zAs (zAh (zAe e) I.ok.above))).trans g⟩};{obtain⟨o',g⟩:=I.base.there b o e t;exact⟨o',(f.2 b (zAs (zAh (zAe e) I.ok.above))).trans g⟩};{by_cases F:j=i;{subst F;rw[hi] at g;cases g;rw[zBn hiσ] at e2;cases e2;exact⟨u,r,.inl ⟨B,by simp⟩⟩};rw[zBj (Ne.symm F)] at e2;obtain⟨u',r',q⟩:=hl j y v' g e2 e3;refine⟨u',r',?_⟩;rcases q with⟨k,e⟩|⟨k,c,e,z⟩;{refine .inl ⟨k,?_⟩;have:y≠x:=λe=>F (qal7 hN g (e ▸ hi));simp[this,e]};exact .inr ⟨k,c,e,z.sameBut f (C y c e)⟩};{obtain⟨S,z⟩:=I.cell y c e;exact⟨S,z.sameBut f (C y c e)⟩};obtain⟨e,n,T,nf,d⟩:=I.pin p hp;exact⟨(f.2 p.1 T).trans e,n,T,nf,d⟩};have G:X.fn x=true:=by rcases hf with z|z;{exact z};rw[z] at B;cases B
 obtain⟨c,l⟩:=I.ok.has x (.inl B);obtain⟨S,z⟩:=I.cell x c l;refine wpAny_storeName_cell I.ok.kind B l z (λJ L f=>?_);obtain⟨oc,O,P⟩:=id z;refine h {s with heap:=J} ⟨I.ok,I.os,I.bare,⟨λb o e n D t=>?_,λb o e n D t=>?_,I.base.free,λb o e t=>?_,I.base.tups,I.base.frzs,I.base.tbls⟩,⟨m,W.sameBut f (Ne.symm (C x c l)),λj y v' g e2 e3=>?_⟩,λy U e=>?_,I.free,I.freeC,λp hp=>?_,tracked ⟨oc,O,I.freeC x c l⟩ f,by simpa using I.len⟩ ⟨c,f,.inr l⟩;{exact(f.2 b (zAs (zAh (zAe e) (I.ok.cab x c G l)))).trans (I.base.keep b o e n D t)};{obtain⟨sl,g⟩:=I.base.slot b o e n D t;exact⟨sl,(f.2 b (zAs (zAh (zAe e) (I.ok.cab x c G l)))).trans g⟩};{obtain⟨o',g⟩:=I.base.there b o e t;exact⟨o',(f.2 b (zAs (zAh (zAe e) (I.ok.cab x c G l)))).trans g⟩};{by_cases F:j=i;{subst F;rw[hi] at g;cases g;rw[zBn hiσ] at e2;cases e2;exact⟨u,r,.inr ⟨.inl B,c,l,L⟩⟩};rw[zBj (Ne.symm F)] at e2;obtain⟨u',r',q⟩:=hl j y v' g e2 e3;refine⟨u',r',?_⟩;rcases q with q|⟨k,U,e,z'⟩;{exact .inl q};refine .inr ⟨k,U,e,z'.sameBut f ?_⟩;rintro rfl;exact F (qal7 hN g (I.ok.inj _ _ _ e l ▸ hi))};{by_cases R:U=c;{subst R;exact⟨_,L⟩};obtain⟨w2,z2⟩:=I.cell y U e;exact⟨w2,z2.sameBut f R⟩};obtain⟨e,n,T,nf,d⟩:=I.pin p hp;refine⟨(f.2 p.1 ?_).trans e,n,T,nf,d⟩;intro q;rw[q,O] at e;have q':oc=p.2:=Nv e;exact d S (by rw[<-q'];exact P)
theorem qS3(I:Ox X Dg σ H s)(a:X.N.Nodup)(hi:X.N[i]?=some x)(b:Loc X.env.scope x)(r:Ou v u)(h:∀s',Ox X Dg (σ.set i (some v)) H s'->Q () s')(c:X.fn x=true∨X.env.scope.names.lookup x=some .local:=by first|exact .inl rfl|exact .inr rfl|assumption):K6 M A (storeName X.env x u) Q E s:=qas0 I a hi b r (λs' I' _=>h s' I') c
theorem Ox.call'(I:Ox X Dg σ H s)(e:s'.os=s.os)(u:Un (frs X.stack) ch H H' s.heap s'.heap)(a:HOk X.prog X.w H' s'.heap)(f:AllBare s'.gens)(d:∀b∈ch,(b∈X.ex∨X.s₀.heap.objs.size<=b)/\b≠X.env.locals/\(∀x c,X.env.cells.lookup x=some c->c≠b)/\∀p∈X.pn++Dg,p.1≠b):Ox X Dg σ H' s':=by obtain⟨g,h,i,j,k⟩:=s';subst (e);exact I.call u a f d
end
abbrev XK:=V'->Option γ->Hp->Prop
abbrev St:=List (Option V)
abbrev VK:=V->Hp->Prop
abbrev TE:=St->Hp->VK->Prop
abbrev TT:=St->Hp->(Bool->Hp->Prop)->Prop
abbrev TA:=St->Hp->(List V->Hp->Prop)->Prop
structure Ee where
 nx:St->Hp->Prop
 rt:VK
 bk:St->Hp->Prop:=λ_ _=>False
 ct:St->Hp->Prop:=λ_ _=>False
abbrev TS:=Ee->St->Hp->Prop
def EP(X:Cx)(Dg:List (γ×Obj))(a:St)(Q:VK)(u:V')(s':δ):Prop:=∃v H',Ox X Dg a H' s'/\Ou v u/\Q v H'
def TP(X:Cx)(Dg:List (γ×Obj))(a:St)(Q:Bool->Hp->Prop)(b:Bool)(s':δ):Prop:=∃H',Ox X Dg a H' s'/\Q b H'
def AP(X:Cx)(Dg:List (γ×Obj))(a:St)(Q:List V->Hp->Prop)(us:List V')(s':δ):Prop:=∃vs H',Ox X Dg a H' s'/\Ov vs us/\Q vs H'
def SP(X:Cx)(Dg:List (γ×Obj))(D:Ee)(f:Flow)(s':δ):Prop:=match f with|.next=>∃a' H',Ox X Dg a' H' s'/\D.nx a' H'|.brk=>∃a' H',Ox X Dg a' H' s'/\D.bk a' H'|.cont=>∃a' H',Ox X Dg a' H' s'/\D.ct a' H'|.ret u=>∃v a' H',Ox X Dg a' H' s'/\Ou v u/\D.rt v H'
def PE(X:Cx)(e:Lb)(t:TE):Prop:=∀(Dg:List (γ×Obj))(s:δ)(a:St)(H:Hp)(Q:VK),Ox X Dg a H s->t a H Q->K6 (K7 X.prog X.w) X.A (eval e X.env) (EP X Dg a Q) X.xe s
def PT(X:Cx)(e:Lb)(t:TT):Prop:=∀(Dg:List (γ×Obj))(s:δ)(a:St)(H:Hp)(Q:Bool->Hp->Prop),Ox X Dg a H s->t a H Q->K6 (K7 X.prog X.w) X.A (isTrue e X.env (eval e X.env)) (TP X Dg a Q) X.xe s
def PW(X:Cx)(e:Lb)(t:TT):Prop:=∀(whole:Sem V')(Dg:List (γ×Obj))(s:δ)(a:St)(H:Hp)(Q:Bool->Hp->Prop),Ox X Dg a H s->t a H Q->K6 (K7 X.prog X.w) X.A (isTrue e X.env whole) (TP X Dg a Q) X.xe s
theorem PW.pt(h:PW X e t):PT X e t:=h _
def PA(X:Cx)(es:List Lb)(t:TA):Prop:=∀(pos:Pos)(Dg:List (γ×Obj))(s:δ)(a:St)(H:Hp)(Q:List V->Hp->Prop),Ox X Dg a H s->t a H Q->K6 (K7 X.prog X.w) X.A (spliced (backTo pos (J' es X.env))) (AP X Dg a Q) X.xe s
def PS(X:Cx)(st:Lc)(t:TS):Prop:=∀(Dg:List (γ×Obj))(s:δ)(a:St)(H:Hp)(D:Ee),Ox X Dg a H s->t D a H->K6 (K7 X.prog X.w) X.A (exec st X.env) (SP X Dg D) X.xe s
def PSs(X:Cx)(st:List Lc)(t:TS):Prop:=∀(Dg:List (γ×Obj))(s:δ)(a:St)(H:Hp)(D:Ee),Ox X Dg a H s->t D a H->K6 (K7 X.prog X.w) X.A (execs st X.env) (SP X Dg D) X.xe s
theorem thn{α:Type}{t:Sem α}{Q Q':α->δ->Prop}{A:K9}{E:V'->δ->Prop}{s:δ}(h:K6 M A t Q E s)(b:∀a s,Q a s->Q' a s):K6 M A t Q' E s:=Kx h b λ_ _ x=>x
section
variable{X:Cx}
def Fk(i:Nat):TE:=λn H Q=>∃v,n[i]?=some (some v)/\Q v H
def tC(v:V):TE:=λ_ H Q=>Q v H
theorem qm0(f:X.N[i]?=some x)(g:Vis X.env.scope x)(b:N' x:=by decide)(d:(x==("__classdict__" : Str))=false:=by decide):PE X (.Name x pos) (Fk i):=by intro Dg s n H Q I h;obtain⟨v,e,h⟩:=h;obtain⟨m,j,k⟩:=I.loc;obtain⟨u,r,l⟩:=k i x v f e g;have fin:EP X Dg n Q u s:=⟨v,H,I,r,h⟩;rcases l with⟨a,hm⟩|⟨a,c,hc,hcell⟩;{exact wpAny_Name (wpAny_loadName_local I.ok.kind a j hm fin) b};rcases a with a|a;{exact wpAny_Name (wpAny_loadName_cell I.ok.kind a hc hcell fin) b};exact wpAny_Name (wpAny_loadName_free I.ok.kind a hc hcell fin d) b
theorem qO4{i j pos}:PE X (.Constant (.int i) j pos) (tC (.int i)):=λ_ _ _ H _ I h=>wpAny_Constant_int ⟨.int i,H,I.tok _,⟨_,rfl⟩,h⟩
theorem pe_bl{b j pos}:PE X (.Constant (.bool b) j pos) (tC (.bl b)):=λ_ _ _ H _ I h=>Constant_bool ⟨.bl b,H,I,rfl,h⟩
theorem qaP3{j pos}:PE X (.Constant .none j pos) (tC .non):=λ_ _ _ H _ I h=>Constant_none ⟨.non,H,I,rfl,h⟩
theorem qaX8{x j pos}:PE X (.Constant (.str x) j pos) (tC (.str x)):=λ_ _ _ H _ I h=>Calls.Constant_str ⟨.str x,H,I.tok _,⟨_,rfl⟩,h⟩
def Gl(X:Cx)(x:Str):Prop:=X.env.kindOf x=some .globalImplicit
theorem qam9{n:St}(I:Ox X Dg n H s)(a:Gl X x)(hm:X.mg x=some u)(h:Q u s)(b:N' x:=by decide):K6 (K7 X.prog X.w) X.A (eval (.Name x pos) X.env) Q E s:=Calls.Name_function_global I.ok.kind a (Calls.loadGlobal_global (by rw[I.ok.glob];exact I.mod.glob.keeps I.bk) hm h) b
theorem qan0{n:St}(I:Ox X Dg n H s)(a:Gl X x)(hm:X.mg x=none)(b:Kq x=some u)(h:Q u s)(c:x ≠ "__name__" := by decide)(d:N' x:=by decide):K6 (K7 X.prog X.w) X.A (eval (.Name x pos) X.env) Q E s:=by obtain⟨g,e,f⟩:=I.mod.blt;exact Calls.Name_function_global I.ok.kind a (Calls.loadGlobal_builtin (by rw[I.ok.glob];exact I.mod.glob.keeps I.bk) hm (by rw[I.ok.blt];exact e.keeps I.bk) ((f x c).trans b) h) d
theorem qaz5(a:Gl X x)(hm:X.mg x=some u)(r:Ou v u)(b:N' x:=by decide):PE X (.Name x pos) (tC v):=λ_ _ _ H _ I h=>qam9 I a hm ⟨v,H,I,r,h⟩ b
theorem qaP6(a:Gl X x)(hm:X.mg x=none)(b:Kq x=some u)(r:Ou v u)(c:x ≠ "__name__" := by decide)(d:N' x:=by decide):PE X (.Name x pos) (tC v):=λ_ _ _ H _ I h=>qan0 I a hm b ⟨v,H,I,r,h⟩ c d
variable{a b:Lb}{o p:TE}{pos:Pos}
def tB(t:TE):TT:=λn H Q=>t n H λx H1=>∃c,x=.bl c/\Q c H1
theorem qaE5(h:PE X e t)(b:∀whole,isTrue e X.env whole=(do let v<-whole;standAt e.pos;holding [v] (truthy v)):=by intro _;rfl):PT X e (tB t):=by intro Dg s n H Q I c;refine isTrue_plain (thn (h Dg s n H _ I c) λv i a=>?_) (b _);obtain⟨x,H1,I1,f,g⟩:=a;obtain⟨d,rfl,q⟩:=g;cases f;exact Kr ⟨H1,I1,q⟩
variable{y tB':TT}{rest:List Lb}
def tAnd(t u:TT):TT:=λn H Q=>t n H λc H1=>if c=true then u n H1 Q else Q false H1
def tOr(t u:TT):TT:=λn H Q=>t n H λc H1=>if c=true then Q true H1 else u n H1 Q
def tNot(t:TT):TT:=λn H Q=>t n H λc H1=>Q (!c) H1
theorem qaN9(b:PT X a y):PW X (.BoolOp .And [a] pos) y:=by intro d Dg s n H Q I h;refine isTrue_and (thn (b Dg s n H Q I h) λc f e=>?_);cases c with|true=>exact isTrue_and_nil e|false=>exact e
theorem qaX1(b:PT X a y):PW X (.BoolOp .Or [a] pos) y:=by intro d Dg s n H Q I h;refine isTrue_or (thn (b Dg s n H Q I h) λc f e=>?_);cases c with|false=>exact isTrue_or_nil e|true=>exact e
theorem qaX2(f:PT X a y)(g:PW X (.BoolOp .And (b::rest) pos) tB'):PW X (.BoolOp .And (a::b::rest) pos) (tAnd y tB'):=by intro i Dg s n H Q I h;refine isTrue_and (thn (f Dg s n H _ I h) λc j d=>?_);obtain⟨H1,I1,e⟩:=d;cases c with|true=>exact g i Dg j n H1 Q I1 e|false=>exact⟨H1,I1,e⟩
theorem pw_or(f:PT X a y)(g:PW X (.BoolOp .Or (b::rest) pos) tB'):PW X (.BoolOp .Or (a::b::rest) pos) (tOr y tB'):=by intro i Dg s n H Q I h;refine isTrue_or (thn (f Dg s n H _ I h) λc j d=>?_);obtain⟨H1,I1,e⟩:=d;cases c with|true=>exact⟨H1,I1,e⟩|false=>exact g i Dg j n H1 Q I1 e
theorem qaO0(b:PT X a y):PT X (.UnaryOp .Not a pos) (tNot y):=by intro Dg s n H Q I h;exact isTrue_not (b Dg s n H (λc H1=>Q (!c) H1) I h)
def tAndV(o p:TE):TE:=λn H Q=>o n H λx H1=>∃c,x=.bl c/\if c=true then p n H1 Q else Q (.bl false) H1
def tOrV(o p:TE):TE:=λn H Q=>o n H λx H1=>∃c,x=.bl c/\if c=true then Q (.bl true) H1 else p n H1 Q
def tNotV(o:TE):TE:=λn H Q=>o n H λx H1=>∃c,x=.bl c/\Q (.bl (!c)) H1
theorem qat3{op}(h:PE X a t):PE X (.BoolOp op [a] pos) t:=λDg s n H Q I b=>BoolOp_one (h Dg s n H Q I b)
theorem qat6(f:PE X a o)(g:PE X (.BoolOp .And (b::rest) pos) p):PE X (.BoolOp .And (a::b::rest) pos) (tAndV o p):=by intro Dg s n H Q I h;refine BoolOp_and (thn (f Dg s n H _ I h) λv i e=>?_);obtain⟨x,H1,I1,j,d⟩:=e;obtain⟨c,rfl,d⟩:=d;cases j;refine Kr ?_;cases c with|true=>exact g Dg i n H1 Q I1 d|false=>exact⟨.bl false,H1,I1,rfl,d⟩
theorem pe_or(f:PE X a o)(g:PE X (.BoolOp .Or (b::rest) pos) p):PE X (.BoolOp .Or (a::b::rest) pos) (tOrV o p):=by intro Dg s n H Q I h;refine BoolOp_or (thn (f Dg s n H _ I h) λv i e=>?_);obtain⟨x,H1,I1,j,d⟩:=e;obtain⟨c,rfl,d⟩:=d;cases j;refine Kr ?_;cases c with|false=>exact g Dg i n H1 Q I1 d|true=>exact⟨.bl true,H1,I1,rfl,d⟩
theorem qaP2(e:PE X a o):PE X (.UnaryOp .Not a pos) (tNotV o):=by intro Dg s n H Q I h;refine UnaryOp_ (thn (e Dg s n H _ I h) λv g b=>?_);obtain⟨x,H1,I1,f,d⟩:=b;obtain⟨c,rfl,d⟩:=d;cases f;exact not_of (Kr ⟨.bl (!c),H1,I1,rfl,d⟩)
def tIf(t:TT)(o p:TE):TE:=λn H Q=>t n H λc H1=>if c=true then o n H1 Q else p n H1 Q
theorem qak3(i:PT X c y)(j:PE X a o)(k:PE X b p):PE X (.IfExp c a b pos) (tIf y o p):=by intro Dg s n H Q I h;refine wpAny_IfExp (thn (i Dg s n H _ I h) λd f e=>?_);obtain⟨H1,I1,g⟩:=e;cases d with|true=>exact j Dg f n H1 Q I1 g|false=>exact k Dg f n H1 Q I1 g
end
def SqL(K:Nx)(H:Hp)(a:γ)(xs:List V):Prop:=Rd H a (.l xs)∨∃(o:Obj)(its:Array V')(n:Nat),K.lookup a=some o/\o.cls=.type "list" /\ o.dict=none/\o.data=.seq its n/\its.size<=Kl/\Ov xs its.toList
def SqT(K:Nx)(H:Hp)(a:γ)(xs:List V):Prop:=Rd H a (.q xs)∨∃(o:Obj)(its:Array V')(n:Nat),K.lookup a=some o/\o.cls=.type "tuple" /\ o.data=.seq its n/\its.size<=Kl/\Ov xs its.toList
noncomputable def absV:V'->Option V|.none=>some .non|.bool b=>some (.bl b)|.int i _=>some (.int i)|.str x _=>some (.str x)|.bytes b _=>some (.byt b)|.float b _=>some (.flt b)|.ref a=>some (.ref a)|.type n=>some (.ty n)|_=>none
theorem Ou.abs(r:Ou x u):absV u=some x:=by cases x with|non=>cases r;rfl|bl _=>cases r;rfl|int _=>obtain⟨t,rfl⟩:=r;rfl|str _=>obtain⟨t,rfl⟩:=r;rfl|byt _=>obtain⟨t,rfl⟩:=r;rfl|flt _=>obtain⟨t,rfl⟩:=r;rfl|ref _=>cases r;rfl|ty _=>cases r;rfl
theorem Ou.inj(r:Ou x u)(q:Ou y u):x=y:=Nv (r.abs.symm.trans q.abs)
theorem Ov.inj(h:Ov xs us)(g:Ov ys us):xs=ys:=by induction h generalizing ys with|nil=>cases g;rfl|cons r t i=>cases g with|cons q u=>rw[r.inj q,i u]
section
variable{X:Cx}{q:List (γ×Obj)}{m:St}{H:Hp}{s:δ}{a:γ}{xs ys:List V}
theorem SqL.of{K:Nx}(h:H a=some (.l xs)):SqL K H a xs:=.inl (.inl h)
theorem Ox.list(I:Ox X q m H s)(h:SqL X.K H a xs):∃its:List V',Ov xs its/\PlainL s.heap a its.toArray/\xs.length<=Kl:=by rcases h with h|⟨o,its,n,b,c,d,f,g,r⟩;{obtain⟨z,its,n,r,e⟩:=h.ok I.hok;exact⟨its,r,⟨_,n,e,rfl,rfl,rfl⟩,z⟩};refine⟨its.toList,r,⟨o,n,I.kIn a o b,c,d,by simpa using f⟩,?_⟩;have e:=r.length;simp only[zB7] at e;lia
theorem Ox.tuple(I:Ox X q m H s)(h:SqT X.K H a xs):∃its:List V',Ov xs its/\IsTup s.heap a its.toArray/\xs.length<=Kl:=by rcases h with h|⟨o,its,n,b,c,d,f,r⟩;{obtain⟨z,its,r,p⟩:=h.ok I.hok;exact⟨its,r,p,z⟩};refine⟨its.toList,r,⟨o,I.kIn a o b,c,n,by simpa using d⟩,?_⟩;have e:=r.length;simp only[zB7] at e;lia
theorem Ox.list_inj(I:Ox X q m H s)(h:SqL X.K H a xs)(h':SqL X.K H a ys):xs=ys:=by
 obtain⟨b,r,⟨o,n,e,_,_,d⟩,_⟩:=I.list h;obtain⟨its',g,⟨j,k,c,_,_,f⟩,_⟩:=I.list h';rw[e] at c;cases c;rw[d] at f;injection f with i _;have:b=its':=by simpa using congrArg Array.toList i
 subst this;exact r.inj g
end
noncomputable abbrev Cx.wish(X:Cx)(E:V'->δ->Prop):Cx:={X with xe:=E}
abbrev Cx.nox(X:Cx):Cx:=X.wish λ_ _=>False
theorem Cx.Ok.wish{X:Cx}(a:X.Ok)(E:V'->δ->Prop):(X.wish E).Ok:=⟨a.mod,a.kind,a.glob,a.blt,a.above,a.inj,a.has,a.cab,a.hd,a.frames,a.stk,a.exf,a.bs,a.bsz,a.noex,a.exfs,a.funs,a.frf⟩
theorem Cx.Ok.unwish{X:Cx}(a:(X.wish E).Ok):X.Ok:=⟨a.mod,a.kind,a.glob,a.blt,a.above,a.inj,a.has,a.cab,a.hd,a.frames,a.stk,a.exf,a.bs,a.bsz,a.noex,a.exfs,a.funs,a.frf⟩
section
variable{X:Cx}{c:List (γ×Obj)}{b:St}{H:Hp}{s:δ}{E:V'->δ->Prop}
theorem Ox.wish(I:Ox X c b H s)(E:V'->δ->Prop):Ox (X.wish E) c b H s:=⟨I.ok.wish E,I.os,I.bare,I.base,I.loc,I.cell,I.free,I.freeC,I.pin,I.hok,I.len⟩
theorem Ox.unwish(I:Ox (X.wish E) c b H s):Ox X c b H s:=⟨I.ok.unwish,I.os,I.bare,I.base,I.loc,I.cell,I.free,I.freeC,I.pin,I.hok,I.len⟩
theorem SP.unwish(h:SP (X.wish E) c D f s'):SP X c D f s':=by cases f with|next=>obtain⟨b',H',I,q⟩:=h;exact⟨b',H',I.unwish,q⟩|brk=>obtain⟨b',H',I,q⟩:=h;exact⟨b',H',I.unwish,q⟩|cont=>obtain⟨b',H',I,q⟩:=h;exact⟨b',H',I.unwish,q⟩|ret u=>obtain⟨v,b',H',I,r,q⟩:=h;exact⟨v,b',H',I.unwish,r,q⟩
theorem PSs.nox{st:List Lc}(h:PSs X.nox st t):PSs X st t:=λc s b H D I a=>
 Kx (h c s b H D (I.wish _) a) (λ_ _ q=>q.unwish) λ_ _ z=>Oh z
end
section
variable{X:Cx}{n:Lc}{rest:List Lc}{t u:TS}{e:Lb}{te:TE}{m:Pos}
def tNext:TS:=λD l H=>D.nx l H
def tSeq(t u:TS):TS:=λD l H=>t {D with nx:=u D} l H
theorem qaz2:PSs X [] tNext:=λ_ _ l H _ I h=>wpAny_execs_nil ⟨l,H,I,h⟩
theorem qC4(h1:PS X n t)(h2:PSs X rest u):PSs X (n::rest) (tSeq t u):=by intro Dg s l H D I h;refine wpAny_execs_cons (thn (h1 Dg s l H {D with nx:=u D} I h) λf a q=>?_);cases f with|next=>obtain⟨l',H',I',q⟩:=q;exact h2 Dg a l' H' D I' q|ret v=>exact q|brk=>exact q|cont=>exact q
theorem qy1(h1:PS X n t):PSs X [n] t:=by intro Dg s l H D I h;refine wpAny_execs_cons (thn (h1 Dg s l H D I h) λf a q=>?_);cases f with|next=>exact wpAny_execs_nil q|ret v=>exact q|brk=>exact q|cont=>exact q
theorem Ox.quiet(I:Ox X Dg l H s):interactive X.env=false:=by simp[interactive,I.ok.kind]
def tDrop(te:TE):TS:=λD l H=>te l H λ_ H1=>D.nx l H1
theorem qaO1(a:PE X e te)(b:swapsWith e none m.line X.env=pure false:=by rfl):PS X (.Expr e m) (tDrop te):=by intro Dg s l H D I h;exact wpAny_Expr_any (thn (a Dg s l H _ I h) λv d ⟨x,H1,I1,f,c⟩=>⟨l,H1,I1,c⟩) I.quiet b
def tRet(te:TE):TS:=λD l H=>te l H D.rt
theorem qU8(a:PE X e te):PS X (.Return (some e) m) (tRet te):=by intro Dg s l H D I h;exact wpAny_Return_some (thn (a Dg s l H _ I h) λv d ⟨x,H1,I1,b,c⟩=>⟨x,l,H1,I1,b,c⟩)
def tIfS(c:TT)(t u:TS):TS:=λD l H=>c l H λb H1=>if b=true then t D l H1 else u D l H1
theorem ps_if(i:PT X c tc)(j:PSs X a t)(k:PSs X b u):PS X (.If c a b m) (tIfS tc t u):=by intro Dg s l H D I h;refine wpAny_If (thn (i Dg s l H _ I h) λd f e=>?_);obtain⟨H1,I1,g⟩:=e;cases d with|true=>exact j Dg f l H1 D I1 g|false=>exact k Dg f l H1 D I1 g
def qaW6:TS:=λ_ _ _=>False
theorem qaE8:PS X n qaW6:=λ_ _ _ _ _ _ h=>h.elim
end
abbrev TG:=V->St->Hp->(St->Hp->Prop)->Prop
abbrev TGs:=List V->St->Hp->(St->Hp->Prop)->Prop
def PG(X:Cx)(target:Lb)(t:TG):Prop:=∀(Dg:List (γ×Obj))(s:δ)(a:St)(H:Hp)(v:V)(u:V')(Q:St->Hp->Prop),Ox X Dg a H s->Ou v u->t v a H Q->K6 (K7 X.prog X.w) X.A (assign target X.env u) (λ_ s'=>∃a' H',Ox X Dg a' H' s'/\Q a' H') X.xe s
def PGs(X:Cx)(a:List Lb)(t:TGs):Prop:=∀(Dg:List (γ×Obj))(s:δ)(b:St)(H:Hp)(vs:List V)(us:List V')(Q:St->Hp->Prop),Ox X Dg b H s->Ov vs us->t vs b H Q->K6 (K7 X.prog X.w) X.A (assignInOrder ((K4 a X.env).map (·.2)) us) (λ_ s'=>∃b' H',Ox X Dg b' H' s'/\Q b' H') X.xe s
abbrev Jb:=V->V->V->Hp->(Hp->Prop)->Prop
def PSet(X:Cx)(t:Jb):Prop:=∀(Dg:List (γ×Obj))(s:δ)(a:St)(H:Hp)(o i v:V)(ov iv u:V')(Q:Hp->Prop),Ox X Dg a H s->Ou o ov->Ou i iv->Ou v u->t o i v H Q->K6 (K7 X.prog X.w) X.A (setItem ov iv u) (λ_ s'=>∃H',Ox X Dg a H' s'/\Q H') X.xe s
abbrev TIp:=V->V->Hp->VK->Prop
def PIp(X:Cx)(op:Operator)(t:TIp):Prop:=∀(Dg:List (γ×Obj))(s:δ)(a:St)(H:Hp)(x y:V)(v u:V')(Q:VK),Ox X Dg a H s->Ou x v->Ou y u->t x y H Q->K6 (K7 X.prog X.w) X.A (inplaceOp op v u) (EP X Dg a Q) X.xe s
section
variable{X:Cx}{pos:Pos}
def Fx(i:Nat):TG:=λv R H Q=>Q (R.set i (some v)) H
theorem qO3(a:X.N.Nodup)(hi:X.N[i]?=some x)(b:Loc X.env.scope x)(c:X.fn x=true∨X.env.scope.names.lookup x=some .local:=by first|exact .inl rfl|exact .inr rfl|assumption):PG X (.Name x pos) (Fx i):=by intro Dg s R H v u Q I r h;exact wpAny_assign_Name (qS3 I a hi b r (λd I'=>⟨_,H,I',h⟩) c)
def gNil:TGs:=λvs R H Q=>vs=[]/\Q R H
def gCons(t:TG)(u:TGs):TGs:=λvs R H Q=>∃v r,vs=v::r/\t v R H λR' H'=>u r R' H' Q
theorem qaz4:PGs X [] gNil:=by intro Dg s R H a b Q I r h;obtain⟨e,h⟩:=h;subst e;cases r;exact assignInOrder_nil ⟨R,H,I,h⟩
theorem qK4(h1:PG X e t)(h2:PGs X es u)(a:(K4 (e::es) X.env).map (·.2)=assign e X.env::(K4 es X.env).map (·.2):=by rfl):PGs X (e::es) (gCons t u):=by intro Dg s R H g i Q I r h;obtain⟨v,j,b,h⟩:=h;subst b;cases r with|cons r c=>rw[a];exact assignInOrder_cons (thn (h1 Dg s R H _ _ _ I r h) λ_ d ⟨σ1,H1,I1,f⟩=>(h2 Dg d σ1 H1 _ _ Q I1 c f))
def gTup(K:Nx)(n:Nat)(t:TGs):TG:=λv R H Q=>∃a xs,v=.ref a/\SqT K H a xs/\xs.length=n/\t xs R H Q
theorem qaX4(g:X.calm=true)(h:PGs X es t)(i:(K4 es X.env).length=n:=by rfl)(c:(K4 es X.env).findIdx? (·.1)=none:=by rfl):PG X (.Tuple es k pos) (gTup X.K n t):=by intro Dg s R H v u Q I r d;obtain⟨a,j,l,m,p,d⟩:=d;subst l;cases r;obtain⟨q,f,w,y⟩:=I.tuple m;exact assign_Tuple_tuple (I.ok.hd g) w (by simp[i,<-p,f.length]) c λz x=>(h Dg _ R H j _ Q (I.kept λb o e=>x b o (zAs (zAe e)) e) (by simpa using f) d)
def gSub(to a:TE)(t:Jb):TG:=λv R H Q=>to R H λo H1=>a R H1 λi H2=>t o i v H2 λH3=>Q R H3
theorem qaX5{o i:Lb}{to a:TE}{t:Jb}(b:PE X o to)(hi:PE X i a)(c:PSet X t)(d:∀v,assign (.Subscript o i pos) X.env v=(do
 let ov<-holding [v] (eval o X.env)
 let iv<-holding [v,ov] (eval i X.env)
 standAt pos
 holding [v,ov,iv] (setItem ov iv v)
 release [v,ov,iv] []):=by intro _;rfl):PG X (.Subscript o i pos) (gSub to a t):=by intro Dg s R H v u Q I r h;rw[d];exact E' (Ko (thn (b Dg s R H _ I h) λov e ⟨x,H1,I1,f,g⟩=>(E' (Ko (thn (hi Dg e R H1 _ I1 g) λiv j ⟨y,H2,I2,k,q2⟩=>(E' (wpAny_standAt (E' (Ko (thn (c Dg j R H2 x y v ov iv u _ I2 f k r q2) λ_ m ⟨H3,I3,l⟩=>(wpAny_release ⟨R,H3,I3,l⟩)))))))))))
def Ia(te:TE)(g:TG):TS:=λD R H=>te R H λx H1=>g x R H1 D.nx
theorem qaO4(b:PE X e te)(c:PG X tg g)(d:swapsWithSole [tg] e pos.line X.env=pure false:=by rfl)(f:swappedStores [tg] e X.env=pure none:=by rfl)(h1:(K4 [tg] X.env).map (·.2)=[assign tg X.env]:=by rfl):PS X (.Assign [tg] e pos) (Ia te g):=by intro Dg s R H D I h;refine wpAny_Assign_stores (thn (b Dg s R H _ I h) λv i a=>?_) d f;obtain⟨x,H1,I1,j,k⟩:=a;rw[h1];exact thn (c Dg i R H1 x v _ I1 j k) λ_ l q=>q
theorem qaE7(a:X.N.Nodup)(hi:X.N[i]?=some x)(b:Loc X.env.scope x)(c:PE X e te)(d:swapsWith e (some (.Name x pos')) pos.line X.env=pure false:=by rfl)(f:X.fn x=true∨X.env.scope.names.lookup x=some .local:=by first|exact .inl rfl|exact .inr rfl|assumption):PS X (.Assign [.Name x pos'] e pos) (Ia te (Fx i)):=by intro Dg s R H D I h;exact wpAny_Assign_Name (thn (c Dg s R H _ I h) λv k ⟨y,H1,I1,g,j⟩=>(qS3 I1 a hi b g (λl I2=>⟨_,H1,I2,j⟩) f)) d
def tAugS(to b te:TE)(tget:V->V->Hp->VK->Prop)(a:TIp)(tset:Jb):TS:=λD R H=>to R H λo H1=>b R H1 λi H2=>tget o i H2 λx H3=>te R H3 λy H4=>a x y H4 λz H5=>tset o i z H5 λH6=>D.nx R H6
def PGet(X:Cx)(t:V->V->Hp->VK->Prop):Prop:=∀(Dg:List (γ×Obj))(s:δ)(R:St)(H:Hp)(o i:V)(ov iv:V')(Q:VK),Ox X Dg R H s->Ou o ov->Ou i iv->t o i H Q->K6 (K7 X.prog X.w) X.A (getItem ov iv) (EP X Dg R Q) X.xe s
theorem qaO3{i:Lb}{op:Operator}(n:PE X o to)(hi:PE X i g)(p:PGet X tget)(q:PE X e te)(r:PIp X op d)(t:PSet X tset)(u:∀b c a,augStore i b c a=(do holding [a,b,c] (setItem b c a);release [a,b,c] [];pure .next):=by intros;rfl):PS X (.AugAssign (.Subscript o i tpos) op e pos) (tAugS to g te tget d tset):=by intro Dg s R H D I h;exact wpAny_AugAssign_SubscriptAny (thn (n Dg s R H _ I h) λb w ⟨j,H1,I1,k,x⟩=>(thn (hi Dg w R H1 _ I1 x) λc y ⟨l,H2,I2,m,q2⟩=>(thn (p Dg y R H2 j l b c _ I2 k m q2) λf z ⟨A,H3,I3,B,C⟩=>(thn (q Dg z R H3 _ I3 C) λv E ⟨F,H4,I4,G,J⟩=>(thn (r Dg E R H4 A F f v _ I4 B G J) λa K ⟨L,H5,I5,M,N⟩=>(thn (t Dg K R H5 j l L b c a _ I5 k m M N) λ_ P ⟨H6,I6,O⟩=>⟨R,H6,I6,O⟩)))))) u
def ipI(f:Int->Int->Int):TIp:=λx y H Q=>∃i j,x=.int i/\y=.int j/\Q (.int (f i j)) H
theorem qbb2:PIp X .Add (ipI λi j=>i+j):=by intro Dg s R H x y v u Q I a b h;obtain⟨i,j,c,e2,q⟩:=h;subst c;subst e2;obtain⟨t,rfl⟩:=a;obtain⟨d,rfl⟩:=b;exact iadd_int ⟨.int _,H,I.tok _,⟨_,rfl⟩,q⟩
end
section
variable{X:Cx}{B:Pos}
def qaW5(c:TT)(tb:TS):TS:=λD z H=>∃W:Nat->St->Hp->Prop,(∃m,W m z H)/\∀m z H,W m z H->c z H λb H1=>if b=true then ∃N:St->Hp->Prop,(∀z' H',N z' H'->∃a,a<m/\W a z' H')/\tb {D with nx:=N,ct:=N,bk:=D.nx} z H1 else D.nx z H1
theorem qaE6(k:PassesOwn (K7 X.prog X.w) X.A X.env X.xe)(m:PT X c tc)(o:PSs X body tb):PS X (.While c body [] B) (qaW5 tc tb):=by intro Dg s z H D I h;obtain⟨W,⟨p,q⟩,turn⟩:=h;refine wpAny_While (codeAny_whileLoop (λn r=>∃z' H',Ox X Dg z' H' r/\W n z' H') ?_ p ⟨z,H,I,q⟩);rintro n t ⟨σ1,H1,I1,u⟩;refine Ky k (thn (m Dg t σ1 H1 _ I1 (turn n σ1 H1 u)) λb x d=>?_);obtain⟨H2,I2,q2⟩:=d;cases b with|true=>(obtain⟨N,l,q2⟩:=q2;rw[if_pos rfl];refine Ky k (thn (o Dg x σ1 H2 _ I2 q2) λf y a=>?_);cases f with|next=>obtain⟨σ3,H3,I3,e⟩:=a;obtain⟨g,i,j⟩:=l σ3 H3 e;exact⟨g,i,σ3,H3,I3,j⟩|cont=>obtain⟨σ3,H3,I3,e⟩:=a;obtain⟨g,i,j⟩:=l σ3 H3 e;exact⟨g,i,σ3,H3,I3,j⟩|brk=>exact a|ret v=>exact a)|false=>rw[if_neg zAt];exact wpAny_execs_nil ⟨σ1,H2,I2,q2⟩
end
structure It where
 go:Nat->Hp->Prop
 yld:Nat->Hp->V->Hp->Prop
 stop:Nat->Hp->Prop
def Ge(X:Cx)(Dg:List (γ×Obj))(H:Hp)(b:γ):Prop:=H b=none/\b≠X.env.locals/\b∉X.fs/\(b∈X.ex∨X.s₀.heap.objs.size<=b)/\(∀x c,X.env.cells.lookup x=some c->c≠b)/\∀p∈X.pn++Dg,p.1≠b
theorem Ox.fpOk(I:Ox X Dg g H s)(a:s.heap.objs.size<=b)(d:H' b=none):Ge X Dg H' b:=by refine⟨d,Nat.ne_of_gt (zAh I.lt a),I.nofs a,.inr (zAi I.sz a),λx c e z=>?_,λp f z=>?_⟩;{obtain⟨v,q⟩:=I.cell x c e;exact absurd (zAh q.lt (by rw[z];exact a)) (zC3 _)};exact absurd (zAh (zAe (I.pin p f).1) (by rw[z];exact a)) (zC3 _)
structure Jc(P:K8)(w:La)(K:Nx)(tg:Lb)(J:It)(fp:List γ)(it:γ)(tn:Nat->Heap->Prop):Prop where
 mem:it∈fp
 obj:∀i h,tn i h->∀b∈fp,∃o,h.get? b=some o/\∀v,o.data≠.cell v
 keep:∀i h h',tn i h->(∀b∈fp,∀o,h.get? b=some o->h'.get? b=some o)->tn i h'
 item:∀(X:Cx),X.prog=P->X.w=w->X.K=K->X.calm=true->∀(i:Nat)(Dg:List (γ×Obj))(s:δ)(a:St)(H:Hp)(E:V'->δ->Prop),Ox X Dg a H s->(∀b∈fp,Ge X Dg H b)->tn i s.heap->J.go i H->K6 (K7 P w) X.A (pyNext (.ref it)) (λr s1=>∃u,r=some u/\K6 (K7 P w) X.A (letOwnedTupleGo tg (.ref it) u) (λ_ s2=>∃x H',Ox X Dg a H' s2/\Ou x u/\J.yld i H x H'/\tn (i+1) s2.heap/\∀b∈fp,H' b=none) E s1) E s
 done:∀(X:Cx),X.prog=P->X.w=w->X.K=K->X.calm=true->∀(i:Nat)(Dg:List (γ×Obj))(s:δ)(a:St)(H:Hp)(E:V'->δ->Prop),Ox X Dg a H s->(∀b∈fp,Ge X Dg H b)->tn i s.heap->J.stop i H->K6 (K7 P w) X.A (pyNext (.ref it)) (λr s1=>r=none/\Ox X Dg a H s1) E s
 self:∀(A:K9)(i:Nat)(s:δ)(Q:V'->δ->Prop)(E:V'->δ->Prop),tn i s.heap->Q (.ref it) s->K6 (K7 P w) A (pyIter (.ref it)) Q E s
abbrev TI:=St->Hp->(It->Hp->Prop)->Prop
def PIE(X:Cx)(Dg:List (γ×Obj))(c:St)(tg:Lb)(R:It->Hp->Prop)(a:V')(s2:δ):Prop:=∃(it:γ)(fp:List γ)(tn:Nat->Heap->Prop)(J:It)(H':Hp),a=.ref it/\Ox X Dg c H' s2/\Jc X.prog X.w X.K tg J fp it tn/\tn 0 s2.heap/\(∀b∈fp,Ge X Dg H' b)/\R J H'
def PI(X:Cx)(tg iter:Lb)(wi:TI):Prop:=∀(Dg:List (γ×Obj))(s:δ)(b:St)(H:Hp)(R:It->Hp->Prop),Ox X Dg b H s->wi b H R->K6 (K7 X.prog X.w) X.A (eval iter X.env) (λv a=>K6 (K7 X.prog X.w) X.A (pyIter v) (PIE X Dg b tg R) X.xe a) X.xe s
theorem go_of{n:String}(b:s.heap.get? it=some o)(c:o.cls=.type n)(d:o.data=.fields vs)(e:["enumerate", "zip", "dict_itemiterator", "dict_reverseitemiterator", "odict_iterator", "itertools.zip_longest", "itertools.pairwise"].contains n=false)(a:Q () s):K6 M A (letOwnedTupleGo tg (.ref it) u) Q E s:=by
 unfold letOwnedTupleGo;cases tg<;>first
  |exact G' a
  |(cases u<;>first
   |exact G' a
   |(refine E' (wpAny_load b ?_);rw[c,d];show K6 M A (if (["enumerate", "zip", "dict_itemiterator", "dict_reverseitemiterator", "odict_iterator", "itertools.zip_longest", "itertools.pairwise"].contains n&&vs[0]?==some (rawInt _))=true then _ else _) Q E s;rw[if_neg (by intro h;rw[e,Bool.false_and] at h;cases h)];exact G' a))
noncomputable def Itl(K:Nx)(a:γ):It:=⟨λi H=>∃xs x,SqL K H a xs/\xs[i]?=some x,λi H x H'=>H'=H/\∀xs,SqL K H a xs->xs[i]?=some x,λi H=>∃xs,SqL K H a xs/\xs.length<=i⟩
noncomputable def Itr(lo:Int)(n:Nat):It:=⟨λi _=>i<n,λi H x H'=>H'=H/\x=.int (lo+i),λi _=>n<=i⟩
theorem qar3{P:K8}{w:La}{K:Nx}{tg:Lb}(a it:γ):Jc P w K tg (Itl K a) [it] it (λi h=>h.IsListIter it a i) where
 mem:=by simp
 obj:=λi h f b g=>by
  have e:b=it:=by simpa using g
  subst e;obtain⟨o,e,c,d⟩:=f;exact⟨o,e,λv z=>by rw[d] at z;cases z⟩
 keep:=λi h l f k=>f.at λo e=>k it (by simp) o e
 item:=by
  intro X q r t J i Dg s R H E I m f y;subst q r t;obtain⟨L,x,n,A⟩:=y;obtain⟨B,C,p,M⟩:=I.list n;obtain⟨u,N,O⟩:=C.get A;obtain⟨D,f1,f2,f3,F,G⟩:=m it (by simp);refine wpAny_pyNext_list_item f p.isList (x:=u) (by simpa using N) λl j Q=>?_
  have I1:Ox X Dg R H {s with heap:=l}:=I.turned (t':=s.toks) (λb o g e=>(Q.2 b g).trans e) D f1 f3 F G;obtain⟨o,e,c,d⟩:=id j;exact⟨u,rfl,go_of (s:={s with heap:=l}) e c d ∅ ⟨x,H,I1,O,⟨rfl,λU S=>by rw[I.list_inj S n];exact A⟩,j,λb g=>(m b g).1⟩⟩
 done:=by
  intro X q r t J i Dg s R H E I m f y;subst q r t;obtain⟨L,n,A⟩:=y;obtain⟨B,C,p,M⟩:=I.list n;obtain⟨D,f1,f2,f3,F,G⟩:=m it (by simp);have V:=C.length;exact wpAny_pyNext_list_end (I.ok.hd J) f p.isList (by simp;lia) λl T=>⟨rfl,I.turned (t':=s.toks) (λb o g e=>T b o g e) D f1 f3 F G⟩
 self:=λ_ _ _ _ _ f h=>wpAny_pyIter_listiter f h
theorem qag6{P:K8}{w:La}{K:Nx}{tg:Lb}(it:γ)(lo:Int)(n:Nat):Jc P w K tg (Itr lo n) [it] it (λi h=>IsRangeIter h it (lo+(i:Nat)*1) ((n:Int)-(i:Nat)) 1) where
 mem:=by simp
 obj:=λi h a b c=>by
   have e:b=it:=by simpa using c
   subst e;exact⟨_,a,λv z=>by
     cases (z)⟩
 keep:=λi h g a k=>k it (by simp) _ a
 item:=by
   intro X r u x j i Dg s D H E I f a l;subst r u x;obtain⟨m,f1,f2,f3,p,q⟩:=f it (by simp);have W:=Walks.range (prog:=X.prog) (w:=X.w) (I.ok.hd j) it lo 1 n;refine W.item i s _ _ l a λv g y A d B=>?_
   obtain⟨t,rfl⟩:=A;have I1:Ox X Dg D H {s with heap:=g,toks:=y}:=I.turned (λb o c e=>B b o (by simpa using c) e) m f1 f3 p q;refine⟨_,rfl,go_of d rfl rfl ∅ ⟨.int (lo+i),H,I1,⟨t,?_⟩,⟨rfl,rfl⟩,d,λb c=>(f b c).1⟩⟩;rw[Int.mul_one]
 done:=by
   intro X r u x j i Dg s D H E I f a l;obtain⟨m,f1,f2,f3,p,q⟩:=f it (by simp);exact wpAny_pyNext_range_end (I.ok.hd j) a (by have:n<=i:=l;lia) λg C=>⟨rfl,I.turned (λb o c e=>C b o c e) m f1 f3 p q⟩
 self:=λ_ _ _ _ _ a h=>wpAny_pyIter_rangeiter a h
section
variable{X:Cx}{tg:Lb}
def Hc(K:Nx)(tl:TE):TI:=λσ H R=>tl σ H λx H1=>∃a,x=.ref a/\(∃xs,SqL K H1 a xs)/\R (Itl K a) H1
theorem qC6(f:PE X l tl):PI X tg l (Hc X.K tl):=by
 intro Dg s σ H R I h;refine thn (f Dg s σ H _ I h) λv c d=>?_;obtain⟨x,H1,I1,g,i⟩:=d;obtain⟨a,e,⟨n,j⟩,q⟩:=i;subst e;cases g;obtain⟨k,r,p,t⟩:=I1.list j;refine wpAny_pyIter_list p.isList ?_;refine⟨c.heap.objs.size,[c.heap.objs.size],_,_,H1,rfl,I1.kept λb o e=>zA4 _ e,qar3 a _,⟨_,zAy _ rfl,rfl,rfl⟩,λb m=>?_,q⟩;have e:b=c.heap.objs.size:=by simpa using m
 subst e;exact I1.fpOk (zA2 _) (I1.hok.fresh (zA2 _))
theorem qaE4{lo:Int}(I:Ox X Dg σ H s)(h1:-(2 ^ 62)<=lo)(h2:lo<2 ^ 62)(c:-(2 ^ 62)<=hi)(d:hi<2 ^ 62)(q:R (Itr lo (hi-lo).toNat) H):K6 (K7 X.prog X.w) X.A (pyIter (.ref s.heap.objs.size)) (PIE X Dg σ tg R) E {s with heap:=s.heap.push {cls:=.type "range",data:=.fields #[.int lo t,.int hi u,.int 1 v]},toks:=a}:=by
 refine wpAny_pyIter_range (IsRange.new ..) (small_one h1 h2 c d) ?_;have I1:Ox X Dg σ H {s with heap:=s.heap.push {cls:=.type "range",data:=.fields #[.int lo t,.int hi u,.int 1 v]},toks:=a}:=I.kept λb o e=>zA4 _ e;refine⟨(s.heap.push {cls:=.type "range",data:=.fields #[.int lo t,.int hi u,.int 1 v]}).objs.size,[(s.heap.push {cls:=.type "range",data:=.fields #[.int lo t,.int hi u,.int 1 v]}).objs.size],_,_,H,rfl,
  I1.kept λb o e=>zA4 _ e,qag6 _ lo (hi-lo).toNat,?_,λb f=>?_,q⟩
 .have g:lo+((0:Nat):Int)*1=lo:=by simp
  have e2:(((hi-lo).toNat:Nat):Int)-((0:Nat):Int)=Builtin.Range.rangeSize lo hi 1:=by rw[rangeSize_one];split<;>lia
  rw[g,e2];exact zAy _ rfl
 have e:b=(s.heap.push {cls:=.type "range",data:=.fields #[.int lo t,.int hi u,.int 1 v]}).objs.size:=by simpa using f
 subst e;exact I1.fpOk (zA2 _) (I1.hok.fresh (zA2 _))
def iRng1(ta:TA):TI:=λσ H R=>ta σ H λvs H1=>∃j:Int,vs=[.int j]/\-(2 ^ 62)<=j/\j<2 ^ 62/\R (Itr 0 j.toNat) H1
theorem qY5(d:Gl X "range")(hm:X.mg "range"=none)(f:PA X [a] ta)(g:J' [a] X.env=[(false,eval a X.env)]:=by rfl):PI X tg (.Call (.Name "range" p) [a] [] pos) (iRng1 ta):=by intro Dg s σ H R I h;refine Call_ (qan0 I d hm boot_range (PyProof.Rows.callWith_type1 (thn (f pos Dg s σ H _ I h) λl m b=>?_) g rfl));obtain⟨n,H1,I1,i,c⟩:=b;obtain⟨j,e,c,q2,q⟩:=c;subst e;cases i with|cons r k=>cases k;obtain⟨t,rfl⟩:=r;exact call_range_1 (qaE4 I1 ⋯ ⋯ c q2 (by simpa using q))
def tFor(wi:TI)(g:TG)(tb:TS):TS:=λD σ H=>wi σ H λJ H1=>∃W:Nat->Nat->St->Hp->Prop,(∃m,W 0 m σ H1)/\∀i m σ H,W i m σ H->(J.stop i H/\D.nx σ H)∨(J.go i H/\∃N:St->Hp->Prop,(∀σ' H',N σ' H'->∃a,a<m/\W (i+1) a σ' H')/\∀x H',J.yld i H x H'->g x σ H' λσ2 H2=>tb {D with nx:=N,ct:=N,bk:=D.nx} σ2 H2)
noncomputable def Jd(fp:List γ)(h:Heap):List (γ×Obj):=fp.filterMap λb=>(h.get? b).map λo=>(b,o)
theorem qu5(a:b∈fp)(e:h.get? b=some o):(b,o)∈Jd fp h:=List.mem_filterMap.mpr ⟨b,a,by rw[e];rfl⟩
theorem qat9(a:p∈Jd fp h):p.1∈fp/\h.get? p.1=some p.2:=by obtain⟨b,c,e⟩:=List.mem_filterMap.mp a;cases q:h.get? b with|none=>rw[q] at e;cases e|some o=>rw[q] at e;have d:=Nv e;subst d;exact⟨c,q⟩
theorem Ox.pinned(I:Ox X Dg σ H s)(f:∀b∈fp,Ge X Dg H b)(g:∀b∈fp,∃o,s.heap.get? b=some o/\∀v,o.data≠.cell v):Ox X (Dg++Jd fp s.heap) σ H s:=I.pins_of λp h=>(zAb.mp h).elim (λz=>I.pin p (zAv _ z)) λz=>by
 obtain⟨a,e⟩:=qat9 z;obtain⟨i,f1,f2,_⟩:=f p.1 a;obtain⟨o,c,d⟩:=g p.1 a;rw[e] at c;cases c;exact⟨e,i,f1,f2,d⟩
theorem Ox.unpinned{pl:List (γ×Obj)}(I:Ox X (Dg++pl) σ H s):Ox X Dg σ H s:=I.pins_of λp a=>I.pin p (zAv _ (Mc _ a))
theorem qaE9(l:PassesOwn (K7 X.prog X.w) X.A X.env X.xe)(F:X.calm=true)(hi:PI X tg iter wi)(O:PG X tg g)(c:PSs X body tb)(P:∀x,Kn iter X.env x=pure x:=by intro _;rfl):PS X (.For tg iter body [] pos) (tFor wi g tb):=by
 intro Dg s σ H D I h;refine wpAny_For (thn (hi Dg s σ H _ I h) λv s1 Q=>thn Q λR s2 S=>?_) P;obtain⟨it,p,G,J,H2,e,I2,T,z,f2,W,⟨U,V⟩,turn⟩:=S;subst e;have stat:∀{H':Hp},(∀b∈p,H' b=none)->∀b∈p,Ge X Dg H' b:=λY b c=>⟨Y b c,(f2 b c).2⟩;refine codeAny_forLoop_any (λn K=>∃i σ' H',Ox X Dg σ' H' K/\G i K.heap/\(∀b∈p,H' b=none)/\W i n σ' H') ?_ U ⟨0,σ,H2,I2,z,λb c=>(f2 b c).1,V⟩;rintro n L ⟨i,σ3,H3,I3,q,t,Z⟩;rcases turn i n σ3 H3 Z with⟨stop,qn⟩|⟨go,N,hN,step⟩;{refine Ky l (thn (T.done X rfl rfl rfl F i Dg L σ3 H3 X.xe I3 (stat t) q stop) λr s4 a=>?_);obtain⟨B,I4⟩:=a;subst B;exact wpAny_execs_nil ⟨σ3,H3,I4,qn⟩};refine Ky l (thn (T.item X rfl rfl rfl F i Dg L σ3 H3 X.xe I3 (stat t) q go) λr s4 a=>?_);obtain⟨u,B,h4⟩:=a;subst B;refine Ky l (thn h4 λ_ M a=>?_);obtain⟨x,H5,I5,r5,y5,k,C⟩:=a;refine Ky l (thn (O _ M σ3 H5 x u _ (I5.pinned (stat C) (T.obj _ _ k)) r5 (step x H5 y5)) λ_ s6 a=>?_);obtain⟨σ6,H6,I6,q6⟩:=a;refine Ky l (thn (c _ s6 σ6 H6 _ I6 q6) λf E j=>?_);have again:∀{σ7:St}{H7:Hp},Ox X (Dg++Jd p M.heap) σ7 H7 E->N σ7 H7->∃m,m<n/\∃i σ' H',Ox X Dg σ' H' E/\G i E.heap/\(∀b∈p,H' b=none)/\W i m σ' H':=λ{σ7 H7} I7 y=>by obtain⟨m',hm,w7⟩:=hN σ7 H7 y;refine⟨m',hm,i+1,σ7,H7,I7.unpinned,T.keep _ _ _ k λb c o e=>(I7.pin (b,o) (zAv _ (zAv _ (qu5 c e)))).1,λb c=>?_,w7⟩;obtain⟨o,e,d⟩:=T.obj _ _ k b c;exact(I7.pin (b,o) (zAv _ (zAv _ (qu5 c e)))).2.1
 cases f with|next=>obtain⟨σ7,H7,I7,y⟩:=j;exact again I7 y|cont=>obtain⟨σ7,H7,I7,y⟩:=j;exact again I7 y|brk=>obtain⟨σ7,H7,I7,j⟩:=j;exact⟨σ7,H7,I7.unpinned,j⟩|ret v=>obtain⟨x7,σ7,H7,I7,r7,j⟩:=j;exact⟨x7,σ7,H7,I7.unpinned,r7,j⟩
end
theorem qap0{K:Nx}{g:TG}{tb:TS}{D:Ee}{n:St}(Pv:Nat->St->Hp->Prop)(d:Pv 0 n H)(f:∀i n H,i<=xs.length->Pv i n H->SqL K H a xs)(h:∀i x n H,xs[i]?=some x->Pv i n H->g x n H λσ2 H2=>tb {D with nx:=Pv (i+1),ct:=Pv (i+1),bk:=D.nx} σ2 H2)(j:∀n H,Pv xs.length n H->D.nx n H):∃W:Nat->Nat->St->Hp->Prop,(∃m,W 0 m n H)/\∀i m n H,W i m n H->((Itl K a).stop i H/\D.nx n H)∨((Itl K a).go i H/\∃N:St->Hp->Prop,(∀n' H',N n' H'->∃c,c<m/\W (i+1) c n' H')/\∀x H',(Itl K a).yld i H x H'->g x n H' λσ2 H2=>tb {D with nx:=N,ct:=N,bk:=D.nx} σ2 H2):=by refine⟨λi m n H=>m=xs.length-i/\i<=xs.length/\Pv i n H,⟨xs.length,by simp,zBf _,d⟩,?_⟩;rintro i m n H ⟨rfl,k,p⟩;have q:=f i n H k p;by_cases b:i<xs.length;{refine .inr ⟨⟨xs,xs[i],q,by simp[b]⟩,Pv (i+1),λn' H' l=>⟨xs.length-(i+1),⋯,rfl,b,l⟩,λx H' y=>?_⟩;obtain⟨e,y⟩:=y;subst e;exact h i x n _ (y xs q) p};have e:i=xs.length:=⋯;subst e;exact .inl ⟨⟨xs,q,zA2 _⟩,j n H p⟩
theorem qav3{lo:Int}{g:TG}{tb:TS}{D:Ee}(Pv:Nat->St->Hp->Prop)(c:Pv 0 k H)(d:∀i k H,i<n->Pv i k H->g (.int (lo+i)) k H λσ2 H2=>tb {D with nx:=Pv (i+1),ct:=Pv (i+1),bk:=D.nx} σ2 H2)(f:∀k H,Pv n k H->D.nx k H):∃W:Nat->Nat->St->Hp->Prop,(∃m,W 0 m k H)/\∀i m k H,W i m k H->((Itr lo n).stop i H/\D.nx k H)∨((Itr lo n).go i H/\∃N:St->Hp->Prop,(∀k' H',N k' H'->∃b,b<m/\W (i+1) b k' H')/\∀x H',(Itr lo n).yld i H x H'->g x k H' λσ2 H2=>tb {D with nx:=N,ct:=N,bk:=D.nx} σ2 H2):=by refine⟨λi m k H=>m=n-i/\i<=n/\Pv i k H,⟨n,by simp,zBf _,c⟩,?_⟩;rintro i m k H ⟨rfl,j,p⟩;by_cases a:i<n;{refine .inr ⟨a,Pv (i+1),λk' H' h=>⟨n-(i+1),⋯,rfl,a,h⟩,λx H' y=>?_⟩;obtain⟨e,y⟩:=y;subst e y;exact d i k _ a p};have e:i=n:=⋯;subst e;exact .inl ⟨zA2 _,f k H p⟩
abbrev R2:=V->V->Hp->VK->Prop
def OpR(X:Cx)(f:V'->V'->Sem V')(r:R2):Prop:=∀(Dg:List (γ×Obj))(s:δ)(a:St)(H:Hp)(x y:V)(v u:V')(Q:VK),Ox X Dg a H s->Ou x v->Ou y u->r x y H Q->K6 (K7 X.prog X.w) X.A (f v u) (EP X Dg a Q) X.xe s
def UnR(X:Cx)(f:V'->Sem V')(r:V->Hp->VK->Prop):Prop:=∀(Dg:List (γ×Obj))(s:δ)(a:St)(H:Hp)(x:V)(v:V')(Q:VK),Ox X Dg a H s->Ou x v->r x H Q->K6 (K7 X.prog X.w) X.A (f v) (EP X Dg a Q) X.xe s
def CallR(X:Cx)(f:V')(r:List V->Hp->VK->Prop):Prop:=∀(Dg:List (γ×Obj))(s:δ)(a:St)(H:Hp)(xs:List V)(us:List V')(Q:VK),Ox X Dg a H s->Ov xs us->r xs H Q->K6 (K7 X.prog X.w) X.A (call f us) (EP X Dg a Q) X.xe s
def tOp(r:R2)(ta tb:TE):TE:=λa H Q=>ta a H λx H1=>tb a H1 λy H2=>r x y H2 Q
def tUn(r:V->Hp->VK->Prop)(ta:TE):TE:=λa H Q=>ta a H λx H1=>r x H1 Q
def rI(C:Int->Int->Prop)(g:Int->Int->V):R2:=λx y H Q=>∃i j,x=.int i/\y=.int j/\C i j/\Q (g i j) H
def rI0(g:Int->Int->V):R2:=λx y H Q=>∃i j,x=.int i/\y=.int j/\Q (g i j) H
def rU(g:Int->V):V->Hp->VK->Prop:=λx H Q=>∃i,x=.int i/\Q (g i) H
section
variable{X:Cx}{a b:Lb}{m o:TE}{n:Pos}
theorem binT(c:PE X a m)(d:PE X b o){R:V->V->Hp->Prop}(I:Ox X Dg l H s)(h:m l H λx H1=>o l H1 λy H2=>R x y H2){f:V'->V'->Sem V'}(e:∀v u s2 x y H2,Ox X Dg l H2 s2->Ou x v->Ou y u->R x y H2->K6 (K7 X.prog X.w) X.A (f v u) Q X.xe s2):K6 (K7 X.prog X.w) X.A (eval a X.env) (λv s₁=>K6 (K7 X.prog X.w) X.A (eval b X.env) (λu s₂=>K6 (K7 X.prog X.w) X.A (f v u) Q X.xe s₂) X.xe s₁) X.xe s:=by exact thn (c Dg s l H _ I h) λv g ⟨x,H1,I1,i,j⟩=>(thn (d Dg g l H1 _ I1 j) λu s2 ⟨y,H2,I2,k,q2⟩=>(e v u s2 x y H2 I2 i k q2))
theorem pe_op{op:Operator}(c:OpR X (K5 op) r)(d:PE X a m)(e:PE X b o):PE X (.BinOp a op b n) (tOp r m o):=by intro Dg s l H Q I h;exact wpAny_BinOp (binT d e I h λv u f x y H2 I2 g i q=>c Dg f l H2 x y v u Q I2 g i q)
theorem pe_un{op:UnaryOp}(b:UnR X (unaryOp op) r)(c:PE X a m):PE X (.UnaryOp op a n) (tUn r m):=by intro Dg s l H Q I h;exact UnaryOp_ (thn (c Dg s l H _ I h) λv d ⟨x,H1,I1,e,f⟩=>b Dg d l H1 x v Q I1 e f)
theorem opI{g:Int->Int->Int}(rule:∀(i j:Int)(t u:Tok)(s:δ)(Q:V'->δ->Prop)(E:V'->δ->Prop),C i j->Q (.int (g i j) s.toks) {s with toks:=s.toks+1}->K6 (K7 X.prog X.w) X.A (f (.int i t) (.int j u)) Q E s):OpR X f (rI C λi j=>.int (g i j)):=by intro Dg s l H x y v u Q I a b h;obtain⟨i,j,rfl,rfl,c,q⟩:=h;obtain⟨t,rfl⟩:=a;obtain⟨d,rfl⟩:=b;exact rule i j t d s _ _ c ⟨.int (g i j),H,I.tok _,⟨_,rfl⟩,q⟩
theorem opI0{g:Int->Int->Int}(rule:∀(i j:Int)(t u:Tok)(s:δ)(Q:V'->δ->Prop)(E:V'->δ->Prop),Q (.int (g i j) s.toks) {s with toks:=s.toks+1}->K6 (K7 X.prog X.w) X.A (f (.int i t) (.int j u)) Q E s):OpR X f (rI0 λi j=>.int (g i j)):=by intro Dg s l H x y v u Q I a b h;obtain⟨i,j,rfl,rfl,q⟩:=h;obtain⟨t,rfl⟩:=a;obtain⟨c,rfl⟩:=b;exact rule i j t c s _ _ ⟨.int (g i j),H,I.tok _,⟨_,rfl⟩,q⟩
theorem opB0{g:Int->Int->Bool}(rule:∀(i j:Int)(t u:Tok)(s:δ)(Q:V'->δ->Prop)(E:V'->δ->Prop),Q (.bool (g i j)) s->K6 (K7 X.prog X.w) X.A (f (.int i t) (.int j u)) Q E s):OpR X f (rI0 λi j=>.bl (g i j)):=by intro Dg s l H x y v u Q I a b h;obtain⟨i,j,rfl,rfl,q⟩:=h;obtain⟨t,rfl⟩:=a;obtain⟨c,rfl⟩:=b;exact rule i j t c s _ _ ⟨.bl (g i j),H,I,rfl,q⟩
def CPow(i j:Int):Prop:=0<=j/\j<=1000000/\i.natAbs<2 ^ 64
def CMul(i j:Int):Prop:=(-(2 ^ 64)<i/\i<2 ^ 64)∨(-(2 ^ 64)<j/\j<2 ^ 64)
theorem CMul.ok{i j:Int}(h:CMul i j):IntMulOk i j:=by rcases h with⟨h1,h2⟩|⟨h1,h2⟩;{exact .of_left (intBits_le_64 h1 h2)};exact .of_right (intBits_le_64 h1 h2)
theorem qaZ2:OpR X (K5 .Add) (rI0 λi j=>.int (i+j)):=opI0 λ_ _ _ _ _ _ _ q=>add_int q
theorem qK7:OpR X (K5 .Sub) (rI0 λi j=>.int (i-j)):=opI0 λ_ _ _ _ _ _ _ q=>sub_int q
theorem qaY6:OpR X (K5 .Mult) (rI CMul λi j=>.int (i*j)):=opI λ_ _ _ _ _ _ _ a q=>mul_int q a.ok
theorem qo3:OpR X (K5 .Mod) (rI (λ_ j=>0<j) λi j=>.int (i%j)):=opI λi j _ _ _ _ _ a q=>by
 have b:=a;exact mod_int' ⋯ (by rw[Int.fmod_eq_emod_of_nonneg i ⋯];exact q)
theorem qaY4:OpR X (K5 .Pow) (rI CPow λi j=>.int (i ^ j.toNat)):=opI λ_ _ _ _ _ _ _ a q=>pow_int_small a.1 a.2.1 a.2.2 q
theorem unI{g:Int->Int}(rule:∀(i:Int)(t:Tok)(s:δ)(Q:V'->δ->Prop)(E:V'->δ->Prop),Q (.int (g i) s.toks) {s with toks:=s.toks+1}->K6 (K7 X.prog X.w) X.A (f (.int i t)) Q E s):UnR X f (rU λi=>.int (g i)):=by intro Dg s l H x v Q I a h;obtain⟨i,rfl,q⟩:=h;obtain⟨t,rfl⟩:=a;exact rule i t s _ _ ⟨.int (g i),H,I.tok _,⟨_,rfl⟩,q⟩
theorem qaW4:UnR X (unaryOp .USub) (rU λi=>.int (-i)):=unI λ_ _ _ _ _ q=>neg_int q
end
section
variable{X:Cx}{a b c:Lb}{M L O:TE}{N:Pos}
theorem qaU2{K:St}{a:Bool}(I:Ox X Dg K H s)(q:Q (.bl k) H)(e:k=a):EP X Dg K Q (.bool a) s:=by subst e;exact⟨.bl k,H,I,rfl,q⟩
theorem Ef:OpR X (Km .Lt) (rI0 λi j=>.bl (decide (i<j))):=opB0 λ_ _ _ _ _ _ _ q=>lt_int q
theorem Hd:OpR X (Km .LtE) (rI0 λi j=>.bl (decide (i<=j))):=opB0 λ_ _ _ _ _ _ _ q=>le_int q
theorem Bk:OpR X (Km .Gt) (rI0 λi j=>.bl (decide (j<i))):=opB0 λ_ _ _ _ _ _ _ q=>gt_int q
theorem He:OpR X (Km .GtE) (rI0 λi j=>.bl (decide (j<=i))):=opB0 λ_ _ _ _ _ _ _ q=>ge_int q
theorem qaY7:OpR X (Km .Is) (λx y H Q=>y=.non/\Q (.bl (decide (x=.non))) H):=by
 intro Dg s K H x y v u Q I a b h;obtain⟨rfl,q⟩:=h;cases b;refine is_none_gen (qaU2 I q ?_);cases x<;>first
  |(cases a;rfl)
  |(obtain⟨t,rfl⟩:=a;rfl)
theorem qaQ2:OpR X (Km .IsNot) (λx y H Q=>y=.non/\Q (.bl (!decide (x=.non))) H):=by
 intro Dg s K H x y v u Q I a b h;obtain⟨rfl,q⟩:=h;cases b;refine isnot_none_gen (qaU2 I q ?_);cases x<;>first
  |(cases a;rfl)
  |(obtain⟨t,rfl⟩:=a;rfl)
theorem OpR.or{a:R2}(h:OpR X f r)(h':OpR X f a):OpR X f (λx y H Q=>r x y H Q∨a x y H Q):=by intro Dg s K H x y v u Q I b c q;rcases q with q|q;{exact h Dg s K H x y v u Q I b c q};exact h' Dg s K H x y v u Q I b c q
theorem qa9(b:Lb)(h:op≠.In:=by decide)(h2:op≠.NotIn:=by decide):behindInMarks op b=false:=by
 have a:(op==CmpOp.In)=false:=by cases op<;>first|rfl|exact absurd rfl h
 have e2:(op==CmpOp.NotIn)=false:=by cases op<;>first|rfl|exact absurd rfl h2
 cases b<;>simp[behindInMarks,a,e2]
theorem qaP4(c:OpR X (Km op) r)(d:PE X a M)(e:PE X b L)(hm:behindInMarks op b=false):PE X (.Compare a [op] [b] N) (tOp r M L):=by intro Dg s K H Q I h;exact wpAny_Compare1 (binT d e I h λv u f x y H2 I2 g i q=>c Dg f K H2 x y v u Q I2 g i q) hm
def tTest(t:TE):TT:=λK H Q=>t K H λx H'=>∃k,x=.bl k/\Q k H'
theorem qaz1(d:OpR X (Km op) r)(f:PE X a M)(g:PE X b L)(hm:behindInMarks op b=false):PT X (.Compare a [op] [b] N) (tTest (tOp r M L)):=by
 intro Dg s K H Q I h;refine wpAny_isTrue_Compare1 (thn (f Dg s K H _ I h) λv i ⟨x,H1,I1,j,l⟩=>thn (g Dg i K H1 _ I1 l) λu m ⟨y,H2,I2,n,q2⟩=>
  thn (d Dg m K H2 x y v u _ I2 j n q2) λc q ⟨z,H3,I3,o,k,e,p⟩=>?_) hm
 subst e;cases o;exact Kr ⟨H3,I3,p⟩
def qaM0(r a:R2)(M L O:TE):TE:=λK H Q=>M K H λx H1=>L K H1 λy H2=>r x y H2 λz H3=>∃k,z=.bl k/\(if k=true then O K H3 λb H4=>a y b H4 Q else Q (.bl false) H3)
theorem qak4{i:R2}(m:OpR X (Km op) r)(g:OpR X (Km f) i)(n:PE X a M)(o:PE X b L)(p:PE X c O)(hm:lastMarks [op,f] [b,c]=false:=by with_unfolding_all rfl):PE X (.Compare a [op,f] [b,c] N) (qaM0 r i M L O):=by
 intro Dg s K H Q I h;refine Compare_chain (thn (n Dg s K H _ I h) λv q ⟨x,H1,I1,t,w⟩=>chain_link (thn (o Dg q K H1 _ I1 w) λu A ⟨y,H2,I2,j,q2⟩=>
  thn (m Dg A K H2 x y v u _ I2 t j q2) λd B ⟨z,H3,I3,C,k,e,l⟩=>?_)) hm
 subst e;cases C;refine Kr ?_;cases k with|false=>exact ite_ff ⟨.bl false,H3,I3,rfl,l⟩|true=>exact ite_tt (chain_last (thn (p Dg B K H3 _ I3 l) λD E ⟨F,H4,I4,G,J⟩=>g Dg E K H4 y F u D Q I4 j G J))
theorem qV9:(Kl:Nat)<2 ^ 63:=by rw[Kt];decide
theorem qal2:OpR X (K5 .Add) (λx y H Q=>∃i j,x=.str i/\y=.str j/\i.length+j.length<=Kl/\Q (.str (i++j)) H):=by intro Dg s K H x y v u Q I a b h;obtain⟨i,j,rfl,rfl,c,q⟩:=h;obtain⟨t,rfl⟩:=a;obtain⟨d,rfl⟩:=b;exact add_str (λd e=>⟨.str (i++j),H,I.tok _,⟨_,rfl⟩,q⟩) c
theorem By(r:Ov [x] us):∃u,us=[u]/\Ou x u:=by cases r with|cons a b=>cases b;exact⟨_,rfl,a⟩
theorem Je(r:Ov [x,y] us):∃u a,us=[u,a]/\Ou x u/\Ou y a:=by cases r with|cons b c=>cases c with|cons d e=>cases e;exact⟨_,_,rfl,b,d⟩
theorem qaK6:CallR X (.builtin "abs") (λxs H Q=>∃i,xs=[.int i]/\Q (.int (if i<0 then -i else i)) H):=by intro Dg s K H xs a Q I r h;obtain⟨i,rfl,q⟩:=h;obtain⟨u,rfl,t,rfl⟩:=By r;exact call_abs_int λu b=>⟨.int (if i<0 then -i else i),H,I.tok _,⟨_,rfl⟩,q⟩
theorem qab9(b:X.calm=true):CallR X (.builtin "max") (λxs H Q=>∃i j,xs=[.int i,.int j]/\Q (.int (if j>i then j else i)) H):=by intro Dg s K H xs c Q I r h;obtain⟨i,j,rfl,q⟩:=h;obtain⟨u,d,rfl,⟨t,rfl⟩,⟨e,rfl⟩⟩:=Je r;refine max_two_ints (I.ok.hd b) λf g k=>⟨_,H,I.kept k,?_,q⟩;by_cases a:j>i;{rw[if_pos a,if_pos a];exact⟨_,rfl⟩};rw[if_neg a,if_neg a];exact⟨_,rfl⟩
theorem qA0:CallR X (.type "int") (λxs H Q=>(∃i,xs=[.int i]/\Q (.int i) H)∨∃k,xs=[.bl k]/\Q (.int (if k then 1 else 0)) H):=by intro Dg s K H xs b Q I r h;rcases h with⟨i,rfl,q⟩|⟨k,rfl,q⟩;{obtain⟨u,rfl,t,rfl⟩:=By r;exact call_int_int ⟨.int i,H,I,⟨_,rfl⟩,q⟩};obtain⟨u,rfl,a⟩:=By r;cases a;exact call_int_bool ⟨.int (if k then 1 else 0),H,I.tok _,⟨_,rfl⟩,q⟩
end
structure ObjM(h:Heap)(x dx C:γ)(mA:Str->Option V'):Prop where
 obj:h.get? x=some (W.instObj C dx)
 ns:h.Ns1 dx mA
 ne:dx≠x
theorem qau4{h:Heap}(n:h.Ns1 dx mA):∃c,h.get? dx=some c/\∀name,W.lookIn name c=some (mA name):=by
 obtain⟨o,d,m,f,g,i,_,j⟩:=n;refine⟨o,f,λname=>?_⟩;have e:=j name;unfold nsFind findBy at e;rw[<-Array.find?_toList] at e;unfold W.lookIn;rw[g];dsimp only;split;{rename_i y q;rw[q] at e;exact congrArg some e};rename_i q;rw[q] at e;have a:d.toList.any (·.refKey)=false:=by rw[List.any_eq_false];intro y k;obtain⟨z,t,b⟩:=i y (Array.mem_toList_iff.mp k);simp[DictEntry.refKey,b]
 have l:¬d.toList.any (·.refKey)=true:=by rw[a];exact zAt
 rw[if_neg l];exact congrArg some e
theorem ObjM.look(I:ObjM h x dx C mA):∃a,W.InstAt h x (W.instObj C dx) C (some a)/\∀name,W.lookIn name a=some (mA name):=let ⟨a,ho,hl⟩:=qau4 I.ns
 ⟨a,⟨I.obj,rfl,rfl,ho⟩,hl⟩
section
variable{prog:K8}{w:La}{A:K9}{E:V'->δ->Prop}{s:δ}{K:Nx}{x F C f:γ}{H:Str->Option V'}{name:Str}{v:V'}
theorem qaT3(X:K.In s.heap)(I:ObjM s.heap x F C H)(b:W.plainGet K C name=true)(c:W.hasDictIn K C=true)(d:W.findIn K (.ref C) name=some none)(e:H name=some v)(a:W.handedIn v=true)(h:Q v {s with toks:=s.toks+1}):K6 (K7 prog w) A (getAttr (.ref x) name expr) Q E s:=by obtain⟨g,J,f⟩:=I.look;exact W.get_value X J (W.plainGet_of b).1 (W.findObj_own c d rfl (by rw[f,e])) a h
theorem qaI9(X:K.In s.heap)(I:ObjM s.heap x F C H)(a:W.plainGet K C name=true)(b:W.findIn K (.ref C) name=some (some (.ref f)))(c:W.isFn K (.ref f)=true)(d:H name=none)(h:Q (.ref f,[.ref x]) s):K6 (K7 prog w) A (getMethod (.ref x) name pl) Q E s:=by obtain⟨e,J,g⟩:=I.look;exact W.method_fn X J (W.plainGet_of a).1 (W.plainGet_of a).2 b (zBr.mp c) (by show (W.lookIn name e).map (·.isSome)=some false;rw[g,d];rfl) h
theorem qaM6(X:K.In s.heap)(I:ObjM s.heap x F C H)(j:W.findIn K (.ref C) "__setattr__"=some (some (.builtin "object.__setattr__")))(k:W.plainOver K C=true)(l:W.takerIn K C name=some none)(m:W.hasDictIn K C=true)(n:PySem.Within H ns)(hsz:ns.length<=Kl)(h:∀h',ObjM h' x F C (λy=>if y=name then some v else H y)->Heap.SameBut F s.heap h'->Q () {s with heap:=h',toks:=s.toks+2}):K6 (K7 prog w) A (setAttr (.ref x) name v) Q E s:=by obtain⟨u,J,z⟩:=I.look;refine W.set_plain X J j (W.osa_open (s:={s with toks:=s.toks+1}) (r:=none) X J k l λb=>?_);obtain⟨B,o,e⟩:=W.any_some m;have p:s.heap.get? x=some ⟨.ref C,some F,.plain,#[]⟩:=I.obj;refine E' (G' (E' (E' (wpAny_loadPart p (E' (W.Looks.here (s:={s with toks:=s.toks+1}) (W.looks_clsIn X o) ?_))))));rw[e];refine G' (a:=some F) (E' (G' (E' ?_)));refine wpAny_nsSet1 (s:={s with toks:=s.toks+1}) I.ns λh' c d=>?_;obtain⟨D,q,t,f,g,i⟩:=c.count (PySem.Within.cons name v n);refine E' (wpAny_lookBehind f (by rw[g];exact pastItsLine_dict (zAi i (by rw[zAq];lia))) ?_);exact G' (h _ ⟨(d.2 _ (Ne.symm I.ne)).trans I.obj,c,I.ne⟩ d)
theorem qaH7(X:K.In s.heap)(hm:W.makesIn K C=true)(hi:W.findIn K (.ref C) "__init__"=some (some (.ref f)))(a:W.typeIn K (.ref f)=some (.type "function"))(h:codeAny (K7 prog w) (A.under (.builtin "type.__call__" ⟨.ref C::vs,kw⟩)) (.call (.ref f) ⟨.ref (s.heap.objs.size+1)::vs,kw⟩) (W.InitBack (s.heap.objs.size+1) R)
 {s with heap:=(s.heap.push W.emptyDict).push (W.instObj C s.heap.objs.size)}):codeAny (K7 prog w) A (.call (.ref C) ⟨vs,kw⟩) R s:=by obtain⟨b,g,d,t,c⟩:=s;exact W.make_core (W.makes_of X hm) (W.looks_findIn X hi) (λself=>W.bind_fn X self a) (.inl rfl) h
end
noncomputable def Bz(f:Str)(v:V):List (Str×V)->List (Str×V)|[]=>[(f,v)]|(g,x)::r=>if g=f then (g,v)::r else (g,x)::Bz f v r
theorem qH6(f g:Str)(v:V):∀fs:List (Str×V),(Bz f v fs).lookup g=if g=f then some v else fs.lookup g|[]=>by show Lz g [(f,v)]=_;by_cases h:g=f;{have b:=zBr.mpr h;simp only[Lz,b,if_pos h]};simp only[Lz,(zBz.mpr h),if_neg h]|(k,x)::r=>by rw[show Bz f v ((k,x)::r)=(if k=f then (k,v)::r else (k,x)::Bz f v r) from rfl];by_cases a:k=f;{rw[if_pos a];by_cases h:g=k;{simp only[Lz,(zBr.mpr h),if_pos (h.trans a)]};simp only[Lz,(zBz.mpr h),if_neg (λe:g=f=>h (e.trans a.symm))]};rw[if_neg a];by_cases h:g=k;{simp only[Lz,(zBr.mpr h),if_neg (λe:g=f=>a (h.symm.trans e))]};simp only[Lz,(zBz.mpr h)];exact(qH6 f g v r)
theorem qM0(f:Str)(v:V):∀fs:List (Str×V),f∈(Bz f v fs).map (·.1)/\∀g,g∈fs.map (·.1)->g∈(Bz f v fs).map (·.1)|[]=>⟨by simp[Bz],λg h=>by simp at h⟩|(k,x)::r=>by obtain⟨b,c⟩:=qM0 f v r;rw[show Bz f v ((k,x)::r)=(if k=f then (k,v)::r else (k,x)::Bz f v r) from rfl];by_cases a:k=f;{rw[if_pos a];subst a;exact⟨by simp,λg h=>by simpa using h⟩};rw[if_neg a];refine⟨?_,λg h=>?_⟩;{rw[zAz];exact zA6 _ b};rw[zAz] at h ⊢;rcases zAl.mp h with e|e;{exact zAl.mpr (.inl e)};exact zA6 _ (c g e)
theorem qH8(f:Str)(v:V):∀fs:List (Str×V),(Bz f v fs).length<=fs.length+1|[]=>by simp[Bz]|(k,x)::r=>by have b:=qH8 f v r;rw[show Bz f v ((k,x)::r)=(if k=f then (k,v)::r else (k,x)::Bz f v r) from rfl];by_cases a:k=f;{rw[if_pos a,zAq,zAq];lia};rw[if_neg a,zAq,zAq];lia
theorem RelO.some_of(r:RelO (some v) o):∃u,o=some u/\Ou v u:=by cases o with|none=>exact(show False from r).elim|some u=>exact⟨u,rfl,r⟩
theorem RelO.none_of(r:RelO none o):o=none:=by cases o with|none=>rfl|some u=>exact(show False from r).elim
theorem qav1(r:Ou v u):W.handedIn u=true:=by cases v with|non=>cases (show u=Nl from r);rfl|bl b=>cases (show u=Nn b from r);rfl|int i=>obtain⟨t,e⟩:=(show ∃t,u=Nk i t from r);cases e;rfl|str x=>obtain⟨t,e⟩:=(show ∃t,u=Nm x t from r);cases e;rfl|byt b=>obtain⟨t,e⟩:=(show ∃t,u=Nr b t from r);cases e;rfl|flt b=>obtain⟨t,e⟩:=(show ∃t,u=No b t from r);cases e;rfl|ref a=>cases (show u=Nj a from r);rfl|ty n=>cases (show u=Nt n from r);rfl
section
variable{P:K8}{w:La}{H:Hp}{h:Heap}{a C i:γ}{fs:List (Str×V)}
theorem qZ9(b:HOk P w H h)(e:H a=some (.ins C i fs)):∃mA,ObjM h a i C mA/\(∀f,RelO (fs.lookup f) (mA f))/\PySem.Within mA (fs.map (·.1))/\fs.length<=1000/\H i=some (.own a):=by obtain⟨d,z,c,g,mA,n,r,q⟩:=(show ObjOk P w H h a (.ins C i fs) from b a _ e);exact⟨mA,⟨g,n,c⟩,r,q,z,d⟩
end
structure Cls(K:Nx)(C:γ):Prop where
 pg:W.plainGet K C Str.empty=true
 hd:W.hasDictIn K C=true
 po:W.plainOver K C=true
 sa:W.findIn K (.ref C) "__setattr__"=some (some (.builtin "object.__setattr__"))
theorem Cls.get{K:Nx}(c:Cls K C)(f:Str):W.plainGet K C f=true:=c.pg
def qg1(K:Nx)(C:γ)(f:Str):Prop:=W.findIn K (.ref C) f=some none
theorem qg1.taker{K:Nx}(n:qg1 K C f):W.takerIn K C f=some none:=by unfold W.takerIn;rw[show W.findIn K (.ref C) f=some none from n];rfl
structure Jf(K:Nx)(C:γ)(m:Str)(f:γ):Prop where
 at_:W.findIn K (.ref C) m=some (some (.ref f))
 fn:W.isFn K (.ref f)=true
 kp:W.keepIn K (.ref f)=true
section
variable{X:Cx}{F:List (γ×Obj)}{D:St}{H:Hp}{s:δ}{a C G:γ}{fs:List (Str×V)}{f:Str}{v:V}{A:K9}{E:V'->δ->Prop}
theorem qao5(I:Ox X F D H s)(e:H a=some (.ins C G fs))(c:Cls X.K C)(n:qg1 X.K C f)(l:fs.lookup f=some v)(h:∀u s',Ox X F D H s'->Ou v u->Q u s'):K6 (K7 X.prog X.w) A (getAttr (.ref a) f b) Q E s:=by obtain⟨i,O,r,_,_,_⟩:=qZ9 I.hok e;obtain⟨u,g,d⟩:=RelO.some_of (by rw[<-l];exact r f);exact qaT3 I.kIn O (c.get f) c.hd n g (qav1 d) (h u _ (I.tok _) d)
theorem qP9(I:Ox X F D H s)(e:H a=some (.ins C G fs))(c:Cls X.K C)(k:Jf X.K C m g)(l:fs.lookup m=none)(h:Q (.ref g,[.ref a]) s):K6 (K7 X.prog X.w) A (getMethod (.ref a) m pl) Q E s:=by obtain⟨d,O,r,_,_,_⟩:=qZ9 I.hok e;have b:=RelO.none_of (by rw[<-l];exact r m);exact qaI9 I.kIn O (c.get m) k.at_ k.fn b h
theorem qai1(I:Ox X F D H s)(e:H a=some (.ins C G fs))(c:Cls X.K C)(n:qg1 X.K C f)(B:fs.length<1000)(k:Ou y u)(h:∀s',Ox X F D (upd H a (.ins C G (Bz f y fs))) s'->Q () s'):K6 (K7 X.prog X.w) A (setAttr (.ref a) f u) Q E s:=by
 obtain⟨d,O,r,i,_,j⟩:=qZ9 I.hok e;have l:(fs.map (·.1)).length<=Kl:=by rw[zAa,Kt];lia
 refine qaM6 I.kIn O c.sa c.po n.taker c.hd i l λm O' p=>h _ ?_;have t:∃o,m.get? G=some o:=let ⟨o,_,_,e',_⟩:=O'.ns;⟨o,e'⟩
 refine I.write (by rw[e];exact True.intro) (.inr j) (λb q v z=>(p.2 b v).trans z) t ?_;refine⟨by rw[qd1 O.ne];exact j,?_,O.ne,O'.obj,_,O'.ns,λg=>?_,λg x=>?_⟩;{have:=qH8 f y fs;lia};{show RelO ((Bz f y fs).lookup g) (if g=f then some u else d g);rw[qH6];by_cases q:g=f;{rw[if_pos q,if_pos q];exact k};rw[if_neg q,if_neg q];exact r g};by_cases q:g=f;{rw[q];exact(qM0 f y fs).1};refine(qM0 f y fs).2 g (i g λz=>x ?_);show (if g=f then some u else d g)=none;rw[if_neg q];exact z
theorem Ox.made(I:Ox X F D H s):Ox X F D (upd (upd H s.heap.objs.size (.own (s.heap.objs.size+1))) (s.heap.objs.size+1) (.ins C s.heap.objs.size []))
 {s with heap:=(s.heap.push W.emptyDict).push (W.instObj C s.heap.objs.size)}:=by
 have a:(s.heap.push W.emptyDict).get? s.heap.objs.size=some W.emptyDict:=zAy s.heap rfl;have e2:((s.heap.push W.emptyDict).push (W.instObj C s.heap.objs.size)).get? (s.heap.objs.size+1)=some (W.instObj C s.heap.objs.size):=by have:=zAy (s.heap.push W.emptyDict) (o:=W.instObj C s.heap.objs.size) rfl;rwa[Heap.size_push] at this
 refine(I.laid (o:=.own (s.heap.objs.size+1)) (t':=s.toks) (λb u q=>zA4 _ q) (zA2 _) ⟨_,a⟩).laid (λb u q=>zA4 _ q) (zCi (Heap.size_push _ _)) ?_;have c:s.heap.objs.size≠s.heap.objs.size+1:=zAs (Nat.lt_succ_self _);refine⟨by rw[qd1 c,qb8],zBf _,c,e2,λ_=>none,(Heap.Ns1.of_empty (⟨W.emptyDict,#[],_,a,rfl,(λe d=>absurd d (by simp)),λ_=>rfl⟩)).at λo q=>zA4 _ q,λ_=>True.intro,λy f=>absurd rfl f⟩
theorem qaV3{f:Str}{s:δ}(a:Ks e f env (eval e env)=eval e env)(h:K6 (K7 prog w) A (eval e env) (λo s₁=>K6 (K7 prog w) A (getAttr o f true) Q E s₁) E s):K6 (K7 prog w) A (eval (.Attribute e f pos) env) Q E s:=Attribute_any_ h (by rw[arm_eval_Attribute,a])
end
def tFld(K:Nx)(ta:TE)(f:Str):TE:=λb H Q=>ta b H λx H1=>∃a C dx fs v,x=.ref a/\H1 a=some (.ins C dx fs)/\Cls K C/\qg1 K C f/\fs.lookup f=some v/\Q v H1
def sFld(K:Nx)(ta tv:TE)(f:Str):TS:=λD b H=>tv b H λy H1=>ta b H1 λx H2=>∃a C dx fs,x=.ref a/\H2 a=some (.ins C dx fs)/\Cls K C/\qg1 K C f/\fs.length<1000/\D.nx b (upd H2 a (.ins C dx (Bz f y fs)))
section
variable{X:Cx}{o e B:Lb}{f:Str}{pos pos':Pos}{E tv:TE}
theorem qV0(d:PE X e E)(g:Ks e f X.env (eval e X.env)=eval e X.env):PE X (.Attribute e f pos) (tFld X.K E f):=by intro Dg s A H Q I h;refine qaV3 g (thn (d Dg s A H _ I h) λu o b=>?_);obtain⟨x,H1,I1,i,a,C,p,r,v,j,k,c,n,l,q⟩:=b;subst j;obtain rfl:u=Nj a:=i;exact qao5 I1 k c n l λt w I2 m=>⟨v,H1,I2,m,q⟩
theorem qaX3(d:PE X o E)(e:PE X B tv)(g:swapsWith B (some (.Attribute o f pos')) pos.line X.env=pure false):PS X (.Assign [.Attribute o f pos'] B pos) (sFld X.K E tv f):=by intro Dg s A H D I h;refine plainObj_wpAny_Assign_Attribute (thn (e Dg s A H _ I h) λu i b=>?_) g;obtain⟨y,H1,I1,j,q⟩:=b;refine thn (d Dg i A H1 _ I1 q) λk t b=>?_;obtain⟨x,H2,I2,m,a,C,v,w,p,r,c,n,l,q2⟩:=b;subst p;obtain rfl:k=Nj a:=m;exact qai1 I2 r c n l j λz I3=>⟨A,_,I3,q2⟩
end
section
variable{X:Cx}{F:List (γ×Obj)}{D:St}{H:Hp}{s:δ}{A:K9}{E Q:V'->δ->Prop}{c:V'}{b:Bool}
inductive En(K:Nx)(H:Hp):V->V'->Prop where
 |non:En K H .non (.type "NoneType")
 |bl (x:Bool):En K H (.bl x) (.type "bool")
 |int (i:Int):En K H (.int i) (.type "int")
 |str (x:Str):En K H (.str x) (.type "str")
 |flt (x:UInt64):En K H (.flt x) (.type "float")
 |l {a:γ} {xs:List V} (e:H a=some (.l xs)):En K H (.ref a) (.type "list")
 |frz {a:γ} {o:Obj} {xs:List V} (e:H a=some (.frz o (.l xs))):En K H (.ref a) (.type "list")
 |q {a:γ} {xs:List V} (e:H a=some (.q xs)):En K H (.ref a) (.type "tuple")
 |dK {a:γ} {kvs:List (Key×V)} (e:H a=some (.dK kvs)):En K H (.ref a) (.type "dict")
 |dT {a:γ} {kvs:List (List Key×V)} (e:H a=some (.dT kvs)):En K H (.ref a) (.type "dict")
 |ins {a C dx:γ} {fs:List (Str×V)} (e:H a=some (.ins C dx fs)) (cl:Cls K C) (ha:W.findIn K (.ref C) "__class__"=some (some (.builtin "object.__class__")))
  (hn:W.specialIn K (.builtin "object.__class__") "__get__"=some (some (.builtin "getset_descriptor.__get__"))) (htk:W.takesIn K (.builtin "object.__class__")=some true)
  (hm:W.mroIn K C (.type "object")=some true):En K H (.ref a) (.ref C)
theorem qM2(I:Ox X F D H s)(d:Ou x u)(ty:En X.K H x t)(e:Ny X.K t c=some b)(h:∀k,Q (.bool b) {s with toks:=k}):K6 (K7 X.prog X.w) A (call (.builtin "isinstance") [u,c]) Q E s:=by cases ty with|non=>cases (show u=Nl from d);exact W.kia_one W.kitx_none I.kIn True.intro e (λz=>nomatch z) h|bl y=>cases (show u=Nn y from d);exact W.kia_one W.kitx_bool I.kIn True.intro e (λz=>nomatch z) h|int i=>obtain⟨t,q⟩:=(show ∃t,u=Nk i t from d);cases q;exact W.kia_one W.kitx_int I.kIn True.intro e (λz=>nomatch z) h|str y=>obtain⟨t,q⟩:=(show ∃t,u=Nm y t from d);cases q;exact W.kia_one W.kitx_str I.kIn True.intro e (λz=>nomatch z) h|flt y=>obtain⟨t,q⟩:=(show ∃t,u=No y t from d);cases q;exact W.kia_one W.kitx_float I.kIn True.intro e (λz=>nomatch z) h|@l a g ea=>cases (show u=Nj a from d);obtain⟨_,_,n,_,f⟩:=(show ObjOk X.prog X.w H s.heap a (.l g) from I.hok a _ ea);exact W.kia_one W.kitx_list I.kIn ⟨_,f,rfl⟩ e (λz=>nomatch z) h|@frz a ob g ea=>cases (show u=Nj a from d);obtain⟨_,_,_,n,_,f⟩:=(show ObjOk X.prog X.w H s.heap a (.frz ob (.l g)) from I.hok a _ ea);exact W.kia_one W.kitx_list I.kIn ⟨_,f,rfl⟩ e (λz=>nomatch z) h|@q a g ea=>cases (show u=Nj a from d);obtain⟨_,_,_,p⟩:=(show ObjOk X.prog X.w H s.heap a (.q g) from I.hok a _ ea);obtain⟨o,f,j,_⟩:=p;exact W.kia_one W.kitx_tuple I.kIn ⟨o,f,j⟩ e (λz=>nomatch z) h|@dK a kvs ea=>cases (show u=Nj a from d);obtain⟨_,_,r,_,p⟩:=(show ObjOk X.prog X.w H s.heap a (.dK kvs) from I.hok a _ ea);obtain⟨o,l,m,f,j,_⟩:=p;exact W.kia_one W.kitx_dict I.kIn ⟨o,f,j.1⟩ e (λz=>nomatch z) h|@dT a kvs ea=>cases (show u=Nj a from d);obtain⟨_,_,g,_,o,l,m,f,j,_⟩:=(show ObjOk X.prog X.w H s.heap a (.dT kvs) from I.hok a _ ea);exact W.kia_one W.kitx_dict I.kIn ⟨o,f,j.1⟩ e (λz=>nomatch z) h|@ins a C dx fs ea cl ha hn htk hm=>cases (show u=Nj a from d);obtain⟨v,O,_⟩:=qZ9 I.hok ea;obtain⟨B,J,_⟩:=O.look;exact W.kia_one (W.kitx_own (cl.get _) cl.hd ha hn htk hm) I.kIn J e (λz=>nomatch z) h
end
structure O0(cm:Bool)(k:Nat)(A:K9):Prop where
 hd:cm=true->A.handled=none
 dp:A.depth+3*k+5<recursionLimit
 un:A.units+16*k+200<cLine
abbrev Room:=O0 true
theorem O0.mono(r:O0 cm k A)(h:j<=k):O0 cm j A:=⟨r.hd,by have:=r.dp;lia,by have:=r.un;lia⟩
theorem O0.deeper(r:O0 cm (k+1) A)(env:Env):O0 cm k (A.deeper env):=⟨r.hd,by have:=r.dp;show A.depth+1+3*k+5<_;lia,by have:=r.un;show A.units+3+16*k+200<_;lia⟩
theorem qam6{A:K9}:(A.under (.builtin "type.__call__" ⟨.ref C::us,kw⟩)).depth=A.depth+1:=by first|rfl|simp[Around.under,Code.weight,Code.isCreation,Code.isGuard,Code.isCaller,Code.frames,Code.isFrame,guardIds]
theorem qam4{A:K9}:(A.under (.builtin "type.__call__" ⟨.ref C::us,kw⟩)).units=A.units+1:=by first|rfl|simp[Around.under,Code.cUnits,Code.frames,Code.isFrame]
theorem O0.make(r:O0 cm (k+1) A)(C:γ)(us:List V')(kw:List (Str×V')):O0 cm k (A.under (.builtin "type.__call__" ⟨.ref C::us,kw⟩)):=⟨r.hd,by have:=r.dp;rw[qam6];lia,by have:=r.un;rw[qam4];lia⟩
theorem O0.depth(r:O0 cm k A):A.depth<recursionLimit:=by have:=r.dp;lia
theorem O0.units(r:O0 cm k A):A.units+64<cLine:=by have:=r.un;lia
def tNil:TA:=λ_ H Q=>Q [] H
def tCons(ta:TE)(tr:TA):TA:=λa H Q=>ta a H λx H1=>tr a H1 λxs H2=>Q (x::xs) H2
section
variable{X:Cx}{e:Lb}{o:List Lb}{te:TE}{t:TA}{n:Pos}
theorem qm1:PA X [] tNil:=λ_ _ _ _ H Q I h=>Calls.spliced_nil ⟨[],H,I,.nil,h⟩
theorem qc1(a:PE X e te)(b:PA X o t)(c:J' (e::o) X.env=(false,eval e X.env)::J' o X.env:=by rfl):PA X (e::o) (tCons te t):=by intro n Dg s m H Q I h;rw[c];exact Calls.spliced_cons (thn (a Dg s m H _ I h) λu d ⟨x,H1,I1,f,g⟩=>(thn (b n Dg d m H1 _ I1 g) λk l ⟨i,H2,I2,j,q2⟩=>⟨x::i,H2,I2,.cons f j,q2⟩))
def tTup(t:TA):TE:=λm H Q=>t m H λxs H1=>xs.length<=Kl/\∀p,H1 p=none->Q (.ref p) (upd H1 p (.q xs))
def tLst(t:TA):TE:=λm H Q=>t m H λxs H1=>xs.length<=Kl/\∀p,H1 p=none->Q (.ref p) (upd H1 p (.l xs))
theorem qaP0{x1}(h:PA X o t):PE X (.Tuple o x1 n) (tTup t):=by intro Dg s m H Q I d;refine wpAny_Tuple_spliced (thn (h n Dg s m H _ I d) λf c a=>?_);obtain⟨g,H1,I1,r,z,q⟩:=a;refine⟨by rw[<-r.length];exact z,?_⟩;refine⟨.ref c.heap.objs.size,upd H1 c.heap.objs.size (.q g),I1.laid (λb u e=>zA4 _ e) (zA2 _) ?_,rfl,q _ (I1.hok.fresh (zA2 _))⟩;exact⟨z,f,r,⟨_,zAy _ rfl,rfl,_,rfl⟩⟩
theorem qat4(h:PA X o t):PE X (.List o n) (tLst t):=by intro Dg s m H Q I d;refine wpAny_List_spliced (thn (h n Dg s m H _ I d) λf c a=>?_);obtain⟨g,H1,I1,r,z,q⟩:=a;refine⟨by rw[<-r.length];exact z,?_⟩;refine⟨.ref c.heap.objs.size,upd H1 c.heap.objs.size (.l g),I1.laid (λb u e=>zA4 _ e) (zA2 _) ?_,rfl,q _ (I1.hok.fresh (zA2 _))⟩;exact⟨z,f,0,r,zAy _ rfl⟩
end
abbrev Sp:=List V->Hp->VK->XK->Prop
abbrev CXT:=List Env->Hp->δ->XK->V'->δ->Prop
structure Env0(P:K8)(w:La)(K:Nx)(mg:Str->Option V')(base:Heap)(A:K9)(outer:List Env)(s:δ)(H:Hp):Prop where
 frames:A.frames=some outer
 mod:Mod K mg base
 bs:∀b o,base.get? b=some o->s.heap.get? b=some o/\H b=none
 bsz:base.objs.size<=s.heap.objs.size
 funs:s.heap.FunFrames base outer
 frf:∀b∈frs outer,H b=none
 hok:HOk P w H s.heap
 bare:AllBare s.gens
def CE(outer:List Env)(P:K8)(w:La)(H:Hp)(s:δ)(Q:VK)(u:V')(s':δ):Prop:=∃v H',s'.os=s.os/\AllBare s'.gens/\Un (frs outer) [] H H' s.heap s'.heap/\HOk P w H' s'.heap/\Ou v u/\Q v H'
def CR(CX:CXT)(outer:List Env)(P:K8)(w:La)(H:Hp)(s:δ)(Q:VK)(E:XK)(r:Result)(s':δ):Prop:=match r with|.ok (.ret u)=>CE outer P w H s Q u s'|.ok _=>False|.error e=>CX outer H s E e s'
structure Dx(cm:Bool)(P:K8)(w:La)(K:Nx)(mg:Str->Option V')(base:Heap)(CX:CXT)(k:Nat)(f:γ)(fd:ε)(ps:List Str)(sp:Sp):Prop where
 len:∀vs H Q E,sp vs H Q E->vs.length=ps.length
 run:∀(A:K9)(outer:List Env)(s:δ)(H:Hp)(args:Args)(us:List V')(vs:List V)(Q:VK)(E:XK),O0 cm k A->Env0 P w K mg base A outer s H->BindsTo s fd args (ps.zip us)->Ov vs us->sp vs H Q E->codeAny (K7 P w) A (.call (.ref f) args) (CR CX outer P w H s Q E) s
abbrev Du:=Dx true
theorem Env0.make{K:Nx}(e:Env0 P w K mg base A outer s H)(C:γ)(us:List V')(kw:List (Str×V')):Env0 P w K mg base (A.under (.builtin "type.__call__" ⟨.ref C::us,kw⟩)) outer s H:=⟨by first|exact e.frames|(simpa[Around.under,Code.envs,Code.isFrame,pushEnvs] using e.frames),e.mod,e.bs,e.bsz,e.funs,e.frf,e.hok,e.bare⟩
section
variable{X:Cx}{k:List (γ×Obj)}{j:St}{H:Hp}{s s':δ}
theorem Ox.env0(I:Ox X k j H s):Env0 X.prog X.w X.K X.mg X.base X.A X.stack s H:=⟨I.ok.frames,I.ok.mod,I.bs,zAi I.ok.bsz I.sz,I.stack,I.stkFree,I.hok,I.bare⟩
theorem Ox.after(I:Ox X k j H s)(h:CE X.stack X.prog X.w H s Q u s'):EP X k j Q u s':=by obtain⟨v,H',e,bare,f,a,r,q⟩:=h;obtain⟨i,g,d,t,c⟩:=s';obtain rfl:c=s.os:=e;exact⟨v,H',I.call f a bare (λb z=>absurd z (by simp)),r,q⟩
end
def Jg(sp:Sp)(dvs:List V)(E:St->XK)(t:TA):TE:=λa H Q=>t a H λvs H1=>sp (vs++dvs) H1 Q (E a)
def Hf(C:γ)(m:Str)(sp:Sp)(dvs:List V)(E:St->XK)(ta:TE)(t:TA):TE:=λb H Q=>ta b H λx H1=>∃a dx fs,x=.ref a/\H1 a=some (.ins C dx fs)/\fs.lookup m=none/\t b H1 λvs H2=>sp (x::(vs++dvs)) H2 Q (E b)
def tMake(C:γ)(sp:Sp)(dvs:List V)(E:St->XK)(t:TA):TE:=λa H Q=>t a H λvs H1=>∀x dx,H1 x=none->H1 dx=none->dx≠x->sp (.ref x::(vs++dvs)) (upd (upd H1 dx (.own x)) x (.ins C dx [])) (λv H2=>v=.non/\Q (.ref x) H2) (E a)
def Binds(K:Nx)(fd:ε)(ps:List Str)(ds:List V'):Prop:=∀(s:δ)(us:List V'),K.In s.heap->(us++ds).length=ps.length->BindsTo s fd ⟨us,[]⟩ (ps.zip (us++ds))
theorem Binds.all{K:Nx}(h:∀us:List V',us.length=ps.length->bindArgs fd ⟨us,[]⟩=pure (ps.zip us)):Binds K fd ps []:=λs us _ a=>by
 rw[zAc] at a ⊢;exact .of_eq (h us a)
def qR3(CX:CXT)(X:Cx)(E:St->XK):Prop:=∀(Dg:List (γ×Obj))(a:St)(H:Hp)(s:δ)(e:V')(s':δ),Ox X Dg a H s->CX X.stack H s (E a) e s'->X.xe e s'
section
variable{X:Cx}{Z:Bool}{CX:CXT}{k:Nat}{f C:γ}{Y:ε}{ps:List Str}{sp:Sp}{dvs:List V}{ds:List V'}{E:St->XK}{x m:Str}{p S T:Pos}{e o:Lb}{U:List Lb}{ta:TE}{t:TA}
theorem qaE1(F:Dx Z X.prog X.w X.K X.mg X.base CX k f Y ps sp)(c:O0 Z k X.A)(d:Binds X.K Y ps ds)(g:Ov dvs ds)(i:qR3 CX X E)(I:Ox X Dg R H s)(r:Ov vs us)(h:sp (vs++dvs) H Q (E R)):K6 (K7 X.prog X.w) X.A (call (.ref f) us) (EP X Dg R Q) X.xe s:=by
 have b:=r.append g;have j:(us++ds).length=ps.length:=by rw[<-b.length];exact F.len _ _ _ _ h
 refine wpAny_call (codeAny_mono (F.run X.A X.stack s H ⟨us,[]⟩ (us++ds) (vs++dvs) Q (E R) c I.env0 (d s us I.kIn j) b h) λr l a=>?_);cases r with|error e=>exact i Dg R H s e l I a|ok m=>cases m with|ret u=>exact I.after a|next=>exact Oh a|brk=>exact Oh a|cont=>exact Oh a
theorem qaz7(F:Dx Z X.prog X.w X.K X.mg X.base CX k f Y ps sp)(c:O0 Z k X.A)(d:Gl X x)(hm:X.mg x=some (.ref f))(g:W.keepIn X.K (.ref f)=true)(i:Binds X.K Y ps ds)(j:Ov dvs ds)(l:qR3 CX X E)(m:PA X (e::U) t)(a:N' x:=by decide)(n:J' (e::U) X.env=(false,eval e X.env)::J' U X.env:=by rfl)(b:(backTo S (J' U X.env)).any (·.1)=false:=by rfl):PE X (.Call (.Name x p) (e::U) [] S) (Jg sp dvs E t):=by intro Dg s R H Q I h;exact wpAny_Call_Name_kw (qam9 I d hm (W.callWith_K (h₀:=X.base) I.ok.mod.kin g (thn (m S Dg s R H _ I h) λo u ⟨v,H1,I1,r,q⟩=>⟨I1.kIn,(qaE1 F c i j l I1 r q)⟩) n b) a)
theorem qak1(j:PE X o ta)(c:Cls X.K C)(hm:Jf X.K C m f)(F:Dx Z X.prog X.w X.K X.mg X.base CX k f Y ps sp)(n:O0 Z k X.A)(p:Binds X.K Y ps ds)(v:Ov dvs ds)(y:qR3 CX X E)(z:PA X (e::U) t)(b:J' (e::U) X.env=(false,eval e X.env)::J' U X.env:=by rfl)(d:(backTo S (J' U X.env)).any (·.1)=false:=by rfl)(B:eval (.Call (.Attribute o m T) (e::U) [] S) X.env=(do
 let ov<-eval o X.env
 standAt T.atName
 let (f,first)<-holding [ov] (getMethod ov m pl)
 callWith S f first (backTo S (J' (e::U) X.env)) (backToKw S (Kw [] X.env))):=by rfl):PE X (.Call (.Attribute o m T) (e::U) [] S) (Hf C m sp dvs E ta t):=by intro Dg s R H Q I h;refine W.methodCall_KW (thn (j Dg s R H _ I h) λu D g=>?_) B;obtain⟨x,H1,I1,G,a,M,N,J,L,l,q⟩:=g;subst J;obtain rfl:u=Nj a:=G;exact qP9 I1 L c hm l (W.callWith_K (h₀:=X.base) I.ok.mod.kin hm.kp (thn (z S Dg D R H1 _ I1 q) λO P ⟨i,H2,I2,r,q2⟩=>⟨I2.kIn,(qaE1 (vs:=.ref a::i) F n p v y I2 (.cons rfl r) q2)⟩) b d)
theorem qK5(d:PE X o ta)(c:Cls X.K C)(hm:Jf X.K C m f)(F:Dx Z X.prog X.w X.K X.mg X.base CX k f Y ps sp)(e:O0 Z k X.A)(g:Binds X.K Y ps ds)(i:Ov dvs ds)(j:qR3 CX X E)(n:eval (.Call (.Attribute o m T) [] [] S) X.env=(do
 let ov<-eval o X.env
 standAt T.atName
 let (f,first)<-holding [ov] (getMethod ov m pl)
 callWith S f first (backTo S (J' [] X.env)) (backToKw S (Kw [] X.env))):=by rfl):PE X (.Call (.Attribute o m T) [] [] S) (Hf C m sp dvs E ta tNil):=by intro Dg s R H Q I h;refine W.methodCall_KW (thn (d Dg s R H _ I h) λu v b=>?_) n;obtain⟨x,H1,I1,p,a,y,z,r,t,l,q⟩:=b;subst r;obtain rfl:u=Nj a:=p;exact qP9 I1 t c hm l (W.callWith_K0 I1.kIn hm.kp (qaE1 (vs:=[.ref a]) F e g i j I1 (.cons rfl .nil) q))
structure Mk(K:Nx)(C f:γ):Prop where
 makes:W.makesIn K C=true
 init:W.findIn K (.ref C) "__init__"=some (some (.ref f))
 fn:W.isFn K (.ref f)=true
 kp:W.keepIn K (.ref C)=true
theorem qaE0(M:Mk X.K C f)(F:Dx Z X.prog X.w X.K X.mg X.base CX k f Y ps sp)(d:O0 Z (k+1) X.A)(g:Binds X.K Y ps ds)(i:Ov dvs ds)(j:qR3 CX X E)(I:Ox X Dg R H s)(r:Ov vs us)(h:∀x dx,H x=none->H dx=none->dx≠x->sp (.ref x::(vs++dvs)) (upd (upd H dx (.own x)) x (.ins C dx [])) (λv H2=>v=.non/\Q (.ref x) H2) (E R)):K6 (K7 X.prog X.w) X.A (call (.ref C) us) (EP X Dg R Q) X.xe s:=by
 have b:=h (s.heap.objs.size+1) s.heap.objs.size (I.hok.fresh (Nat.le_succ _)) (I.hok.fresh (zA2 _)) (zAs (Nat.lt_succ_self _));have I2:=Ox.made (C:=C) I;have c:Ov (V.ref (s.heap.objs.size+1)::(vs++dvs)) (Nj (s.heap.objs.size+1)::(us++ds)):=.cons rfl (r.append i);have l:(Nj (s.heap.objs.size+1)::us++ds).length=ps.length:=by have e:=c.length;rw[F.len _ _ _ _ b] at e;exact e.symm
 refine wpAny_call (qaH7 I.kIn M.makes M.init (zBr.mp M.fn) (codeAny_mono (F.run _ X.stack _ _ ⟨Nj (s.heap.objs.size+1)::us,[]⟩ (Nj (s.heap.objs.size+1)::(us++ds)) _ _ (E R) (d.make C us [])
  (I2.env0.make C us []) (g _ (Nj (s.heap.objs.size+1)::us) I2.kIn l) c b) λr m a=>?_))
 cases r with|error e=>exact j Dg R _ _ e m I2 a|ok n=>cases n with|ret u=>obtain⟨v,H',I3,o,p,q⟩:=I2.after a;subst p;exact⟨o,⟨V.ref (s.heap.objs.size+1),H',I3,rfl,q⟩⟩|next=>exact Oh a|brk=>exact Oh a|cont=>exact Oh a
theorem qak2(M:Mk X.K C f)(F:Dx Z X.prog X.w X.K X.mg X.base CX k f Y ps sp)(c:O0 Z (k+1) X.A)(d:Gl X x)(hm:X.mg x=some (.ref C))(g:Binds X.K Y ps ds)(i:Ov dvs ds)(j:qR3 CX X E)(l:PA X (e::U) t)(a:N' x:=by decide)(m:J' (e::U) X.env=(false,eval e X.env)::J' U X.env:=by rfl)(b:(backTo S (J' U X.env)).any (·.1)=false:=by rfl):PE X (.Call (.Name x p) (e::U) [] S) (tMake C sp dvs E t):=by intro Dg s R H Q I h;exact wpAny_Call_Name_kw (qam9 I d hm (W.callWith_K (h₀:=X.base) I.ok.mod.kin M.kp (thn (l S Dg s R H _ I h) λn o ⟨u,H1,I1,r,q⟩=>⟨I1.kIn,(qaE0 M F c g i j I1 r q)⟩) m b) a)
end
structure qa8(N P:List Str)(sc:Scope):Prop where
 kind:sc.kind=.function
 co:sc.isCoroutine=false
 gen:sc.isGenerator=false
 nd:N.Nodup
 pre:N.take P.length=P
 par:∀x∈P,sc.names.lookup x=some .local∨sc.names.lookup x=some .cell
 nofree:∀y∈sc.names,y.2≠.free
theorem qac2{Ln:Str->Option NameKind}{x:Str}:∀{binds:List (Str×V')}{m:Str->Option V'},(∀v,(x,v)∉binds)->bindL Ln binds m x=m x
 |[],_,_=>rfl|(n,v)::r,m,h=>by
  unfold bindL;rw[qac2 λw a=>h w (zA6 _ a)];split
  .have:x≠n:=by rintro rfl;exact h v zA9
   simp[this]
  rfl
theorem qac4{Ln:Str->Option NameKind}{x:Str}:∀{binds:List (Str×V')}{m:Str->Option V'},(∀v,(x,v)∉binds)->bindC Ln binds m x=m x
 |[],_,_=>rfl|(n,v)::r,m,h=>by
  unfold bindC;rw[qac4 λw a=>h w (zA6 _ a)];split;{rfl};have:x≠n:=by rintro rfl;exact h v zA9
  simp[this]
theorem qac3{Ln:Str->Option NameKind}{x:Str}{v:V'}:∀{P:List Str}{vs:List V'}{i:Nat}{m:Str->Option V'},P.Nodup->P[i]?=some x->vs[i]?=some v->Ln x=some .local->bindL Ln (P.zip vs) m x=some v|[],_,_,_,_,h,_,_=>by simp at h|_::_,[],_,_,_,_,h,_=>by simp at h|p::P,w::vs,0,m,nd,h1,h2,hk=>by simp at h1 h2;subst h1;subst h2;show bindL Ln ((p,w)::P.zip vs) m p=_;unfold bindL;rw[qac2 λv a=>(zC5.mp nd).1 (Mo a).1,if_pos hk];simp|p::P,w::vs,i+1,m,nd,h1,h2,hk=>by show bindL Ln ((p,w)::P.zip vs) m x=_;unfold bindL;exact qac3 (i:=i) (zC5.mp nd).2 (by simpa using h1) (by simpa using h2) hk
theorem qac5{Ln:Str->Option NameKind}{x:Str}{v:V'}:∀{P:List Str}{vs:List V'}{i:Nat}{m:Str->Option V'},P.Nodup->P[i]?=some x->vs[i]?=some v->Ln x≠some .local->bindC Ln (P.zip vs) m x=some v|[],_,_,_,_,h,_,_=>by simp at h|_::_,[],_,_,_,_,h,_=>by simp at h|p::P,w::vs,0,m,nd,h1,h2,hk=>by simp at h1 h2;subst h1;subst h2;show bindC Ln ((p,w)::P.zip vs) m p=_;unfold bindC;rw[qac4 λv a=>(zC5.mp nd).1 (Mo a).1,if_neg hk];simp|p::P,w::vs,i+1,m,nd,h1,h2,hk=>by show bindC Ln ((p,w)::P.zip vs) m x=_;unfold bindC;exact qac5 (i:=i) (zC5.mp nd).2 (by simpa using h1) (by simpa using h2) hk
noncomputable def start(N:List Str)(vs:List V):St:=vs.map some++Ls (N.length-vs.length) none
noncomputable def Ez(cm:Bool)(CX:CXT)(P:K8)(w:La)(K:Nx)(mg:Str->Option V')(base:Heap)(N:List Str)(qual:Str)(scope:Scope)(f:γ)(cd:V')(A:K9)(outer:List Env)(s:δ)(H:Hp)(E:XK):Cx where
 prog:=P
 w:=w
 K:=K
 mg:=mg
 base:=base
 A:=A.deeper (envOfC qual scope s.heap.objs.size f cd)
 N:=N
 s₀:=s
 H₀:=H
 env:=envOfC qual scope s.heap.objs.size f cd
 outer:=outer
 stack:=envOfC qual scope s.heap.objs.size f cd::outer
 ex:=[]
 calm:=cm
 fn:=λ_=>true
 pn:=[]
 xe:=λe s'=>K6 (K7 P w) (A.deeper (envOfC qual scope s.heap.objs.size f cd)) (leaving (envOfC qual scope s.heap.objs.size f cd) e) (λ_ a=>CX outer H s E e a) (λb a=>CX outer H s E b a) s'
theorem qap9{sc:Scope}(h:sc.names.lookup x=some .cell):∃c,(cellsFrom n sc.names []).lookup x=some c:=by exact zB1.mp (W.cellsFrom_some sc.names n [] (.inl h))
theorem qau9{K:Nx}(S:qa8 N ps scope)(G:cm=true->A.handled=none)(g:Env0 P w K mg base A outer s H)(M:vs.length=ps.length)(r:Ov vs us)(x:InCallC s s.heap.objs.size (bindL (envOfC qual scope s.heap.objs.size f cd).kindOf (ps.zip us) λ_=>none) (cellsFrom (s.heap.objs.size+1) scope.names []) (bindC (envOfC qual scope s.heap.objs.size f cd).kindOf (ps.zip us) λ_=>none) C):Ox (Ez cm CX P w K mg base N qual scope f cd A outer s H E) [] (start N vs) H C:=by
 have I:ps.length<=N.length:=by have:=congrArg Lv S.pre;rw[zBs] at this;lia
 obtain⟨t,O,rfl,D⟩:=x.done;have j:∀b:γ,b∉(Ez cm CX P w K mg base N qual scope f cd A outer s H E).ex:=λb z=>absurd (show b∈([]:List γ) from z) (by simp);refine⟨⟨g.mod,S.kind,rfl,rfl,zA2 _,λy z c t d=>?_,λy l=>?_,λy c _ h=>?_,G,Around.frames_deeper g.frames,.inr ⟨rfl,rfl⟩,λb z=>absurd z (j b),g.bs,g.bsz,λb _ _=>j b,λb z=>absurd z (j b),g.funs,g.frf⟩,
  rfl,g.bare,Un.kept D,⟨_,x.toInCall.ns,λi y v t d Q=>?_⟩,λy c h=>⟨_,x.cell y c h⟩,g.hok.fresh (zA2 _),λy c h=>?_,λp m=>absurd (show p∈([]:List (γ×Obj)) from m) (by simp),g.hok.kept D,?_⟩
 {exact name_of_addr x.apart (PySem.mem_of_lookup t) (PySem.mem_of_lookup d)};{have l:scope.names.lookup y=some .cell∨scope.names.lookup y=some .free:=l;rcases l with l|l;{exact qap9 l};exact absurd rfl (S.nofree _ (PySem.mem_of_lookup l))};{exact zBa (x.above y c (PySem.mem_of_lookup h))}
 .have B:i<vs.length:=by unfold start at d;by_cases B:i<vs.length;{exact B};rw[List.getElem?_append_right (by simpa using B)] at d;rw[List.getElem?_replicate] at d;split at d<;>cases d
  have J:vs[i]?=some v:=by unfold start at d;rw[zAn (by simpa using B),zBd] at d;cases e:vs[i]? with|none=>rw[e] at d;cases d|some a=>rw[e] at d;cases d;rfl
  obtain⟨u,F,L⟩:=r.get J;have m:ps[i]?=some y:=by rw[<-S.pre,List.getElem?_take_of_lt ⋯];exact t
  have o:ps.Nodup:=by rw[<-S.pre];exact S.nd.sublist (Lw _ _)
  refine⟨u,L,?_⟩;rcases S.par y (zB8 m) with k|k;{exact .inl ⟨k,qac3 o m F k⟩};obtain⟨c,e⟩:=qap9 (n:=s.heap.objs.size+1) k;refine .inr ⟨.inl k,c,e,?_⟩;have q:=x.cell y c e;rw[qac5 o m F (by show scope.names.lookup y≠_;rw[k];decide)] at q;exact q
 {exact g.hok.fresh (zBa (x.above y c (PySem.mem_of_lookup h)))};unfold start;show _=N.length;rw[zAd,zAa,List.length_replicate];lia
theorem Jh{K:Nx}{kV:V'}{i:Array (Option V')}(G:K.lookup f=some ⟨oc,F,.func (W.fnOf name qual params body scope z kV d B D a C),i⟩)(j:W.codeIn K a qual=true)(S:qa8 N ps scope)(len:∀vs H Q E,sp vs H Q E->vs.length=ps.length)(hbody:∀(A:K9)(outer:List Env)(s:δ)(H:Hp)(vs:List V)(Q:VK)(E:XK),O0 cm k (A.deeper (envOfC qual scope s.heap.objs.size f a))->sp vs H Q E->∃t,PSs (Ez cm CX P w K mg base N qual scope f a A outer s H E) body t/\t {nx:=λ_ H'=>Q .non H',rt:=Q} (start N vs) H):Dx cm P w K mg base CX (k+1) f (W.fnOf name qual params body scope z kV d B D a C) ps sp:=by
 refine⟨len,λA outer s H args I vs Q E l g L r h=>?_⟩;have KX:=g.mod.kin.keeps λb o e=>(g.bs b o e).1;have hkind:∀y∈ps.zip I,scope.names.lookup y.1=some .local∨(scope.names.lookup y.1=some .cell/\((cellsFrom (s.heap.objs.size+1) scope.names []).lookup y.1).isSome=true):=λ⟨n,v⟩ M=>by rcases S.par n (Mo M).1 with q|q;{exact .inl q};exact .inr ⟨q,W.cellsFrom_some _ _ _ (.inl q)⟩
 refine codeAny_call_function l.depth (KX _ _ G) rfl S.co S.gen rfl (W.codeRec_of KX j) (L _ _ _ _ ?_);refine wpAny_newFunctionEnv_cells S.kind hkind λO R T x=>?_;subst R;refine⟨(g.mod.nolimit.keeps λb o e=>(g.bs b o e).1).keeps x.toInCall.keep,codeAny_func ?_⟩;obtain⟨t,U,X⟩:=hbody A outer s H vs Q E (l.deeper _) h;refine Kx (U [] T (start N vs) H _ (qau9 S l.hd g (len _ _ _ _ h) r x) X) (λY m c=>?_) λe m c=>c;have fin:∀{Z':St}{H':Hp}{v:V}{u:V'},Ox (Ez cm CX P w K mg base N qual scope f a A outer s H E) [] Z' H' m->Ou v u->Q v H'->CE outer P w H s Q u m:=λ{Z' H' v u} J p q=>⟨v,H',J.os,J.bare,J.base,J.hok,p,q⟩;cases Y with|ret u=>obtain⟨v,Z',H',J,p,q⟩:=c;exact fin J p q|next=>obtain⟨Z',H',J,q⟩:=c;exact fin (v:=V.non) J rfl q|brk=>obtain⟨_,_,_,q⟩:=c;exact Oh q|cont=>obtain⟨_,_,_,q⟩:=c;exact Oh q
section
variable{X:Cx}{x:Str}{p u:Pos}{e:Lb}{v:List Lb}{t:TA}{w T:String}{r:List V->Hp->VK->Prop}
def tCB(r:List V->Hp->VK->Prop)(t:TA):TE:=λq H Q=>t q H λvs H1=>r vs H1 Q
theorem qaF6(c:CallR X (.builtin w) r)(d:Gl X x)(hm:X.mg x=none)(f:Kq x=some (.builtin w))(g:PA X (e::v) t)(i:x ≠ "__name__" := by decide)(a:N' x:=by decide)(j:J' (e::v) X.env=(false,eval e X.env)::J' v X.env:=by rfl)(b:(backTo u (J' v X.env)).any (·.1)=false:=by rfl):PE X (.Call (.Name x p) (e::v) [] u) (tCB r t):=by intro Dg s q H Q I h;exact wpAny_Call_Name_kw (qan0 I d hm f (PyProof.Rows.callWith_builtin1 (thn (g u Dg s q H _ I h) λk l ⟨m,H1,I1,n,o⟩=>c Dg l q H1 m k Q I1 n o) j b) i a)
theorem qat5(c:CallR X (.type T) r)(d:Gl X x)(hm:X.mg x=none)(f:Kq x=some (.type T))(g:PA X (e::v) t)(i:x ≠ "__name__" := by decide)(a:N' x:=by decide)(j:J' (e::v) X.env=(false,eval e X.env)::J' v X.env:=by rfl)(b:(backTo u (J' v X.env)).any (·.1)=false:=by rfl):PE X (.Call (.Name x p) (e::v) [] u) (tCB r t):=by intro Dg s q H Q I h;exact wpAny_Call_Name_kw (qan0 I d hm f (PyProof.Rows.callWith_type1 (thn (g u Dg s q H _ I h) λk l ⟨m,H1,I1,n,o⟩=>c Dg l q H1 m k Q I1 n o) j b) i a)
end
end L2
namespace HT
open PySem PyProof.Rows
section
noncomputable def sIx(n d:Nat):Option Int->Nat|none=>d|some v=>if v<0 then (v+(n:Int)).toNat else min v.toNat n
theorem qU6(n d:Nat):sIx n d none=d:=rfl
theorem qai9(n d k:Nat):sIx n d (some (k:Int))=min k n:=by show (if (k:Int)<0 then ((k:Int)+(n:Int)).toNat else min (k:Int).toNat n)=min k n;rw[if_neg ⋯,Int.toNat_natCast]
end
end HT
namespace L2
open PySem PySem.Spec PyProof.Rows
variable{its us:List V'}{n:Nat}{x:V}{α:Type}
abbrev TO:=St->Hp->(Option Int->Hp->Prop)->Prop
def PO(X:Cx)(e:Option Lb)(t:TO):Prop:=∀(Dg:List (γ×Obj))(s:δ)(a:St)(H:Hp)(Q:Option Int->Hp->Prop),Ox X Dg a H s->t a H Q->K6 (K7 X.prog X.w) X.A (evalPart e X.env) (λu s'=>∃o H',Ox X Dg a H' s'/\IsPart u o/\Q o H') X.xe s
def qaL9:TO:=λ_ H Q=>Q none H
def tPart(t:TE):TO:=λa H Q=>t a H λx H1=>∃i,x=.int i/\Q (some i) H1
theorem qan8:∀{us:List V'},Ov (ns.map V.int) us->IntsAre us ns:=by induction ns with|nil=>intro us r;rw[Mx] at r;cases r;exact .nil|cons n ns a=>intro us r;rw[zAz] at r;cases r with|cons b c=>obtain⟨t,e⟩:=b;subst e;exact .cons n t (a c)
section
variable{X:Cx}{e:Lb}{te:TE}{E F:Option Lb}{K J:TO}{L M:Pos}
theorem qaj9:PO X none qaL9:=by intro Dg s D H Q I h;rw[evalPart_none];exact G' ⟨none,H,I,.none,h⟩
theorem qaj8(h:PE X e te):PO X (some e) (tPart te):=by intro Dg s D H Q I b;rw[evalPart_some];refine thn (h Dg s D H _ I b) λu f a=>?_;obtain⟨x,H1,I1,c,d⟩:=a;obtain⟨i,rfl,q⟩:=d;obtain⟨t,rfl⟩:=c;exact⟨some i,H1,I1,.int i t,q⟩
def SlR(X:Cx)(r:V->Option Int->Option Int->Hp->VK->Prop):Prop:=∀(Dg:List (γ×Obj))(s:δ)(D:St)(H:Hp)(x:V)(v vl vu:V')(E F:Option Int)(sl:γ)(Q:VK),Ox X Dg D H s->Ou x v->s.heap.IsSliceOf sl vl vu .none->IsPart vl E->IsPart vu F->r x E F H Q->∃T id,typeLookup (.type T) "__getitem__"=pure (some (.builtin id))/\s.TypeIs v T/\K6 (K7 X.prog X.w) X.A (getItem v (.ref sl)) (EP X Dg D Q) X.xe s
def tSl(r:V->Option Int->Option Int->Hp->VK->Prop)(te:TE)(K J:TO):TE:=λD H Q=>te D H λx H1=>K D H1 λl H2=>J D H2 λu H3=>r x l u H3 Q
theorem qU9(g:SlR X r)(i:PE X e te)(j:PO X E K)(k:PO X F J):PE X (.Subscript e (.Slice E F none M) L) (tSl r te K J):=by intro Dg s D H Q I h;refine Subscript_ (thn (i Dg s D H _ I h) λv m a=>?_);obtain⟨x,H1,I1,n,o⟩:=a;refine wpAny_Slice (thn (j Dg m D H1 _ I1 o) λd p a=>?_);obtain⟨l,H2,I2,t,q2⟩:=a;refine thn (k Dg p D H2 _ I2 q2) λf c a=>?_;obtain⟨u,H3,I3,w,y⟩:=a;rw[evalPart_none];refine G' ?_;have I4:Ox X Dg D H3 {c with heap:=c.heap.push {cls:=.type "slice",data:=.fields #[d,f,.none]} }:=I3.kept λb C q=>zA4 _ q;obtain⟨T,id,z,A,B⟩:=g Dg {c with heap:=c.heap.push {cls:=.type "slice",data:=.fields #[d,f,.none]} } D H3 x v d f l u c.heap.objs.size Q I4 n (Heap.IsSliceOf.new ..) t w y;exact tail_any A z B (by with_unfolding_all rfl)
def Gh(xs:List V)(E F:Option Int):List V:=(xs.drop (HT.sIx xs.length 0 E)).take (HT.sIx xs.length xs.length F-HT.sIx xs.length 0 E)
theorem qaf8(xs:List V)(E F:Option Int):(Gh xs E F).length<=xs.length:=by unfold Gh;rw[zBs,zCd];lia
end
noncomputable def ixN(n:Nat)(i:Int):Option Nat:=if 0<=i then (if i<n then some i.toNat else none) else if -(n:Int)<=i then some (i+n).toNat else none
def atI{α:Type}(xs:List α)(i:Int):Option α:=(ixN xs.length i).bind λj=>xs[j]?
theorem qZ6(h:ixN n i=some j):seqIndex? i n=some j/\j<n/\-(n:Int)<=i/\i<n:=by unfold ixN at h;by_cases b:0<=i;{rw[if_pos b] at h;by_cases a:i<n;{rw[if_pos a] at h;have e:=Nv h;exact⟨by rw[seqIndex_of b a,e],⋯,⋯,a⟩};rw[if_neg a] at h;cases h};rw[if_neg b] at h;by_cases a:-(n:Int)<=i;{rw[if_pos a] at h;have e:=Nv h;exact⟨by rw[seqIndex_neg ⋯ a,e],⋯,a,⋯⟩};rw[if_neg a] at h;cases h
theorem qaq6(h:atI xs i=some v):∃j,seqIndex? i xs.length=some j/\xs[j]?=some v/\j<xs.length/\-(xs.length:Int)<=i/\i<xs.length:=by unfold atI at h;cases e:ixN xs.length i with|none=>rw[e] at h;cases h|some j=>rw[e] at h;obtain⟨a,b,c,d⟩:=qZ6 e;exact⟨j,a,h,b,c,d⟩
theorem qac6{j:Nat}(h:xs[j]?=some v):atI xs (j:Int)=some v:=by
 have a:=(zA5.mp h).1;have e:ixN xs.length (j:Int)=some j:=by unfold ixN;rw[if_pos ⋯,if_pos ⋯];simp
 unfold atI;rw[e];exact h
theorem qaK7(xs:List α)(v:α):atI (xs++[v]) (-1)=some v:=by
 have a:(xs++[v]).length=xs.length+1:=by simp
 have e:ixN (xs++[v]).length (-1)=some xs.length:=by unfold ixN;rw[a,if_neg ∅,if_pos ⋯];congr 1;lia
 unfold atI;rw[e];show (xs++[v])[xs.length]?=some v;simp
def qac8(b:Lb):Prop:=∀o i,subscripted b false o i=operate [o,i] (getItem o i)
def IxR(X:Cx)(r:R2):Prop:=∀(value slice:Lb)(Dg:List (γ×Obj))(s:δ)(a:St)(H:Hp)(x y:V)(v u:V')(Q:VK),Ox X Dg a H s->Ou x v->Ou y u->r x y H Q->subscripted slice false v u=operate [v,u] (getItem v u)->K6 (K7 X.prog X.w) X.A (subscriptTail value slice v u) (EP X Dg a Q) X.xe s
def MtR(X:Cx)(id:String)(r:V->List V->Hp->VK->Prop):Prop:=∀(Dg:List (γ×Obj))(s:δ)(a:St)(H:Hp)(x:V)(xs:List V)(v:V')(us:List V')(Q:VK),Ox X Dg a H s->Ou x v->Ov xs us->r x xs H Q->K6 (K7 X.prog X.w) X.A (call (.builtin id) (v::us)) (EP X Dg a Q) X.xe s
section
variable{X:Cx}{a b:Lb}{ta Z:TE}{Y:Pos}
theorem IxR.or{a:R2}(h:IxR X r)(h':IxR X a):IxR X (λx y H Q=>r x y H Q∨a x y H Q):=by intro value slice Dg s L H x y v u Q I b c q d;rcases q with q|q;{exact h value slice Dg s L H x y v u Q I b c q d};exact h' value slice Dg s L H x y v u Q I b c q d
theorem Ji(c:IxR X r)(d:PE X a ta)(e:PE X b Z)(f:qac8 b):PE X (.Subscript a b Y) (tOp r ta Z):=by intro Dg s L H Q I h;exact Subscript_ (binT d e I h λv u g x y H2 I2 i j q=>c a b Dg g L H2 x y v u Q I2 i j q (f _ _))
def rIxL(K:Nx):R2:=λx y H Q=>∃p xs i v,x=.ref p/\y=.int i/\SqL K H p xs/\atI xs i=some v/\Q v H
def rIxT(K:Nx):R2:=λx y H Q=>∃p xs i v,x=.ref p/\y=.int i/\SqT K H p xs/\atI xs i=some v/\Q v H
def rIxS:R2:=λx y H Q=>∃z i c,x=.str z/\y=.int i/\z.length<=Kl/\atI z.cps.toList i=some c/\Q (.str ⟨#[c]⟩) H
theorem qaS0:IxR X (rIxL X.K):=by
 intro value slice Dg s L H x y v u Q I l m h f;obtain⟨p,E,i,z,rfl,rfl,n,o,q⟩:=h;cases l;obtain⟨t,rfl⟩:=m;obtain⟨b,r,c,F⟩:=I.list n;obtain⟨j,a,A,G,B,C⟩:=qaq6 o;obtain⟨w,g,d⟩:=r.get A;have D:=r.length;have J:=qV9;have fin:EP X Dg L Q w s:=⟨z,H,I,d,q⟩;by_cases k:0<=i
 .have e:i.toNat=j:=by rw[seqIndex_of k C] at a;exact Nv a
  exact item_listR c.isList k ⋯ (by rw[e];simpa using g) fin f
 have e:(i+(b.toArray.size:Int)).toNat=j:=by rw[seqIndex_neg ⋯ B] at a;rw[zA3,<-D];exact Nv a
 exact subscriptTail_builtinR c.isList.typeIs slot_list_getitem.lookup
  (wpAny_getItem_list_neg c.isList ⋯ (by rw[zA3]<;>lia) ⋯ (by rw[e];simpa using g) ⟨rfl,fin⟩) f
theorem qbb0:IxR X (rIxT X.K):=by
 intro value slice Dg s L H x y v u Q I c d h e;obtain⟨p,o,i,z,rfl,rfl,f,g,q⟩:=h;cases c;obtain⟨t,rfl⟩:=d;obtain⟨k,r,b,A⟩:=I.tuple f;obtain⟨j,l,m,B,C,D⟩:=qaq6 g;obtain⟨w,n,a⟩:=r.get m;have E:=qV9;exact subscriptTail_builtinR b.typeIs slot_tuple_getitem.lookup
  (getItem_tuple b ⋯ ⋯ (by rw[zA3,<-(r.length)];exact l) (by simpa using n) ⟨rfl,(⟨z,H,I,a,q⟩)⟩) e
theorem qbb1:IxR X rIxS:=by
 intro value slice Dg s L H x y v u Q I b d h e;obtain⟨z,i,c,rfl,rfl,n,f,q⟩:=h;obtain⟨t,rfl⟩:=b;obtain⟨o,rfl⟩:=d;obtain⟨j,a,g,p,k,l⟩:=qaq6 f;have m:z.cps.toList.length=z.length:=by simp[Str.length]
 rw[m] at a k l;have r:=qV9;exact tail_any (typeIs_str s z t) slot_str_getitem.lookup (getItem_str (by rw[(zB6 ⋯),(zB6 ⋯),Bool.or_false]) (by rw[a];simpa using g) ⟨.str ⟨#[c]⟩,H,I.tok _,⟨_,rfl⟩,q⟩) e
def rIx(K:Nx):R2:=λx y H Q=>rIxL K x y H Q∨rIxT K x y H Q∨rIxS x y H Q
theorem qb5:IxR X (rIx X.K):=qaS0.or (qbb0.or qbb1)
theorem qam3(its:List V')(n j:Nat)(u:V'):Obj.mapSeq (·.setIfInBounds j u) {cls:=.type "list",data:=.seq its.toArray n}={cls:=.type "list",data:=.seq (its.set j u).toArray n}:=by simp[Obj.mapSeq]
theorem Ox.l(I:Ox X Dg L H s)(h:H p=some (.l xs)):∃(its:List V')(n:Nat),Ov xs its/\s.heap.get? p=some {cls:=.type "list",data:=.seq its.toArray n}/\xs.length<=Kl:=by obtain⟨z,its,n,r,e⟩:=I.hok p _ h;exact⟨its,n,r,e,z⟩
theorem Ox.lstUpd{a:Nat}(I:Ox X Dg L H s)(h:H p=some (.l xs))(d:s.heap.get? p=some {cls:=.type "list",data:=.seq its.toArray n})(c:f {cls:=.type "list",data:=.seq its.toArray n}={cls:=.type "list",data:=.seq its'.toArray a})(r:Ov ys its')(g:ys.length<=Kl)(t:Nat):Ox X Dg L (upd H p (.l ys)) {s with heap:=s.heap.update p f,toks:=t}:=by
 have e:(s.heap.update p f).get? p=some {cls:=.type "list",data:=.seq its'.toArray a}:=by rw[Heap.get?_update_self f d (by rw[c]<;>rfl),c]
 refine I.write (by rw[h];trivial) (.inl rfl) (λb u i q=>(Heap.get?_update_other _ _ (Ne.symm i)).trans q) ⟨_,e⟩ ?_;exact⟨g,its',a,r,e⟩
def rSetL:V->V->V->Hp->(Hp->Prop)->Prop:=λo i v H Q=>∃p xs k j,o=.ref p/\i=.int k/\H p=some (.l xs)/\ixN xs.length k=some j/\Q (upd H p (.l (xs.set j v)))
theorem qai3:PSet X rSetL:=by
 intro Dg s L H o i v B C u Q I w x y h;obtain⟨p,D,k,j,rfl,rfl,f,z,q⟩:=h;cases w;obtain⟨t,rfl⟩:=x;obtain⟨a,n,r,c,A⟩:=I.l f;obtain⟨b,E,g,l⟩:=qZ6 z;have d:=r.length;have F:=qV9;have I':=I.lstUpd f c (qam3 a n j u) (r.set y j) (by rw[zBk];exact A) s.toks;by_cases m:0<=k
 .have e:k.toNat=j:=by rw[seqIndex_of m l] at b;exact Nv b
  exact W.ki_setAt c m ⋯ (by rw[zA3,<-d];exact l) (by rw[e];exact⟨_,I',q⟩)
 have e:(k+(a.toArray.size:Int)).toNat=j:=by rw[seqIndex_neg ⋯ g] at b;rw[zA3,<-d];exact Nv b
 exact W.ki_setBack c ⋯ (by rw[zA3,<-d];exact g) ⋯ (by rw[e];exact⟨_,I',q⟩)
theorem qT4(lo hi:Option Int)(n:Nat):(sliceBounds lo hi none n).1=((HT.sIx n 0 lo:Nat):Int)/\(sliceBounds lo hi none n).2.1=((HT.sIx n n hi:Nat):Int)/\(sliceBounds lo hi none n).2.2=1:=by refine⟨?_,?_,rfl⟩;{cases lo with|none=>simp[sliceBounds,HT.sIx]|some i=>simp only[sliceBounds,HT.sIx,Option.getD_none,show (1:Int)>0 by decide,if_true];by_cases h:i<0;{simp only[h,if_true]<;>lia};simp only[h,if_false]<;>lia};cases hi with|none=>simp[sliceBounds,HT.sIx]|some i=>simp only[sliceBounds,HT.sIx,Option.getD_none,show (1:Int)>0 by decide,if_true];by_cases h:i<0;{simp only[h,if_true]<;>lia};simp only[h,if_false]<;>lia
theorem qN9(its:List V')(lo hi:Option Int):slicePick its.toArray lo hi none=((its.drop (HT.sIx its.length 0 lo)).take (HT.sIx its.length its.length hi-HT.sIx its.length 0 lo)).toArray:=by obtain⟨a,b,c⟩:=qT4 lo hi its.toArray.size;unfold slicePick;rw[a,b,c];simp only[sliceRange_one,pick_run,zA3]<;>rfl
def rSlL(K:Nx):V->Option Int->Option Int->Hp->VK->Prop:=λx lo hi H Q=>∃a xs,x=.ref a/\SqL K H a xs/\∀p,H p=none->Q (.ref p) (upd H p (.l (Gh xs lo hi)))
theorem qah9:SlR X (rSlL X.K):=by intro Dg s L H x v t u e f w Q I i j k l h;obtain⟨a,c,rfl,m,q⟩:=h;cases i;obtain⟨n,r,g,p⟩:=I.list m;have d:=r.length;refine⟨"list",_,slot_list_getitem.lookup,g.isList.typeIs,?_⟩;refine wpAny_getItem_list_slice g.isList j k l .none (by simp) ?_ (by rw[zA3]<;>lia);rw[qN9,<-d];refine⟨.ref s.heap.objs.size,_,I.laid (t':=s.toks) (o:=.l (Gh c e f)) (λb y q=>zA4 _ q) (zA2 _) ?_,rfl,q _ (I.hok.fresh (zA2 _))⟩;exact⟨zAi (qaf8 c e f) p,_,0,(r.drop (HT.sIx c.length 0 e)).take (HT.sIx c.length c.length f-HT.sIx c.length 0 e),zAy _ rfl⟩
noncomputable def flatV:V->Bool|.non=>true|.bl _=>true|.int _=>true|.str _=>true|_=>false
noncomputable def eqV:V->V->Bool|.non,.non=>true|.bl a,.bl b=>a==b|.bl a,.int b=>(if a then 1 else 0)==b|.int a,.bl b=>a==(if b then 1 else 0)|.int a,.int b=>a==b|.str a,.str b=>a==b|_,_=>false
theorem qaU3(e:Ou y u)(c:Ou x v)(g:flatV y=true)(f:flatV x=true):SeqAt.EqAt A s u v (eqV y x):=by cases y with|non=>(cases e;cases x with|non=>cases c;exact SeqAt.EqAt.same _|bl b=>cases c;exact SeqAt.EqAt.none_bool b|int b=>obtain⟨t,rfl⟩:=c;exact SeqAt.EqAt.none_int b t|str b=>obtain⟨t,rfl⟩:=c;exact SeqAt.EqAt.none_str b t|_=>exact absurd (show false=true from f) zAt)|bl a=>(cases e;cases x with|non=>cases c;exact SeqAt.EqAt.bool_none a|bl b=>cases c;exact SeqAt.EqAt.bool_bool a b|int b=>obtain⟨t,rfl⟩:=c;exact SeqAt.EqAt.bool_int a b t|str b=>obtain⟨t,rfl⟩:=c;exact SeqAt.EqAt.bool_str a b t|_=>exact absurd (show false=true from f) zAt)|int a=>(obtain⟨d,rfl⟩:=e;cases x with|non=>cases c;exact SeqAt.EqAt.int_none a d|bl b=>cases c;exact SeqAt.EqAt.int_bool a d b|int b=>obtain⟨t,rfl⟩:=c;exact SeqAt.EqAt.int_int a d b t|str b=>obtain⟨t,rfl⟩:=c;exact SeqAt.EqAt.int_str a d b t|_=>exact absurd (show false=true from f) zAt)|str a=>(obtain⟨d,rfl⟩:=e;cases x with|non=>cases c;exact SeqAt.EqAt.str_none a d|bl b=>cases c;exact SeqAt.EqAt.str_bool a d b|int b=>obtain⟨t,rfl⟩:=c;exact SeqAt.EqAt.str_int a d b t|str b=>obtain⟨t,rfl⟩:=c;exact SeqAt.EqAt.str_str a d b t|_=>exact absurd (show false=true from f) zAt)|_=>exact absurd (show false=true from g) zAt
def eqU(x:V)(u:V'):Bool:=match u with|.none=>eqV .non x|.bool b=>eqV (.bl b) x|.int i _=>eqV (.int i) x|.str z _=>eqV (.str z) x|_=>false
theorem qav9(r:Ou y u)(f:flatV y=true):eqU x u=eqV y x:=by cases y with|non=>cases r;rfl|bl b=>cases r;rfl|int i=>obtain⟨t,rfl⟩:=r;rfl|str z=>obtain⟨t,rfl⟩:=r;rfl|_=>exact absurd (show false=true from f) zAt
theorem qR1{x:V}:∀{xs:List V}{us:List V'},Ov xs us->xs.all flatV=true->us.any (eqU x)=xs.any λy=>eqV y x|_,_,.nil,_=>rfl|y::xs,u::us,.cons r t,f=>by rw[Ly,zBi] at f;rw[zCa,zCa,qav9 r f.1,qR1 t f.2]
theorem qs6{A:K9}{s:δ}{x:V}{v:V'}(b:Ou x v)(c:flatV x=true):∀{xs:List V}{us:List V'},Ov xs us->xs.all flatV=true->∀u∈us,SeqAt.EqAt A s u v (eqU x u)|_,_,.nil,_=>λu a=>by cases a|y::xs,u::us,.cons r t,f=>λd a=>by rw[Ly,zBi] at f;rcases zAl.mp a with rfl|a;{rw[qav9 r f.1];exact qaU3 r b f.1 c};exact qs6 b c t f.2 d a
def inV(x:V)(xs:List V):Bool:=xs.any λy=>eqV y x
def rIn(K:Nx)(neg:Bool):R2:=λx y H Q=>∃p xs,y=.ref p/\(SqL K H p xs∨SqT K H p xs)/\flatV x=true/\xs.all flatV=true/\Q (.bl (if neg then !inV x xs else inV x xs)) H
theorem qz8:OpR X (Km .In) (rIn X.K false):=by intro Dg s L H x y v u Q I f i h;obtain⟨p,k,rfl,b,g,c,q⟩:=h;cases i;rcases b with b|b;{obtain⟨a,r,d,j⟩:=I.list b;refine SeqAt.in_listAt (eqU x) d.isList (λw e=>qs6 f g r c w (by simpa using e)) ⟨.bl _,H,I,rfl,?_⟩;rw[show a.toArray.any (eqU x)=a.any (eqU x) by simp,qR1 r c];exact q};obtain⟨a,r,d,j⟩:=I.tuple b;refine SeqAt.in_tupleAt (eqU x) d (λw e=>qs6 f g r c w (by simpa using e)) ⟨.bl _,H,I,rfl,?_⟩;rw[show a.toArray.any (eqU x)=a.any (eqU x) by simp,qR1 r c];exact q
theorem qs3:OpR X (Km .NotIn) (rIn X.K true):=by intro Dg s L H x y v u Q I f i h;obtain⟨p,k,rfl,b,g,c,q⟩:=h;cases i;rcases b with b|b;{obtain⟨a,r,d,j⟩:=I.list b;refine SeqAt.notIn_listAt (eqU x) d.isList (λw e=>qs6 f g r c w (by simpa using e)) ⟨.bl _,H,I,rfl,?_⟩;rw[show a.toArray.any (eqU x)=a.any (eqU x) by simp,qR1 r c];exact q};obtain⟨a,r,d,j⟩:=I.tuple b;refine SeqAt.notIn_tupleAt (eqU x) d (λw e=>qs6 f g r c w (by simpa using e)) ⟨.bl _,H,I,rfl,?_⟩;rw[show a.toArray.any (eqU x)=a.any (eqU x) by simp,qR1 r c];exact q
theorem qX2:CallR X (.builtin "len") (λxs H Q=>∃p ys,xs=[.ref p]/\(SqL X.K H p ys∨SqT X.K H p ys)/\Q (.int ys.length) H):=by intro Dg s L H xs i Q I r h;obtain⟨p,ys,rfl,b,q⟩:=h;obtain⟨u,rfl,f⟩:=By r;cases f;have j:=qV9;rcases b with b|b;{obtain⟨c,d,e,g⟩:=I.list b;have a:=d.length;exact Calls.call_len_list e.isList (by simp only[zA3]<;>lia) ⟨.int ys.length,H,I.tok _,⟨s.toks+1,by rw[zA3,a]⟩,q⟩};obtain⟨c,d,e,g⟩:=I.tuple b;have a:=d.length;exact len_tuple e (by simp only[zA3]<;>lia) ⟨.int ys.length,H,I.tok _,⟨s.toks+1,by rw[zA3,a]⟩,q⟩
theorem qX1:CallR X (.builtin "len") (λxs H Q=>∃z,xs=[.str z]/\z.length<=Kl/\Q (.int z.length) H):=by intro Dg s L H xs a Q I r h;obtain⟨z,rfl,b,q⟩:=h;obtain⟨u,rfl,t,rfl⟩:=By r;have c:=qV9;exact len_str ⋯ ⟨.int z.length,H,I.tok _,⟨_,rfl⟩,q⟩
theorem CallR.or{a:List V->Hp->VK->Prop}(h:CallR X f r)(h':CallR X f a):CallR X f (λxs H Q=>r xs H Q∨a xs H Q):=by intro Dg s L H xs b Q I c q;rcases q with q|q;{exact h Dg s L H xs b Q I c q};exact h' Dg s L H xs b Q I c q
theorem qj1:CallR X (.type "list") (λxs H Q=>∃p ys,xs=[.ref p]/\(SqL X.K H p ys∨SqT X.K H p ys)/\∀l,H l=none->Q (.ref l) (upd H l (.l ys))):=by
 intro Dg s L H xs A Q I r h;obtain⟨p,ys,rfl,g,q⟩:=h;obtain⟨u,rfl,z⟩:=By r;cases z;have fin:∀(a:List V'),Ov ys a->ys.length<=Kl->∀(c:Heap)(d:Nat),(∀b y,s.heap.get? b=some y->c.get? b=some y)->c.get? s.heap.objs.size=some {cls:=.type "list",dict:=none,data:=.seq a.toArray d,slots:=#[]}->EP X Dg L Q (.ref s.heap.objs.size) {s with heap:=c}:=λa f i c d j e=>
  ⟨.ref s.heap.objs.size,_,I.laid j (zA2 _) (show ObjOk X.prog X.w _ c _ (.l ys) from⟨i,a,d,f,e⟩),rfl,q _ (I.hok.fresh (zA2 _))⟩
 rcases g with g|g;{obtain⟨a,f,m,i⟩:=I.list g;have k:=f.length;obtain⟨o,t,v,n,x⟩:=m.isList;exact call_list_seq p (.inl rfl) t v x (λc d j e=>fin a f i c d j e) (by simp only[zA3]<;>lia)};obtain⟨a,f,m,i⟩:=I.tuple g;have k:=f.length;obtain⟨o,t,v,n,x⟩:=m;exact call_list_seq p (.inr rfl) t v x (λc d j e=>fin a f i c d j e) (by simp only[zA3]<;>lia)
def tyV(K:Nx)(T:String)(x:V)(H:Hp):Prop:=match x with|.str _=>T="str"|.int _=>T="int"|.ref p=>(T="list" /\ ∃xs,SqL K H p xs)∨(T="tuple" /\ ∃o,K.lookup p=some o/\o.cls=.type "tuple" /\ o.dict=none)∨(T="dict" /\ ((∃kvs,H p=some (.dK kvs))∨∃kvs,H p=some (.dT kvs)))∨(T="set" /\ ∃S n,H p=some (.set S n))|_=>False
theorem qaL5(I:Ox X Dg L H s)(r:Ou x v)(ty:tyV X.K T x H):s.TypeIs v T/\∀a,v=.ref a->∃ob,s.heap.get? a=some ob/\ob.dict=none:=by
 cases x with
 |str z=>obtain⟨t,rfl⟩:=r;cases (show T="str" from ty);exact⟨typeIs_str s z t,λ_ e=>nomatch e⟩|int i=>obtain⟨t,rfl⟩:=r;cases (show T="int" from ty);exact⟨typeIs_int s i t,λ_ e=>nomatch e⟩|ref p=>
  cases r;rcases ty with⟨rfl,xs,hq⟩|⟨rfl,o,hk,hc,d⟩|⟨rfl,hk⟩|⟨rfl,S,n,hk⟩;{obtain⟨g,_,f,_⟩:=I.list hq;refine⟨f.isList.typeIs,λa e=>?_⟩;cases e;obtain⟨o,n,e,c,d,_⟩:=f;exact⟨o,e,d⟩};{refine⟨⟨o,I.kIn p o hk,hc⟩,λa e=>?_⟩;cases e;exact⟨o,I.kIn _ o hk,d⟩}
  .have z:∃o,s.heap.get? p=some o/\o.ExactDict:=by rcases hk with⟨kvs,hk⟩|⟨kvs,hk⟩;{obtain⟨_,_,_,_,o,_,_,e,b,_⟩:=I.hok p _ hk;exact⟨o,e,b⟩};obtain⟨_,_,_,_,o,_,_,e,b,_⟩:=I.hok p _ hk;exact⟨o,e,b⟩
   obtain⟨o,e,b⟩:=z;refine⟨⟨o,e,b.1⟩,λa e2=>?_⟩;cases e2;exact⟨o,e,b.2.1⟩
  obtain⟨o,_,_,_,e,b,_⟩:=I.hok p _ hk;refine⟨⟨o,e,b.1⟩,λa e2=>?_⟩;cases e2;exact⟨o,e,b.2.1⟩
 |_=>exact Oh ty
def tBM0(K:Nx)(T:String)(r:V->List V->Hp->VK->Prop)(O:TE):TE:=λL H Q=>O L H λx H1=>tyV K T x H1/\r x [] H1 Q
def tBM(K:Nx)(T:String)(r:V->List V->Hp->VK->Prop)(O:TE)(t:TA):TE:=λL H Q=>O L H λx H1=>tyV K T x H1/\t L H1 λxs H2=>r x xs H2 Q
variable{o e:Lb}{R:List Lb}{O:TE}{t:TA}{name:Str}{N M:Pos}{T U:String}{r:V->List V->Hp->VK->Prop}
theorem qaP5(d:PlainAttrs T)(slot:Slot T name U)(a:typeOf (.builtin U)=pure (.type "method_descriptor"))(hm:MtR X U r)(e:PE X o O)(hbase:Ks o name X.env (eval o X.env)=eval o X.env:=by rfl)(hline:(N.endLine==M.line)=true:=by rfl):PE X (.Call (.Attribute o name N) [] [] M) (tBM0 X.K T r O):=by intro Dg s L H Q I h;refine wpAny_Call_method0_late hbase hline (thn (e Dg s L H _ I h) λv f b=>?_);obtain⟨x,H1,I1,c,ty,g⟩:=b;obtain⟨i,j⟩:=qaL5 I1 c ty;exact⟨T,U,d,slot,a,i,j,Calls.callWith_builtin rfl (PySem.evalArgs_none (hm Dg f L H1 x [] v [] Q I1 c .nil g))⟩
theorem Hg(g:PlainAttrs T)(slot:Slot T name U)(b:typeOf (.builtin U)=pure (.type "method_descriptor"))(hm:MtR X U r)(i:PE X o O)(j:PA X (e::R) t)(hbase:Ks o name X.env (eval o X.env)=eval o X.env:=by rfl)(a:((backTo M (J' (e::R) X.env)).all (λx=>!x.1)&&(backToKw M (Kw [] X.env)).all (λx=>x.1.isSome)
 && decide ((e::R).length+([]:List Keyword).length+(if ([]:List Keyword).isEmpty then 0 else 1)<30))=true:=by rfl)(hline:(N.endLine==M.line)=true:=by rfl)(k:J' (e::R) X.env=(false,eval e X.env)::J' R X.env:=by rfl)(hplain:(backTo M (J' R X.env)).any (·.1)=false:=by rfl):PE X (.Call (.Attribute o name N) (e::R) [] M) (tBM X.K T r O t):=by intro Dg s L H Q I h;refine wpAny_Call_method_late hbase a hline rfl (thn (i Dg s L H _ I h) λv l c=>?_);obtain⟨x,H1,I1,d,ty,m⟩:=c;obtain⟨n,p⟩:=qaL5 I1 d ty;refine⟨T,U,g,slot,b,n,p,?_⟩;have f:=j M Dg l L H1 _ I1 m;rw[k] at f ⊢;refine Calls.callWith_builtin (by show (false||(backTo M (J' R X.env)).any (·.1))=false;rw[hplain]<;>rfl) (Calls.evalArgs_plain ?_);exact thn f λq u ⟨w,H2,I2,y,q2⟩=>hm Dg u L H2 x w v q Q I2 d y q2
/- xs.append(e),list.index on a module's tuple .. are MtR facts of 06m -/
end
def MtM(X:Cx)(id:String)(r:V->List V->Hp->VK->Prop):Prop:=∀(Dg:List (γ×Obj))(s:δ)(a:St)(H:Hp)(x:V)(xs:List V)(v:V')(us:List V')(Q:VK),Ox X Dg a H s->Ou x v->Ov xs us->r x xs H Q->K6 (K7 X.prog X.w) X.A (call (.builtin id) (v::us)) (EP X Dg a Q) X.xe s
theorem Ov.one(h:Ov [x] us):∃u,us=[u]/\Ou x u:=by cases h with|cons r t=>cases t;exact⟨_,rfl,r⟩
theorem Ov.two(h:Ov [x,y] us):∃u v,us=[u,v]/\Ou x u/\Ou y v:=by cases h with|cons r t=>cases t with|cons q t=>cases t;exact⟨_,_,rfl,r,q⟩
theorem Ov.zero:∀{us:List V'},Ov [] us->us=[]|_,.nil=>rfl
theorem Ov.dropLast(h:Ov xs us):Ov xs.dropLast us.dropLast:=by induction h with|nil=>exact .nil|cons r t a=>cases t with|nil=>exact .nil|cons q b=>exact .cons r a
theorem Ov.eraseIdx:∀{xs:List V}{us:List V'}(i:Nat),Ov xs us->Ov (xs.eraseIdx i) (us.eraseIdx i)|_,_,_,.nil=>.nil|_,_,0,.cons _ t=>t|_,_,i+1,.cons r t=>.cons r (Ov.eraseIdx i t)
theorem Ov.rep{xs:List V}{us:List V'}(h:Ov xs us):∀k:Nat,Ov (Ls k xs).flatten (Ls k us).flatten|0=>.nil|k+1=>by rw[zBp,zBp,zC7,zC7];exact Ov.append h (Ov.rep h k)
theorem qap3(l:List α):l.eraseIdx (l.length-1)=l.dropLast:=by
 induction l with
 |nil=>rfl|cons a r c=>
  cases r with
  |nil=>rfl|cons b r=>
   have e:(a::b::r).length-1=((b::r).length-1)+1:=by have d:(a::b::r).length=r.length+2:=rfl;have f:(b::r).length=r.length+1:=rfl;lia
   rw[e,List.eraseIdx_cons_succ,c];all_goals rfl
theorem qaa4(its:List V'):∀(k:Nat)(acc:List V'),
 Me (λa b=>a++b) acc.toArray (Ls k its.toArray)=(acc++(Ls k its).flatten).toArray
 |0,acc=>by simp
 |k+1,acc=>by
  have e:acc.toArray++its.toArray=(acc++its).toArray:=by simp
  have e2:(acc++its)++(Ls k its).flatten=acc++(Ls (k+1) its).flatten:=by
   rw[zBp,zC7,zAm]
  rw[<-e2,<-qaa4 its k (acc++its),<-e,zBp,M6]
section
variable{X:Cx}{k:List (γ×Obj)}{j:St}{H:Hp}{s:δ}{l:γ}{xs ys:List V}
theorem Ox.lset(I:Ox X k j H s)(a:H l=some (.l xs))(e:s.heap.get? l=some {cls:=.type "list",data:=.seq its.toArray n})(b:f its.toArray=its'.toArray)(c:Ov ys its')(d:ys.length<=Kl):Ox X k j (upd H l (.l ys)) {s with heap:=s.heap.update l (Obj.mapSeq f),toks:=t'}:=by have q:=PySem.IsL.update e f;rw[b] at q;refine I.write (by rw[a];exact trivial) (.inl rfl) (λi u g h=>(Heap.get?_update_other s.heap (Obj.mapSeq f) (Ne.symm g)).trans h) ⟨_,q⟩ ?_;exact⟨d,its',_,c,q⟩
theorem Ox.lnew(I:Ox X k j H s)(a:Ov ys its)(b:ys.length<=Kl):Ox X k j (upd H s.heap.objs.size (.l ys)) {s with heap:=s.heap.push {cls:=.type "list",data:=.seq its.toArray},toks:=t'}:=I.laid (λ_ _ q=>zA4 _ q) (zA2 _) ⟨b,its,0,a,zAy _ rfl⟩
theorem Ox.fresh(I:Ox X k j H s):H s.heap.objs.size=none:=I.hok.fresh (zA2 _)
theorem Ox.lstM(I:Ox X k j H s)(a:H l=some (.l xs)):xs.length<=Kl/\∃(its:List V')(n:Nat),Ov xs its/\xs.length=its.length/\s.heap.get? l=some {cls:=.type "list",data:=.seq its.toArray n}:=by obtain⟨z,its,n,r,e⟩:=I.hok l _ a;exact⟨z,its,n,r,r.length,e⟩
theorem qaG5(h:n<=Kl):Builtin.List.listTooLong n=false:=by unfold Builtin.List.listTooLong;exact zB6 ⋯
end
section
variable{X:Cx}
def qaz0:V->List V->Hp->VK->Prop:=λx vs H Q=>∃l xs y,x=.ref l/\vs=[y]/\H l=some (.l xs)/\xs.length<Kl/\Q .non (upd H l (.l (xs++[y])))
theorem qd6:MtM X "list.append" qaz0:=by intro Dg s L H x g v i Q I c d h;obtain⟨l,j,y,rfl,rfl,b,k,q⟩:=h;cases c;obtain⟨u,rfl,f⟩:=d.one;obtain⟨z,a,n,r,m,e⟩:=I.lstM b;refine Kz N0 ⟨_,e,rfl⟩ F.entry_list_append (F.args_list_append_2 _ _) (PySem.list_append l a.toArray n u (by rw[zA3];lia)) ⟨e,?_⟩;refine⟨.non,_,I.lset (its':=a++[u]) b e (by simp) (r.append (.cons f .nil)) ?_,rfl,q⟩;rw[zAd,Mp];lia
def rPop:V->List V->Hp->VK->Prop:=λx vs H Q=>∃l xs y,x=.ref l/\vs=[]/\H l=some (.l xs)/\xs[xs.length-1]?=some y/\Q y (upd H l (.l xs.dropLast))
theorem qaZ7:MtM X "list.pop" rPop:=by
 intro Dg s L H x o v p Q I f g h;obtain⟨l,t,y,rfl,rfl,d,i,q⟩:=h;cases f;have b:=g.zero;subst b;obtain⟨z,a,n,r,j,e⟩:=I.lstM d;obtain⟨u,k,m⟩:=r.get i;have c:a.toArray[a.toArray.size-1]?=some u:=by show a.toArray[a.length-1]?=some u;rw[<-Array.getElem?_toList,<-j];exact k
 refine Kz Oc ⟨_,e,rfl⟩ F.entry_list_pop (F.args_list_pop_1 _) (MeetsSeq.list_pop_last l a.toArray n u c (by rw[zA3];lia)) ⟨e,?_⟩;refine⟨y,_,I.lset d e ?_ r.dropLast ?_,m,q⟩;{show a.toArray.eraseIdxIfInBounds (a.toArray.size-1)=a.dropLast.toArray;rw[zA3,List.eraseIdxIfInBounds_toArray,qap3]};rw[List.length_dropLast];lia
def qaN7:V->List V->Hp->VK->Prop:=λx vs H Q=>∃l xs,x=.ref l/\vs=[]/\H l=some (.l xs)/\Q .non (upd H l (.l []))
theorem qaH4:MtM X "list.clear" qaN7:=by intro Dg s L H x g v i Q I d f h;obtain⟨l,j,rfl,rfl,c,q⟩:=h;cases d;have a:=f.zero;subst a;obtain⟨z,b,n,r,k,e⟩:=I.lstM c;refine Kz N7 ⟨_,e,rfl⟩ F.entry_list_clear (F.args_list_clear_1 _) (AutoSeq1.list_clear_list_0 l b.toArray n (by rw[zA3];lia)) ⟨e,?_⟩;exact⟨.non,_,I.lset c e rfl .nil (zBf _),rfl,q⟩
def rCat:R2:=λx y H Q=>∃l b xs a,x=.ref l/\y=.ref b/\H l=some (.l xs)/\H b=some (.l a)/\xs.length+a.length<=Kl/\∀p,H p=none->Q (.ref p) (upd H p (.l (xs++a)))
theorem qaZ1:OpR X (K5 .Add) rCat:=by
 intro Dg s L H x y v u Q I c d h;obtain⟨l,b,m,o,rfl,rfl,f,g,p,q⟩:=h;cases c;cases d;obtain⟨z,a,n,r,t,e⟩:=I.lstM f;obtain⟨w,its2,A,i,j,e2⟩:=I.lstM g;refine PySem.P.add_list e e2 ?_ (by rw[zA3,zA3];lia);have k:a.toArray++its2.toArray=(a++its2).toArray:=by simp
 rw[k];exact⟨.ref _,_,I.lnew (r.append i) (by rw[zAd];lia),rfl,q _ I.fresh⟩
def rRep:R2:=λx y H Q=>∃l k xs,x=.ref l/\y=.int k/\H l=some (.l xs)/\-(2 ^ 63)<=k/\k<2 ^ 63/\xs.length*k.toNat<=Kl/\∀p,H p=none->Q (.ref p) (upd H p (.l (Ls k.toNat xs).flatten))
theorem qaR1(xs:List α)(k:Nat):(Ls k xs).flatten.length=k*xs.length:=by induction k with|zero=>simp|succ k a=>rw[zBp,zC7,zAd,a,Nat.succ_mul,Nat.add_comm]
theorem qaY3:OpR X (K5 .Mult) rRep:=by
 intro Dg s L H x y v u Q I p w h;obtain⟨l,k,J,rfl,rfl,A,B,C,o,q⟩:=h;cases p;obtain⟨t,rfl⟩:=w;obtain⟨z,b,n,r,D,e⟩:=I.lstM A;have c:b.toArray.size*k.toNat<=Kl:=by rw[zA3,<-D];exact o
 have d:¬b.toArray.size*k.toNat>(2 ^ 63-1)/8:=by have:(Kl:Nat)<=(2 ^ 63-1)/8:=∅;lia
 have f:¬(!Builtin.List.listFitsIndex k)=true:=by rw[fitsIndex_both B C];exact zAt
 have hlong:¬Builtin.List.listTooLong (b.toArray.size*k.toNat)=true:=by rw[qaG5 c];exact zAt
 have g:Me (λi j=>i++j) #[] (Ls (if b.toArray.isEmpty=true then 0 else k.toNat) b.toArray)=(Ls k.toNat b).flatten.toArray:=by
  have E:∀m:Nat,Me (λi j=>i++j) #[] (Ls m b.toArray)=(Ls m b).flatten.toArray:=λm=>by have:=qaa4 b m [];rw[zB4] at this;exact this
  rw[E];cases b with|nil=>simp|cons a K=>rw[if_neg (by simp)]
 refine wpAny_binaryOp_repeat_ref (T := "list") (U := "int") ∅ ⟨_,e,rfl⟩ (λG=>typeIs_int G k t) noFill_list_mul F.fills_int_mul Oe repeat_list F.slot_int_index.lookup
  (Kz Oe (typeIs_int s k t) F.entry_int_rmul (F.args_int_rmul_2 _ _) (int___rmul___int_list k t l b.toArray n)
   ⟨e,rfl,⟨_,e,rfl⟩,Kz F.slot_list_mul ⟨_,e,rfl⟩ F.entry_list_mul (F.args_list_mul_2 _ _) (AutoListH.list___mul___list_int_3 l b.toArray n k t f d hlong) ⟨e,?_⟩⟩)
 rw[g];exact⟨.ref _,_,I.lnew (t':=s.toks) (r.rep k.toNat) (by rw[qaR1,Nat.mul_comm];exact o),rfl,q _ I.fresh⟩
end
section
variable{f:Type}[DecidableEq f]
noncomputable def E2(kvs:List (f×V))(k:f):Option V:=(kvs.find? λa=>decide (a.1=k)).map (·.2)
noncomputable def putK(kvs:List (f×V))(k:f)(v:V):List (f×V):=if (kvs.any λa=>decide (a.1=k))=true then kvs.map (λa=>if a.1=k then (a.1,v) else a) else kvs++[(k,v)]
theorem qR7{k:f}(e:p.1=k):E2 (p::r) k=some p.2:=by simp[E2,zBy,e]
theorem qR8{k:f}(e:¬p.1=k):E2 (p::r) k=E2 r k:=by simp[E2,zBy,e]
theorem qaf4(kvs:List (f×V))(k:f)(v:V):(putK kvs k v).length<=kvs.length+1:=by unfold putK;split;{rw[zAa];lia};rw[zAd,zAq,Mf];lia
theorem RelO.getD(r:RelO o u)(b:Ou d a):Ou (o.getD d) (u.getD a):=by cases o with|none=>(cases u with|none=>exact b|some _=>exact(show False from r).elim)|some _=>cases u with|none=>exact(show False from r).elim|some _=>exact r
theorem KV.val(r:KV kvs vs)(k:f):RelO (E2 kvs k) (valueAt vs k):=by
 unfold KV at r;induction r with
 |nil=>exact True.intro|@cons p q ps qs h t ih=>
  obtain⟨c,d⟩:=h;by_cases e:p.1=k
  .have a:=c.symm.trans e;have b:valueAt (q::qs) k=some q.2:=by simp[valueAt,zBy,a]
   rw[qR7 e,b];exact d
  have a:¬q.1=k:=λz=>e (c.trans z);have b:valueAt (q::qs) k=valueAt qs k:=by simp[valueAt,zBy,a]
  rw[qR8 e,b];exact ih
theorem KV.any(r:KV kvs vs)(k:f):(kvs.any λa=>decide (a.1=k))=vs.any λa=>decide (a.1=k):=by unfold KV at r;induction r with|nil=>rfl|cons h t b=>rw[zCa,zCa,b,h.1]
theorem KV.repl(r:KV kvs vs)(k:f)(c:Ou y u):KV (kvs.map λa=>if a.1=k then (a.1,y) else a) (vs.map λa=>if a.1=k then (a.1,u) else a):=by unfold KV at r ⊢;induction r with|nil=>exact .nil|@cons p q ps qs h t ih=>rw[zAz,zAz];refine .cons ?_ ih;obtain⟨b,d⟩:=h;by_cases e:p.1=k;{rw[if_pos e,if_pos (b.symm.trans e)];exact⟨b,c⟩};rw[if_neg e,if_neg (λz=>e (b.trans z))];exact⟨b,d⟩
theorem KV.put(r:KV kvs vs)(k:f)(a:Ou y u):KV (putK kvs k y) (stored vs k u):=by unfold putK stored;rw[r.any k];by_cases e:(vs.any λb=>decide (b.1=k))=true;{rw[if_pos e,if_pos e];exact r.repl k a};rw[if_neg e,if_neg e];exact Paired.snoc r ⟨rfl,a⟩
theorem KV.length{vs:List (f×V')}(r:KV kvs vs):kvs.length=vs.length:=Paired.length r
end
theorem Jj(r:Ou (kV k) u):(qg2 P w).is k u=true:=by cases k with|inl i=>obtain⟨t,e⟩:=(show ∃t,u=Nk i t from r);subst e;exact qaf1 P w i t|inr x=>obtain⟨t,e⟩:=(show ∃t,u=Nm x t from r);subst e;exact qaf0 P w x t
theorem qZ7{P:K8}{w:La}:∀{ks:List Key}{us:List V'},Ov (ks.map kV) us->ItemsAre (qg2 P w) ks us|[],_,r=>by rw[Mx] at r;cases r;exact .nil|k::ks,_,r=>by rw[zAz] at r;cases r with|cons h t=>exact .cons (Jj h) (qZ7 t)
abbrev KT(H:Hp):List (List Key×V)->List (List Key×γ×V')->Prop:=Paired λp q=>p.1=q.1/\H q.2.1=some (.q (p.1.map kV))/\Ou p.2 q.2.2
theorem KT.val(r:KT H kvs xs)(k:List Key):RelO (E2 kvs k) ((atKey xs k).map (·.2)):=by
 induction r with
 |nil=>exact True.intro|@cons p q ps qs h t ih=>
  obtain⟨c,_,d⟩:=h;by_cases e:p.1=k
  .have a:=c.symm.trans e;have b:atKey (q::qs) k=some q.2:=by simp[atKey,zBy,a]
   rw[qR7 e,b];exact d
  have a:¬q.1=k:=λz=>e (c.trans z);have b:atKey (q::qs) k=atKey qs k:=by simp[atKey,zBy,a]
  rw[qR8 e,b];exact ih
section
variable{P:K8}{w:La}{H:Hp}{h:Heap}{a:γ}
theorem rd_of(b:HOk P w H h)(e:Rd H a u):ObjOk P w H h a u:=e.ok b
theorem Gi(b:HOk P w H h)(e:Rd H a (.dK kvs)):kvs.length<=Kl/\(a==Kv)=false/\∃vs,KV kvs vs/\h.DictOf (qg2 P w) a vs:=show ObjOk P w H h a (.dK kvs) from rd_of b e
theorem qaR9(c:HOk P w H h)(e:H a=some (.q (ks.map kV))):(tupleKind (qg2 P w)).is h ks a:=by obtain⟨_,b,r,o,d,f,n,g⟩:=(show ObjOk P w H h a (.q (ks.map kV)) from c a _ e);exact⟨o,b.toArray,n,d,f,g,by simpa using qZ7 r⟩
theorem dt_rd(c:HOk P w H h)(e:Rd H a (.dT kvs)):kvs.length<=Kl/\(a==Kv)=false/\∃xs,KT H kvs xs/\h.DictOfH (tupleKind (qg2 P w)) a xs:=by
 obtain⟨z,y,xs,r,o,d,f,g,i,j,k,n⟩:=(show ObjOk P w H h a (.dT kvs) from rd_of c e);refine⟨z,y,xs,r,o,d,f,g,i,j,k,λx b=>?_,n⟩;have all:∀{l:List (List Key×V)}{m:List (List Key×γ×V')},KT H l m->∀x∈m,(tupleKind (qg2 P w)).is h x.1 x.2.1:=by intro l m q;induction q with|nil=>intro x b;exact nomatch b|@cons p q ps qs hq t ih=>intro x b;rcases zAl.mp b with e|b;{subst e;exact qaR9 c (by rw[<-hq.1];exact hq.2.1)};exact ih x b
 exact all r x b
end
def DGet(H:Hp)(a:γ)(y:V)(r:Option V):Prop:=(∃kvs k,Rd H a (.dK kvs)/\y=kV k/\r=E2 kvs k)∨∃kvs k b,Rd H a (.dT kvs)/\y=.ref b/\H b=some (.q (k.map kV))/\r=E2 kvs k
section
variable{X:Cx}{b:List (γ×Obj)}{a:St}{H:Hp}{s:δ}
theorem Ox.big(I:Ox X b a H s):Kv<s.heap.objs.size:=by exact Nat.lt_trans ∅ ((I.mod.glob.keeps I.bk).lt)
end
section
variable{X:Cx}{g:List (γ×Obj)}{f:St}{H:Hp}{s:δ}{a:γ}{kvs:List (Key×V)}{A:K9}{E:V'->δ->Prop}
theorem d_len(I:Ox X g f H s)(e:Rd H a (.dK kvs))(h:∀t s',Ox X g f H s'->Q (.int kvs.length t) s'):K6 (K7 X.prog X.w) A (call (.builtin "len") [.ref a]) Q E s:=by obtain⟨z,b,d,rel,c⟩:=Gi I.hok e;refine call_len_dict b c (by rw[<-rel.length];rw[Kt] at z;lia) ?_;rw[<-rel.length];exact h _ _ (I.tok _)
end
def qG1(kvs more:List (Key×V)):List (Key×V):=more.foldl (λacc a=>putK acc a.1 a.2) kvs
theorem qy5:∀(more kvs:List (Key×V)),(qG1 kvs more).length<=kvs.length+more.length|[],kvs=>by show kvs.length<=kvs.length+0;lia|p::r,kvs=>by have a:=qy5 r (putK kvs p.1 p.2);have b:=qaf4 kvs p.1 p.2;show (qG1 (putK kvs p.1 p.2) r).length<=_;rw[zAq];lia
structure M2(X:Cx)(o:Lb)(m:Str)(apos:Pos)(e f:Lb)(cpos:Pos):Prop where
 base:Ks o m X.env (eval o X.env)=eval o X.env
 few:((backTo cpos (J' [e,f] X.env)).all (λx=>!x.1)&&(backToKw cpos (Kw [] X.env)).all (λx=>x.1.isSome)
   && decide (([e,f]:List Lb).length+([]:List Keyword).length+(if ([]:List Keyword).isEmpty then 0 else 1)<30))=true
 line:(apos.endLine==cpos.line)=true
 trees:backTo cpos (J' [e,f] X.env)=[(false,eval e X.env),(false,eval f X.env)]
def IsD(H:Hp)(a:γ):Prop:=(∃kvs,Rd H a (.dK kvs))∨∃kvs,Rd H a (.dT kvs)
theorem qaS3(I:Ox X Dg k H s)(d:IsD H a):s.TypeIs (.ref a) "dict" /\ (∀b,Nj a=.ref b->∃ob,s.heap.get? b=some ob/\ob.dict=none)/\(a==Kv)=false:=by rcases d with⟨kvs,e⟩|⟨kvs,e⟩;{obtain⟨_,f,i,_,c⟩:=Gi I.hok e;refine⟨c.typeIs,λb q=>?_,f⟩;cases q;obtain⟨ob,_,_,g,h,_⟩:=c;exact⟨ob,g,h.2.1⟩};obtain⟨_,f,j,_,c⟩:=dt_rd I.hok e;refine⟨c.typeIs,λb q=>?_,f⟩;cases q;obtain⟨ob,_,_,g,h,_⟩:=c;exact⟨ob,g,h.2.1⟩
section
variable{X:Cx}{v:List (γ×Obj)}{t:St}{H:Hp}{s:δ}{a:γ}{y d:V}{u r:V'}{o:Option V}{A:K9}{E:V'->δ->Prop}
theorem qbd2(n:A.units+1<cLine)(I:Ox X v t H s)(g:DGet H a y o)(i:Ou y u)(j:Ou d r)(h:∀m s',Ox X v t H s'->Ou (o.getD d) m->Q m s'):K6 (K7 X.prog X.w) A (call (.builtin "dict.get") [.ref a,u,r]) Q E s:=by rcases g with⟨kvs,k,e,ey,l⟩|⟨kvs,k,b,e,ey,eb,l⟩;{subst ey;obtain⟨z,f,q,rel,c⟩:=Gi I.hok e;refine call_meetsIn N4 c.typeIs Ob (N8 _ _ _) (meets_dict_get_default (qg2 X.prog X.w) a (Jj i) f r) ⟨_,c.mapOf,h _ _ (I.tok _) ?_⟩;rw[l];exact(rel.val k).getD j};subst ey;cases (show u=Nj b from i);obtain⟨z,f,p,rel,c⟩:=dt_rd I.hok e;refine call_meetsIn N4 c.typeIs Ob (N8 _ _ _) (meetsH_dict_get_default (tupleKind (qg2 X.prog X.w)) a b f r) ⟨tupleKind_room_in1 n,k,p,qaR9 I.hok eb,c,h _ _ (I.tok _) ?_⟩;rw[l];exact(rel.val k).getD j
end
def qaW7(td ty tx:TE):TE:=λb H Q=>td b H λx H1=>∃a,x=.ref a/\IsD H1 a/\ty b H1 λy H2=>tx b H2 λz H3=>∃o,DGet H3 a y o/\Q (o.getD z) H3
section
variable{X:Cx}{o e f:Lb}{M N:Pos}{R O S:TE}
theorem qaF4(i:X.A.units+1<cLine)(j:PE X o R)(k:PE X e O)(l:PE X f S)(m:M2 X o "get" M e f N):PE X (.Call (.Attribute o "get" M) [e,f] [] N) (qaW7 R O S):=by
 intro Dg s L H Q I h;refine wpAny_Call_method m.base m.few m.line N9 N4 F.type_dict_get (thn (j Dg s L H _ I h) λu n b=>?_);obtain⟨x,H1,I1,p,a,q,d,r⟩:=b;subst q;obtain rfl:u=Nj a:=p;obtain⟨t1,t2,_⟩:=qaS3 I1 d;refine⟨t1,t2,?_⟩;rw[m.trees];refine Calls.callWith_builtin rfl (Calls.evalArgs_plain (Calls.spliced_cons (thn (k Dg n L H1 _ I1 r) λC t ⟨y,H2,I2,v,q2⟩=>
  Calls.spliced_cons (thn (l Dg t L H2 _ I2 q2) λD E ⟨z,H3,I3,w,G,g,B⟩=>Calls.spliced_nil ?_))))
 exact qbd2 i I3 g v w λJ K I4 c=>⟨_,H3,I4,c,B⟩
end
end L2
namespace Att
open PySem PySem.W PySem.Calls PyProof.Rows
theorem qG5:∀(ns:List Int)(vs:List V'),WellAll P h vs (ns.map WData.int)->IntsAre vs ns:=by intro ns;induction ns with|nil=>intro vs w;rw[Mx] at w;cases w;exact .nil|cons n ns c=>intro vs w;rw[zAz] at w;cases w with|cons a b=>cases a;exact .cons _ _ (c _ b)
theorem qas7{l:OpenLaw}(m:l.most=some n)(b:l.row.toRowW.claim.pre args=true)(i:WellAll P h vals args):∃a vs ns,vals=[Nj a]/\args=[WData.list (ns.map WData.int)]/\h.get? a=some {cls:=.type "list",data:=.seq vs.toArray}/\IntsAre vs ns/\ns.length<=n:=by
 have j:WShape.hasAll [] args [.list .int]=true:=(pre_splitW b).1;have k:l.pre.holds [] {args:=args}=true:=(pre_splitW b).2;obtain⟨d,r,rfl,o,p⟩:=hasAllW_cons j;obtain rfl:=hasAllW_nil p;obtain⟨x,rfl,s⟩:=hasW_list o;obtain⟨ns,rfl⟩:=items_int s;have c:ns.length<=n:=by
  unfold OpenLaw.pre at k;have f:(WTm.not (.lt (.lit (.int (n:Int))) (.len (.arg 0)))).holds [] {args:=[.list (ns.map .int)]}=true:=by have f:=(holds_andW k).1;rw[m] at f;exact f
  have g:=condW_of f (w_not (w_lt w_lit (w_len_list (w_arg rfl))));rw[zAa] at g;refine zC0 λq=>?_;have t:(n:Int)<((ns.length:Nat):Int):=⋯;first
   |(rw[zAj t] at g;exact absurd g ∅)
   |(simp at g;lia)
 cases i with|cons u v=>cases v;cases u with|list w e=>exact⟨_,_,ns,rfl,rfl,w,qG5 ns _ e,c⟩
theorem qat2(l:OpenLaw)(args:List WData):l.row.toRowW.claim.post args (.bool true) args=true:=postW_of (r:=l.row.toRowW) (X:=(true==true))
 (show WShape.has [] (.bool true) .bool=true by first|rfl|decide|simp[WShape.has,WShape.arms,WShape.armsAll])
 (show (WTm.eq .res (.lit (.bool true))).value [] {args:=args,res:=some (.bool true),after:=args}=some (.bool (true==true)) from w_eq_bool (w_res rfl) w_lit) rfl
theorem qag1{l:OpenLaw}(u:l.most=some n)(h:d.params.defaults=[])(call:∀(w:La)(s₀ s₁:δ)(mg i:Str->Option V')(fa:γ)(o:Obj)(j cd b:V')(a:γ)(vs:List V')(ns:List Int),
 Ground q loose [] XP w s₀ mg i s₁.heap->YP w s₁.heap->s₁.heap.get? fa=some o->o.data=.func (docDef d.name d.params d.body d.scope j cd b)->s₁.heap.CodeRec cd d.name->mg d.name=some (.ref fa)->s₁.heap.get? a=some {cls:=.type "list",data:=.seq vs.toArray}->IntsAre vs ns->ns.length<=n->s₁.gens = #[]->codeAny (K7 l.prog w) callerA (.call (.ref fa) ⟨[.ref a],[]⟩) (λr s'=>r=.ok (.ret (.bool true))/\OldK s₁.heap s'.heap/\s'.os=s₁.os/\AllBare s'.gens) s₁):WalkO q loose XP YP l.row.toRowW d [] (λf vs=>PySem.call f vs):=by intro w s₀ s₁ mg i G Y fa o j cd b v kV x y k s m z args vals I c t A p B;obtain rfl:v=.none:=Dflts.none s h;obtain rfl:kV=.none:=Dflts.noKw s;obtain⟨a,vs,ns,rfl,rfl,e,hints,g⟩:=qas7 u c p;refine enter_call (codeAny_mono (call w s₀ s₁ mg i fa o j cd b a vs ns G Y x (fd_plain y) k m e hints g z) λr s' C=>?_);obtain⟨rfl,D,E,F⟩:=C;exact⟨.inl ⟨.bool true,.bool true,[],rfl,λ_=>rfl,.bool true,qat2 l _,λ_=>⟨List.Pairwise.nil,λ_ H=>(nomatch H)⟩⟩,D,E,F⟩
end Att
namespace L2
open PySem PySem.Spec PyProof.Rows
theorem qX6:∀{vs:List V'}{ns:List Int},IntsAre vs ns->Ov (ns.map V.int) vs|_,_,.nil=>.nil|_,_,.cons n t h=>.cons ⟨t,rfl⟩ (qX6 h)
def Only(H:Hp):Prop:=∀b,H b=none∨∃o xs,H b=some (.frz o (.l xs))
theorem qaI0{K:Nx}(KX:K.In s₁.heap)(g:s₁.heap.Ns Ku mg)(c:s₁.heap.Ns builtinsNs C)(D:∀x:Str,x ≠ "__name__" -> C x=Kq x)(i:s₁.heap.NoLimit)(T:s₁.gens = #[])(B:s₁.heap.get? a=some {cls:=.type "list",data:=.seq vs.toArray})(hi:IntsAre vs ns)(M:ns.length<=Kl)(U:Room k callerA)(F:∀base:Heap,K.In base->base.Ns Ku mg->Du P w K mg base CX k fa fd [x] sp)(hbind:∀(s:δ)(u:V'),BindsTo s fd ⟨[u],[]⟩ [(x,u)])(E:∀H:Hp,Only H->SqL K H a (ns.map V.int)->sp [.ref a] H (λv _=>v=.bl true) λ_ _ _=>False)(G:∀H e s',CX [] H s₁ (λ_ _ _=>False) e s'->False):codeAny (K7 P w) callerA (.call (.ref fa) ⟨[.ref a],[]⟩) (λr s'=>r=.ok (.ret (.bool true))/\OldK s₁.heap s'.heap/\s'.os=s₁.os/\AllBare s'.gens) s₁:=by
 have N:=qX6 hi;have lenV:=hi.length;have core:∀H:Hp,Only H->SqL K H a (ns.map V.int)->HOk P w H s₁.heap->(∀b,H b≠none->b=a)->(H a≠none->K.lookup a=none)->codeAny (K7 P w) callerA (.call (.ref fa) ⟨[.ref a],[]⟩) (λr s'=>r=.ok (.ret (.bool true))/\OldK s₁.heap s'.heap/\s'.os=s₁.os/\AllBare s'.gens) s₁:=by
  intro H O X j Q Y;have base_of:∀{b:γ}{o:Obj},s₁.heap.get? b=some o->H b=none->(Gd s₁.heap H).get? b=some o:=λe n=>qaI8 e n;have I:∀{b:γ}{o:Obj}{l:Array DictEntry}{p:Nat},s₁.heap.get? b=some o->o.data=.dict l p->H b=none:=λ{b o l p} e d=>by cases q:H b with|none=>rfl|some u=>have J:b=a:=Q b (by rw[q];simp);subst J;rw[B] at e;cases e;have Z:Data.seq vs.toArray _=Data.dict l p:=d;cases Z
  have f:∀{b:γ}{m:Str->Option V'},s₁.heap.Ns b m->(Gd s₁.heap H).Ns b m:=λ{b m} ⟨o,l,p,e,d,r⟩=>⟨o,l,p,base_of e (I e d),d,r⟩;have t:K.In (Gd s₁.heap H):=λb o e=>base_of (KX b o e) (by cases q:H b with|none=>rfl|some u=>have J:b=a:=Q b (by rw[q];simp);subst J;rw[Y (by rw[q];simp)] at e;cases e);have hM:Mod K mg (Gd s₁.heap H):=⟨t,f g,⟨C,f c,D⟩,let ⟨mc,h1,h2⟩:=i;⟨mc,f h1,h2⟩⟩;have e0:Env0 P w K mg (Gd s₁.heap H) callerA [] s₁ H:=⟨rfl,hM,λb o e=>qaQ5 e,zCi (qav0 _ _),trivial,λb c=>absurd (show b∈([]:List γ) from c) (by simp),j,.of_eq T⟩;refine codeAny_mono ((F _ t (f g)).run callerA [] s₁ H ⟨[.ref a],[]⟩ [.ref a] [.ref a] _ _ U e0 (hbind s₁ (.ref a)) (.cons rfl .nil) (E H O X)) λr s' h=>?_;cases r with|error e=>exact(G H e s' h).elim|ok fl=>cases fl with|next=>exact Oh h|brk=>exact Oh h|cont=>exact Oh h|ret u=>obtain⟨v,H',os,bare,R,y,r',q⟩:=h;have q':v=.bl true:=q;subst q';obtain rfl:u=Nn true:=r';refine⟨rfl,OldK.of_keep λb o e=>?_,os,bare⟩;cases q:H b with|none=>exact R.keep b o e q (by intro z;exact absurd (show b∈([]:List γ) from z) (by simp)) (by simp)|some u=>rcases O b with z|⟨ob,xs,z⟩;{rw[q] at z;cases z};have z2:=R.frzs b ob _ z;obtain⟨S,_⟩:=j b _ z;obtain⟨e2,_⟩:=y b _ z2;rw[e] at S;cases S;exact e2
 cases L:K.lookup a with|some o=>have e:=KX a o L;rw[B] at e;cases e;refine core (λ_=>none) (λ_=>.inl rfl) (.inr ⟨_,vs.toArray,_,L,rfl,rfl,rfl,by rw[zA3,lenV];exact M,by simpa using N⟩) (λb u z=>by have A:(none:Option HO)=some u:=z;cases A) (λb z=>absurd rfl z) λz=>absurd rfl z|none=>refine core (λb=>if b=a then some (.frz {cls:=.type "list",data:=.seq vs.toArray} (.l (ns.map V.int))) else none) (λb=>?_) (.inl (.inr ⟨{cls:=.type "list",data:=.seq vs.toArray},if_pos rfl⟩)) (λb u z=>?_) (λb z=>?_) λ_=>L;{by_cases c:b=a;{exact .inr ⟨_,_,if_pos c⟩};exact .inl (if_neg c)};{by_cases c:b=a;{have A:=(if_pos c).symm.trans z;cases A;subst c;exact⟨B,by rw[zAa];exact M,vs,_,N,B⟩};have A:=(if_neg c).symm.trans z;cases A};by_cases c:b=a;{exact c};exact absurd (if_neg c) z
theorem qaK9{l:W.OpenLaw}{K:Params->Nx}{CX:La->CXT}{sp:La->Sp}(y:l.most=some n)(j:n<=Kl)(m:d.params.defaults=[])(z:Room k callerA)(A:∀(w:La)(h:Heap),YP w h->(K w.params).In h)(F:∀(w:La)(mg:Str->Option V')(fa:γ)(h:Heap),(K w.params).In h->h.Ns Ku mg->mg d.name=some (.ref fa)->∃fd:ε,(∀(s:δ)(u:V'),BindsTo s fd ⟨[u],[]⟩ [(x,u)])/\∀base:Heap,(K w.params).In base->base.Ns Ku mg->Du l.prog w (K w.params) mg base (CX w) k fa fd [x] (sp w))(p:∀(w:La)(H:Hp)(a:γ)(ns:List Int),ns.length<=n->Only H->SqL (K w.params) H a (ns.map V.int)->sp w [.ref a] H (λv _=>v=.bl true) λ_ _ _=>False)(r:∀(w:La)(H:Hp)(s:δ)(e:V')(s':δ),CX w [] H s (λ_ _ _=>False) e s'->False):W.WalkO q loose XP YP l.row.toRowW d [] (λf vs=>PySem.call f vs):=by refine Att.qag1 y m λw s₀ s₁ mg M fa o N O B a vs ns G Y P Q C t i hints c D=>?_;have KX:=A w _ Y;obtain⟨fd,E,I⟩:=F w mg fa _ KX G.T.g t;exact qaI0 KX G.T.g G.T.b G.T.builtins G.T.nolimit D i hints (zAi c j) z I E (λH J L=>p w H a ns c J L) λH e s'=>r w H s₁ e s'
end L2
/- THE LAST THEOREM (shape;LID,My.* are yours):My.Adr: a structure of the addresses that your layer names (classes,functions);My.Txt K t: a structure (Prop) of the equations over K;
 My.txt_mk:{K} {implicit addresses ..} (e1:nsIn K Ku "law"=some (some (.ref f))) (e2:K.lookup f=some ⟨oc,od,.func (fnOf "law" "law" params body scope dV kV doc pm an cdv ct),sl⟩) (e3:codeIn K cdv "law"=true) .. : ∃t,My.Txt K t
(the tactic k_is has no namespace: write k_is) -/
namespace L2
open PySem PySem.Spec PyProof.Rows
variable{A B:Prop}{f:γ}{qual x:Str}{st:Lc}
noncomputable def qd8(s:Lc)(j:Nat):Lc:=match s with|.ClassDef _ _ _ body _ _ _ _ _ _ _=>body.getD j (.Pass ⟨0,0,0,0⟩)|_=>.Pass ⟨0,0,0,0⟩
noncomputable def qg4(s:Lc):Arguments:=match s with|.FunctionDef _ a _ _ _ _ _ _ _ _=>a|_=>{posonlyargs:=[],args:=[],vararg:=none,kwonlyargs:=[],kw_defaults:=[],kwarg:=none,defaults:=[]}
noncomputable def qd0(s:Lc):List Lc:=match s with|.FunctionDef _ _ b _ _ _ _ _ _ _=>b|_=>[]
noncomputable def qa2(s:Lc):Scope:=match s with|.FunctionDef _ _ _ _ _ _ sc _ _ _=>sc|_=>{kind:=.function,names:=[],isGenerator:=false,isCoroutine:=false}
abbrev CX0:CXT:=λ_ _ _ _ _ _=>False
abbrev E0:XK:=λ_ _ _=>False
theorem Jk:qR3 CX0 X (λ_=>E0):=λ_ _ _ _ _ _ _ h=>h.elim
structure Fun(K:Nx)(x qual:Str)(st:Lc)(f:γ)(fd:ε):Prop where
 ex:∃(oc:V')(od:Option γ)(kV doc pm:V')(an:Option γ)(cdv ct:V')(osl:Array (Option V')),
  fd=W.fnOf x qual (qg4 st) (qd0 st) (qa2 st) .none kV doc pm an cdv ct/\K.lookup f=some ⟨oc,od,.func fd,osl⟩/\W.codeIn K cdv qual=true
 kp:W.keepIn K (.ref f)=true
section
variable{P:K8}{w:La}{K:Nx}{r:Str->Option V'}{p:Heap}
theorem Fun.ok(F:Fun K x qual st f fd)(S:qa8 N ps (qa2 st))(len:∀vs H Q E,sp vs H Q E->vs.length=ps.length)(hbody:∀(a:V')(A:K9)(outer:List Env)(s:δ)(H:Hp)(vs:List V)(Q:VK)(E:XK),Room k (A.deeper (envOfC qual (qa2 st) s.heap.objs.size f a))->sp vs H Q E->∃t,PSs (Ez true CX0 P w K r p N qual (qa2 st) f a A outer s H E).nox (qd0 st) t/\t {nx:=λ_ H'=>Q .non H',rt:=Q} (start N vs) H):Du P w K r p CX0 (k+1) f fd ps sp:=by obtain⟨j,l,kV,d,m,n,a,o,e,rfl,g,b⟩:=F.ex;refine Jh g b S len λA outer s H vs Q E i c=>?_;obtain⟨t,h,q⟩:=hbody a A outer s H vs Q E i c;exact⟨t,h.nox,q⟩
theorem Fun.binds(F:Fun K x qual st f fd)(h:∀(kV a c:V')(d:Option γ)(b e:V')(us:List V'),us.length=ps.length->bindArgs (W.fnOf x qual (qg4 st) (qd0 st) (qa2 st) .none kV a c d b e) ⟨us,[]⟩=pure (ps.zip us)):Binds K fd ps []:=by obtain⟨j,k,kV,a,c,d,b,e,g,rfl,l,i⟩:=F.ex;exact .all (h kV a c d b e)
theorem qav2{kV:V'}(l:K.lookup f=some ⟨oc,i,.func (W.fnOf x qual (qg4 st) (qd0 st) (qa2 st) .none kV b g e a h),d⟩)(c:W.codeIn K a qual=true)(k:W.keepIn K (.ref f)=true):Fun K x qual st f (W.fnOf x qual (qg4 st) (qd0 st) (qa2 st) .none kV b g e a h):=⟨⟨oc,i,kV,b,g,e,a,h,d,rfl,l,c⟩,k⟩
end
theorem hu_of{A:K9}(a:Room k A):A.units+1<cLine:=zC1 (Nat.add_le_add_left (by decide:1<=64) _) a.units
theorem qas6(h:n<=1000):n<Kl:=zC1 h ∅
section
variable{X:Cx}
theorem pv(i:Nat)(b:X.N[i]?=some x:=by rfl)(c:Vis X.env.scope x:=by first|exact Oj rfl|exact Oi (Oj rfl)|exact Oi (Oi rfl))(d:N' x:=by decide)(a:(x==("__classdict__" : Str))=false:=by decide):PE X (.Name x pos) (Fk i):=qm0 b c d a
theorem qax2:CallR X (.builtin "len") (λxs H Q=>∃a kvs,xs=[V.ref a]/\H a=some (.dK kvs)/\Q (.int kvs.length) H):=by intro Dg s f H xs d Q I r h;obtain⟨a,kvs,rfl,b,q⟩:=h;obtain⟨u,rfl,c⟩:=By r;cases c;exact d_len I (.inl b) λt e I'=>⟨.int kvs.length,H,I',⟨t,rfl⟩,q⟩
end
theorem iteF(h:B):if false=true then A else B:=by rw[if_neg zAt];exact h
theorem iteT(h:A):if true=true then A else B:=by rw[if_pos rfl];exact h
theorem ite2{c:Prop}[Decidable c](h1:c->A)(h2:¬c->B):if c then A else B:=by by_cases h:c;{rw[if_pos h];exact h1 h};rw[if_neg h];exact h2 h
def Same(H H':Hp):Prop:=∀b o,H b=some o->H' b=some o
theorem Same.trans(a:Same H H1)(b:Same H1 H2):Same H H2:=λc o h=>b c o (a c o h)
end L2
set_option maxHeartbeats 4000000
namespace L2
open PySem PySem.Spec PyProof.Rows
variable{H:Hp}{a:γ}{e:Lb}{es:List Lb}{i:Int}{p:Pos}{t:TA}{x:Str}{xs:List V}{α:Type}
theorem Ib{t:Sem α}(h:K6 M A t Q (λ_ _=>False) s)(b:∀a s,Q a s->Q' a s):K6 M A t Q' E s:=Kx h b λ_ _ x=>x.elim
noncomputable def E3(env:Env):List (Str×NameKind)->List (Str×γ)->List (Str×γ)|[],acc=>acc|(n,k)::r,acc=>E3 env r (if k==Of then (n,(env.cells.lookup n).getD 0)::acc else acc)
theorem qE5{env:Env}:∀(l:List (Str×NameKind))(acc:List (Str×γ)),(∀x∈l,x.2=Of->∃c,env.cells.lookup x.1=some c)->(forIn l acc λ(x:Str×NameKind)(r:List (Str×γ))=>
     (match x with
     |(name,kind)=>if (kind==Of)=true then (do let c<-cellOf env name;pure (ForInStep.yield ((name,c)::r)):Sem (ForInStep (List (Str×γ)))) else pure (ForInStep.yield r)))=(pure (E3 env l acc):Sem _)
 |[],acc,_=>rfl
 |(n,k)::r,acc,h=>by
   rw[List.forIn_cons];by_cases a:(k==Of)=true
   . obtain⟨c,b⟩:=h (n,k) zA9 (by simpa using a)
     have b:=b;dsimp only;rw[if_pos a];have e:cellOf env n=pure c:=by unfold cellOf;rw[b]
     rw[e];show (forIn r ((n,c)::acc) _:Sem _)=_;rw[qE5 r ((n,c)::acc) λx d=>h x (zA6 _ d)];show _=(pure (E3 env r (if (k==Of)=true then (n,(env.cells.lookup n).getD 0)::acc else acc)):Sem _)
     rw[if_pos a,b];rfl
   dsimp only;rw[if_neg a];show (forIn r acc _:Sem _)=_;rw[qE5 r acc λx d=>h x (zA6 _ d)];show _=(pure (E3 env r (if (k==Of)=true then (n,(env.cells.lookup n).getD 0)::acc else acc)):Sem _)
   rw[if_neg a]
theorem qQ8(h:∀x∈sc.names,x.2=Of->∃c,env.cells.lookup x.1=some c):closureFor sc env=pure (E3 env sc.names []):=by unfold closureFor;show (forIn sc.names [] _ >>= _)=_;have:=qE5 sc.names [] h;rw[show (forIn sc.names ([]:List (Str×γ)) _:Sem _)=pure (E3 env sc.names []) from this];rfl
theorem qap7{env:Env}:∀(l:List (Str×NameKind))(acc:List (Str×γ))(x:Str)(c:γ),(x,c)∈E3 env l acc->(x,c)∈acc∨((x,Of)∈l/\c=(env.cells.lookup x).getD 0)|[],acc,x,c,h=>.inl h|(n,k)::r,acc,x,c,h=>by rcases qap7 r _ x c h with h|⟨h,e⟩;{by_cases a:(k==Of)=true;{rw[if_pos a] at h;rcases zAl.mp h with h|h;{cases h;exact .inr ⟨by rw[show k=Of by simpa using a];exact zA9,rfl⟩};exact .inl h};rw[if_neg a] at h;exact .inl h};exact .inr ⟨zA6 _ h,e⟩
theorem qap8{env:Env}:∀(l:List (Str×NameKind))(acc:List (Str×γ))(x:Str),(∃c,(x,c)∈acc)->∃c,(x,c)∈E3 env l acc|[],acc,x,h=>h|(n,k)::r,acc,x,⟨c,h⟩=>qap8 r _ x ⟨c,by split;exact zA6 _ h;exact h⟩
theorem qX0{env:Env}:∀(l:List (Str×NameKind))(acc:List (Str×γ))(x:Str),(x,Of)∈l->∃c,(x,c)∈E3 env l acc|[],acc,x,h=>by simp at h|(n,k)::r,acc,x,h=>by rcases zAl.mp h with h|h;{cases h;exact qap8 r _ _ ⟨_,by rw[if_pos (by rfl)];exact zA9⟩};exact qX0 r _ x h
theorem qD7{α:Type}:∀{l:List (Str×α)}{x:Str},(∃c,(x,c)∈l)->∃c,l.lookup x=some c|[],x,⟨c,h⟩=>by simp at h|(n,a)::r,x,⟨c,h⟩=>by cases b:x==n with|true=>exact⟨a,by simp only[zAu,b]⟩|false=>rcases zAl.mp h with h|h;{cases h;simp at b};obtain⟨d,e⟩:=qD7 ⟨c,h⟩;exact⟨d,by simp only[zAu,b];exact e⟩
noncomputable def Dn(a:St)(src:List (Option Nat)):St:=src.map λo=>match o with|none=>none|some j=>(a[j]?).getD none
noncomputable def qz4(X:Cx)(NY:List Str)(src:List (Option Nat))(sc:Scope):Bool:=(sc.kind==.function)&&(src.length==NY.length) &&
 (sc.names.all λx=>x.2 != .cell&&(x.2 != .local||sc.names.lookup x.1==some .local)&&(x.2 != .free||(X.env.scope.names.lookup x.1==some .cell||X.env.scope.names.lookup x.1==some .free))) &&
 ((NY.zip src).all λp=>match p.2 with|none=>true|some j=>X.N[j]?==some p.1&&sc.names.lookup p.1==some .free)
def qm6(X:Cx)(NY:List Str)(sc:Scope)(C:γ)(a:δ)(H0:Hp)(ex:List γ):Cx where
 prog:=X.prog
 w:=X.w
 K:=X.K
 mg:=X.mg
 base:=X.base
 A:=X.A
 N:=NY
 s₀:=a
 H₀:=H0
 env:=compEnvC sc (E3 X.env sc.names []) C X.env
 outer:=X.stack
 stack:=X.stack
 ex:=ex
 fn:=λ_=>false
 calm:=X.calm
 pn:=[]
 xe:=λ_ _=>False
def PFs(X:Cx)(ifs:List Lb)(t:TT):Prop:=∀(Dg:List (γ×Obj))(s:δ)(b:St)(H:Hp)(Q:Bool->Hp->Prop),Ox X Dg b H s->t b H Q->K6 (K7 X.prog X.w) X.A (forIn ifs true λc r=>if r=true then do let a<-isTrue c X.env (eval c X.env);pure (ForInStep.yield a) else pure (ForInStep.yield r)) (TP X Dg b Q) X.xe s
def tYes:TT:=λ_ H Q=>Q true H
theorem qaO9:PFs X [] tYes:=λ_ _ _ H _ I h=>wpAny_tests_nil ⟨H,I,h⟩
theorem qaX7{t:TT}(h:PT X c t):PFs X [c] t:=λDg s a H Q I q=>wpAny_tests_one (h Dg s a H Q I q)
theorem qt2(I:Nat->δ->Prop)(turn:∀n s,I n s->K6 (K7 prog w) A (pyNext it) (λr s₁=>match r with
     |none=>R (.ok .next) s₁
     |some v=>K6 (K7 prog w) A (letOwnedTupleGo target it v) (λ_ s₁'=>K6 (K7 prog w) A (assign target env v) (λ_ s₂=>
         K6 (K7 prog w) A (forIn ifs true λc r=>if r=true then do let a<-isTrue c env (eval c env);pure (ForInStep.yield a) else pure (ForInStep.yield r)) (λa s₃=>
           if a=true then K6 (K7 prog w) A (eval elt env) (λx s₄=>
             K6 (K7 prog w) A (call (.builtin "list.append") [acc,x]) (λ_ s₅=>∃m,m<n/\I m s₅) (λ_ _=>False) s₄) (λ_ _=>False) s₃
           else ∃m,m<n/\I m s₃) (λ_ _=>False) s₂) (λ_ _=>False) s₁') (λ_ _=>False) s₁) (λ_ _=>False) s)(n:Nat)(h:I n s):codeAny (K7 prog w) A (.compLoop (.ListComp elt [⟨target,iter,ifs,0⟩] scope pos) 0 it acc env) R s:=by
 refine codeAny_loop rfl I (λn s b=>?_) n h;show K6 _ A ((compTurn (.ListComp elt [⟨target,iter,ifs,0⟩] scope pos) 0 it acc env).onRaise (λx=>do noteFrame x env;theTreesLotGoes x)) _ _ s;refine wpAny_noted ?_;rw[compTurn_list];refine E' (wpAny_standAt (E' (Ib (turn n s b) λr s₁ h₁=>?_)));cases r with
 |none=>exact G' h₁
 |some v=>
   refine E' (Ib h₁ λ_ s₁' h₁'=>?_);refine E' (Ib h₁' λ_ s₂ h₂=>E' (Ib h₂ λa s₃ h₃=>?_));cases a with
   |false=>exact G' ⟨rfl,h₃⟩
   |true=>
     exact E' (E' (Ib h₃ λx s₄ h₄=>E' (Ib h₄ λ_ s₅ h₅=>G' (G' ⟨rfl,h₅⟩))))
def qA2(J:It)(g:TG)(tf:TT)(te:TE)(D:γ)(R:Hp->Prop)(σ0:St)(H0:Hp):Prop:=∃W:Nat->Nat->St->Hp->Prop,(∃m,W 0 m σ0 H0)/\∀i m c H,W i m c H->(J.stop i H/\R H)∨(J.go i H/\∃N:St->Hp->Prop,(∀c' H',N c' H'->∃a,a<m/\W (i+1) a c' H')/\∀x H',J.yld i H x H'->g x c H' λσ2 H2=>tf σ2 H2 λb H3=>
     if b=true then te σ2 H3 λv H4=>∃xs,H4 D=some (.l xs)/\xs.length<Kl/\N σ2 (upd H4 D (.l (xs++[v]))) else N σ2 H3)
theorem qu6{env:Env}{x:Str}:∀{names:List (Str×NameKind)},(∀y∈names,y.2≠.cell)->((names.map λ(n,k)=>if (k==Of&&env.scope.kind==.function&&env.kindOf n==some .cell) then (n,Og) else (n,k)).lookup x=some .cell∨(names.map λ(n,k)=>if (k==Of&&env.scope.kind==.function&&env.kindOf n==some .cell) then (n,Og) else (n,k)).lookup x=some .free)->names.lookup x=some .free
 |[],_,h=>by simp at h|(n,k)::r,hc,h=>by
  have c:=@qu6 env x r λy d=>hc y (zA6 _ d);simp only[zAz] at h;cases b:x==n with
  |true=>
   simp only[zAu,b];by_cases a:(k==Of&&env.scope.kind==.function&&env.kindOf n==some .cell)=true
   .have:k=Of:=by simp only[zBi,zBr] at a;exact a.1.1
    rw[this]
   rw[if_neg a] at h;simp only[zAu,b] at h;rcases h with h|h;{exact absurd (Nv h) (hc (n,k) zA9)};exact h
  |false=>simp only[zAu,b];apply c;by_cases a:(k==Of&&env.scope.kind==.function&&env.kindOf n==some .cell)=true;{rw[if_pos a] at h;simpa only[zAu,b] using h};rw[if_neg a] at h;simpa only[zAu,b] using h
theorem qj5{env:Env}{x:Str}:∀{names:List (Str×NameKind)},names.lookup x=some .free->((names.map λ(n,k)=>if (k==Of&&env.scope.kind==.function&&env.kindOf n==some .cell) then (n,Og) else (n,k)).lookup x=some .cell∨(names.map λ(n,k)=>if (k==Of&&env.scope.kind==.function&&env.kindOf n==some .cell) then (n,Og) else (n,k)).lookup x=some .free)|[],h=>by simp at h|(n,k)::r,h=>by have c:=@qj5 env x r;simp only[zAz];cases a:x==n with|true=>simp only[zAu,a] at h;have h:=Nv h;by_cases b:(k==Of&&env.scope.kind==.function&&env.kindOf n==some .cell)=true;{rw[if_pos b];simp only[zAu,a];exact .inl trivial};rw[if_neg b];simp only[zAu,a];rw[h];exact .inr rfl|false=>simp only[zAu,a] at h;by_cases b:(k==Of&&env.scope.kind==.function&&env.kindOf n==some .cell)=true;{rw[if_pos b];simp only[zAu,a];exact c h};rw[if_neg b];simp only[zAu,a];exact c h
section
variable{X:Cx}{Dg:List (γ×Obj)}{σ:St}{H2:Hp}{s2:δ}{elt tg iter:Lb}{ifs:List Lb}{sc:Scope}{pos:Pos}{NY:List Str}{src:List (Option Nat)}{J:It}{fp:List γ}{it:γ}{tn:Nat->Heap->Prop}{g:TG}{tf:TT}{te:TE}
theorem qab7{R:γ->Hp->Prop}{RR:V'->γ->Result->δ->Prop}(ck:qz4 X NY src sc=true)(hc:X.calm=true)(I2:Ox X Dg σ H2 s2)(T:Jc X.prog X.w X.K tg J fp it tn)(I:tn 0 s2.heap)(f2:∀b∈fp,Ge X Dg H2 b)(hg:∀C P H0,PG (qm6 X NY sc C P H0 fp) tg g)(hf:∀C P H0,PFs (qm6 X NY sc C P H0 fp) ifs tf)(he:∀C P H0,PE (qm6 X NY sc C P H0 fp) elt te)(rd:∀D,H2 D=none->qA2 J g tf te D (R D) (Dn σ src) (upd H2 D (.l [])))(fin:∀D C H' s',Ox X Dg σ H' s'->R D H'->H' C=none->X.s₀.heap.objs.size<=C->C≠X.env.locals->(∀x c,X.env.cells.lookup x=some c->c≠C)->(∀p∈X.pn++Dg,p.1≠C)->C∉X.fs->(∃m,s'.heap.Ns C m)->RR (.ref D) C (.ok .next) s'):K6 (K7 X.prog X.w) X.A (newList []) (λacc s₃=>K6 (K7 X.prog X.w) X.A (newFunctionEnv sc X.env.globals (E3 X.env sc.names []) [] X.env.qual none .none (some X.env)) (λcenv s₄=>
 codeAny (K7 X.prog X.w) X.A (.compStart (.ListComp elt [⟨tg,iter,ifs,0⟩] sc pos) 0 (.ref it) acc {cenv with scope:=relabel sc X.env}) (RR acc cenv.locals) s₄) E s₃) E s2:=by
 unfold qz4 at ck;simp only[zBi,zBr,zBe] at ck;obtain⟨⟨⟨hkind,G⟩,Q⟩,S⟩:=ck;have hcell:∀y∈sc.names,y.2≠.cell:=λy U e=>by have:=(Q y U).1.1;rw[e] at this;exact absurd this ∅
 have hfree:∀y∈sc.names,y.2=.free->(X.env.kindOf y.1=some .cell∨X.env.kindOf y.1=some .free):=λy U e=>by have:=(Q y U).2;rw[e] at this;show X.env.scope.names.lookup y.1=some .cell∨X.env.scope.names.lookup y.1=some .free;simpa using this
 have clsub:∀x c,(E3 X.env sc.names []).lookup x=some c->X.env.cells.lookup x=some c:=λx c e=>by rcases qap7 _ _ x c (PySem.mem_of_lookup e) with h|⟨h,q⟩;{simp at h};obtain⟨d,M⟩:=I2.ok.has x (hfree _ h rfl);rw[M] at q;rw[M,q];rfl
 refine wpAny_newObj_type (wpAny_newFunctionEnv hcell (by intro y U;simp at U) (λh₁ hns₁ hsb₁=>?_) hkind);dsimp only at hns₁ hsb₁ ⊢;have I3:=I2.lnew (ys:=[]) (its:=[]) (t':=s2.toks) .nil (zBf _);have hD:H2 s2.heap.objs.size=none:=I2.fresh;generalize t:s2.heap.objs.size=D at hns₁ hsb₁ I3 hD ⊢;generalize V:s2.heap.push {cls:=.type "list",dict:=none,data:=.seq ([]:List V').toArray}=h3 at hns₁ hsb₁ I3 ⊢;have Z:h3.objs.size=D+1:=by rw[<-V,Heap.size_push,t]
 generalize s:h3.objs.size=C at hns₁ hsb₁ Z ⊢;have I3:Ox X Dg σ (upd H2 D (.l [])) {s2 with heap:=h3,toks:=s2.toks}:=I3;have B:∀b o,h3.get? b=some o->h₁.get? b=some o:=λb o e=>hsb₁.extBut b o (by rw[<-s];exact zAs (zAe e)) (zA4 _ e);have a0:∀b o,h3.get? b=some o->b≠C:=λb o e=>by rw[<-s];exact zAs (zAe e)
 have a1:X.env.locals≠C:=by rw[<-s];exact zAs I3.lt
 have b0:∀x c,X.env.cells.lookup x=some c->c≠C:=λx c e=>by obtain⟨v,o,F,_⟩:=I3.cell x c e;exact a0 c o F
 have a2:∀b∈fp,b≠C:=λb f=>by obtain⟨o,F,_⟩:=T.obj _ _ I b f;have:=zAe F;rw[t] at this;exact zAs (Nat.lt_trans this (by rw[Z];exact Nat.lt_succ_self _))
 have b1:∀b∈fp,b≠D:=λb f=>by obtain⟨o,F,_⟩:=T.obj _ _ I b f;have:=zAe F;rw[t] at this;exact zAs this
 have a3:∀b o,s2.heap.get? b=some o->h3.get? b=some o:=λb o e=>by rw[<-V];exact zA4 _ e
 have pinC:∀p∈X.pn++Dg,p.1≠C:=λp hp=>a0 _ _ (I3.pin p hp).1;have a4:C∉X.fs:=by rw[<-s];exact I3.nofs (zA2 _)
 have b2:X.s₀.heap.objs.size<=C:=by rw[<-s];exact I3.sz
 have stkC:∀b∈frs X.stack,b≠C:=λb f e=>by rcases zAl.mp (I3.stkSub b f) with z|z;{exact a1 (z.symm.trans e)};exact a4 (e ▸ z)
 have HC:upd H2 D (.l []) C=none:=I3.hok.fresh (by show h3.objs.size<=C;exact zCi s);have a5:∀b∈fp,b∉frs X.stack:=λb f z=>by obtain⟨_,h1,h2,_⟩:=f2 b f;rcases zAl.mp (I2.stkSub b z) with q|q;{exact h1 q};exact h2 q
 let Y:Cx:=qm6 X NY sc C {s2 with heap:=h3} (upd H2 D (.l [])) fp;have a6:(Dn σ src).length=NY.length:=by unfold Dn;rw[zAa];exact G
 have IY:Ox Y [] (Dn σ src) (upd H2 D (.l [])) {s2 with heap:=h₁,toks:=s2.toks+0}:=by
  refine⟨⟨I2.ok.mod,hkind,I2.ok.glob,I2.ok.blt,(by show h3.objs.size<=C;exact zCi s),λx y c h1 h2=>I2.ok.inj x y c (clsub x c h1) (clsub y c h2),λx hx=>?_,λ_ _ z _=>(zAt z).elim,I2.ok.hd,I2.ok.frames,.inl rfl,λb f=>⟨a2 b f,λx c e=>(f2 b f).2.2.2.2.1 x c (clsub x c e)⟩,
   λb o e=>?_,?_,λb o e f=>?_,λb f=>a5 b f,?_,λb f=>?_⟩,rfl,I2.bare,Un.kept B,⟨_,hns₁,λi x v e1 e2 e3=>?_⟩,λx c e=>?_,HC,λx c e=>I3.freeC x c (clsub x c e),λp hp=>absurd (show p∈([]:List (γ×Obj)) from hp) (by simp),I3.hok.kept B,a6⟩
  {have hx:=qu6 hcell hx;exact qD7 (qX0 _ _ _ (PySem.mem_of_lookup hx))};{exact I3.bs b o e};{exact zAi I2.ok.bsz (zAi (zAi I2.sz (by rw[t];exact zA2 _)) (by show D<=h3.objs.size;lia))};{rcases (f2 b f).2.2.2.1 with z|z;{exact I2.ok.noex b o e z};exact absurd (zAh (zAe (I2.ok.bs b o e).1) z) (zC3 _)};{exact I3.stack};{exact I3.stkFree b f}
  .have hi:i<src.length:=by have:=(zA5.mp e2).1;rw[a6,<-G] at this;exact this
   have e1:NY[i]?=some x:=e1;have es:src[i]?=some src[i]:=by simp[hi]
   have ep:(Dn σ src)[i]?=some (match src[i] with|none=>none|some j=>(σ[j]?).getD none):=by unfold Dn;rw[zBd,es];rfl
   rw[ep] at e2;cases hj:src[i] with
   |none=>rw[hj] at e2;cases e2|some j=>
    rw[hj] at e2;have e2:(σ[j]?).getD none=some v:=Nv e2;have ej:σ[j]?=some (some v):=by cases q:σ[j]? with|none=>rw[q] at e2;cases e2|some o=>rw[q] at e2;rw[show o=some v from e2]
    have hm:(x,some j)∈NY.zip src:=by
     have:(NY.zip src)[i]?=some (x,some j):=by rw[List.getElem?_zip_eq_some];exact⟨e1,by rw[es,hj]⟩
     exact zB8 this
    have q:=S _ hm;simp only[zBi,zBr] at q;obtain⟨qN,qf⟩:=q;have H:=hfree _ (PySem.mem_of_lookup qf) rfl;obtain⟨m,hn,hl⟩:=I3.loc;obtain⟨u,r,l⟩:=hl j x v qN ej (H.elim (λz=>.inr (.inl z)) λz=>.inr (.inr z));refine⟨u,r,.inr ⟨qj5 qf,?_⟩⟩;rcases l with⟨z,_⟩|⟨_,c,ec,o,F,M⟩;{have H:X.env.kindOf x=some .cell∨X.env.kindOf x=some .free:=H;rw[z] at H;rcases H with H|H<;>cases H};obtain⟨c',a7⟩:=qD7 (qX0 (env:=X.env) sc.names [] x (PySem.mem_of_lookup qf));have:=clsub x c' a7;rw[ec] at this;cases this;exact⟨c,a7,o,B c o F,M⟩
  obtain⟨v,o,F,M⟩:=I3.cell x c (clsub x c e);exact⟨v,o,B c o F,M⟩
 have st₁:tn 0 h₁:=T.keep _ _ _ I λb f o e=>B b o (a3 b o e);have stat:∀{H':Hp},(∀b∈fp,H' b=none)->∀b∈fp,Ge Y [] H' b:=λhn b f=>by refine⟨hn b f,a2 b f,a5 b f,.inl f,λx c e=>(f2 b f).2.2.2.2.1 x c (clsub x c e),λp hp=>absurd (show p∈([]:List (γ×Obj)) from hp) (by simp)⟩
 have loop:codeAny (K7 X.prog X.w) X.A (.compLoop (.ListComp elt [⟨tg,iter,ifs,0⟩] sc pos) 0 (.ref it) (.ref D) Y.env) (RR (.ref D) C) {s2 with heap:=h₁,toks:=s2.toks+0}:=by
  obtain⟨W,⟨m0,w0⟩,turn⟩:=rd D hD;refine qt2 (λn s'=>∃i σ' H',Ox Y [] σ' H' s'/\tn i s'.heap/\(∀b∈fp,H' b=none)/\W i n σ' H') ?_ m0 ⟨0,_,_,IY,st₁,λb f=>by rw[qd1 (b1 b f)];exact(f2 b f).1,w0⟩;rintro n s3 ⟨i,σ3,H3,J3,a8,a9,w3⟩;rcases turn i n σ3 H3 w3 with⟨stop,qn⟩|⟨go,N,hN,step⟩;{refine thn (T.done Y rfl rfl rfl hc i [] s3 σ3 H3 _ J3 (stat a9) a8 stop) λr s4 k=>?_;obtain⟨hr,J4⟩:=k;subst hr;have b3:H3 C=none:=J4.free;refine fin D C H3 s4 ?_ qn b3 b2 (Ne.symm a1) b0 pinC a4 (let ⟨m,hn,_⟩:=J4.loc;⟨m,hn⟩);refine I2.call' (ch:=fp) J4.os ?_ J4.hok J4.bare λb f=>?_;{have u1:Un (frs X.stack) fp H2 (upd H2 D (.l [])) s2.heap h3:=Un.laid a3 (zCi t) hD;exact u1.trans J4.base};obtain⟨_,h1,_,b4,h4,h5⟩:=f2 b f;exact⟨b4,h1,h4,h5⟩};refine thn (T.item Y rfl rfl rfl hc i [] s3 σ3 H3 _ J3 (stat a9) a8 go) λr s4 k=>?_;obtain⟨u,hr,h4⟩:=k;subst hr;refine thn h4 λ_ s5 k=>?_;obtain⟨x,H5,J5,r5,y5,L,b5⟩:=k;have J5':=J5.pinned (stat b5) (T.obj _ _ L);have again:∀{σ7:St}{H7:Hp}{O:δ},Ox Y ([]++Jd fp s5.heap) σ7 H7 O->N σ7 H7->∃m,m<n/\∃i σ' H',Ox Y [] σ' H' O/\tn i O.heap/\(∀b∈fp,H' b=none)/\W i m σ' H':=λ{σ7 H7 O} I7 n7=>by obtain⟨m',hm,w7⟩:=hN σ7 H7 n7;refine⟨m',hm,i+1,σ7,H7,I7.unpinned,T.keep _ _ _ L λb f o e=>(I7.pin (b,o) (zAv _ (zAv _ (qu5 f e)))).1,λb f=>?_,w7⟩;obtain⟨o,e,d⟩:=T.obj _ _ L b f;exact(I7.pin (b,o) (zAv _ (zAv _ (qu5 f e)))).2.1
  refine thn (hg C _ _ _ s5 σ3 H5 x u _ J5' r5 (step x H5 y5)) λ_ s6 k=>?_;obtain⟨σ6,H6,J6,q6⟩:=k;refine thn (hf C _ _ _ s6 σ6 H6 _ J6 q6) λok O k=>?_;obtain⟨H7,J7,q7⟩:=k;cases ok with|false=>exact again J7 (by simpa using q7)|true=>rw[if_pos rfl] at q7 ⊢;refine thn (he C _ _ _ O σ6 H7 _ J7 q7) λy s8 k=>?_;obtain⟨v,H8,J8,r8,xs,b6,b7,q8⟩:=k;refine thn (qd6 (X:=Y) _ s8 σ6 H8 (.ref D) [v] (.ref D) [y] (λ_ H'=>N σ6 H') J8 rfl (.cons r8 .nil) ⟨D,xs,v,rfl,rfl,b6,b7,q8⟩) λ_ s9 k=>?_;obtain⟨_,H9,J9,_,q9⟩:=k;exact again J9 q9
 exact codeAny_compStart_list loop (T.self _ 0 _ _ _ st₁ loop)
end
def Eg(wi:TI)(src:List (Option Nat))(g:TG)(tf:TT)(te:TE):TE:=λa H Q=>wi a H λJ H1=>∀D,H1 D=none->qA2 J g tf te D (λH'=>Q (.ref D) H') (Dn a src) (upd H1 D (.l []))
section
variable{X:Cx}{elt tg iter:Lb}{ifs:List Lb}{sc:Scope}{pos:Pos}{NY:List Str}{src:List (Option Nat)}{wi:TI}{g:TG}{tf:TT}{te:TE}
theorem qQ7(b:qz4 X NY src sc=true):sc.kind=.function/\(∀y∈sc.names,y.2=.local->sc.names.lookup y.1=some .local)/\(∀y∈sc.names,y.2=.free->(X.env.kindOf y.1=some .cell∨X.env.kindOf y.1=some .free)):=by unfold qz4 at b;simp only[zBi,zBr,zBe] at b;obtain⟨⟨⟨hkind,d⟩,a⟩,f⟩:=b;refine⟨hkind,λy c e=>?_,λy c e=>?_⟩;{have:=(a y c).1.2;rw[e] at this;simpa using this};have:=(a y c).2;rw[e] at this;show X.env.scope.names.lookup y.1=some .cell∨X.env.scope.names.lookup y.1=some .free;simpa using this
theorem qH3(NY:List Str)(src:List (Option Nat))(hi:PI X tg iter wi)(l:∀C a H0 ex,PG (qm6 X NY sc C a H0 ex) tg g)(n:∀C a H0 ex,PFs (qm6 X NY sc C a H0 ex) ifs tf)(p:∀C a H0 ex,PE (qm6 X NY sc C a H0 ex) elt te)(r:X.calm=true:=by rfl)(k:qz4 X NY src sc=true:=by rfl)(t:∀x,Kn iter X.env x=pure x:=by intro _;rfl):PE X (.ListComp elt [⟨tg,iter,ifs,0⟩] sc pos) (Eg wi src g tf te):=by intro Dg s σ H Q I h;obtain⟨hkind,hnames,hfree⟩:=qQ7 k;rw[eval_ListComp];refine wpAny_comprehension_free rfl t (qQ8 λx u e=>I.ok.has x.1 (hfree x u e)) hkind hnames ?_;refine thn (hi Dg s σ H _ I h) λv G c=>thn c λw K d=>?_;obtain⟨L,f,M,J,H2,rfl,I2,T,i,f2,y⟩:=d;refine qab7 k r I2 T i f2 (λC a H0=>l C a H0 f) (λC a H0=>n C a H0 f) (λC a H0=>p C a H0 f) y ?_;intro D C H' N I' q z c d A B O ⟨m,E⟩;exact⟨m,E,λP j=>⟨.ref D,H',(I'.turned (λb o F e=>j.extBut b o F e) z d (.inr c) A B),rfl,q⟩⟩
theorem qaO2(i:Nat)(NY:List Str)(src:List (Option Nat))(E:X.N.Nodup)(hi:PI X tg iter wi)(F:∀C a H0 ex,PG (qm6 X NY sc C a H0 ex) tg g)(G:∀C a H0 ex,PFs (qm6 X NY sc C a H0 ex) ifs tf)(K:∀C a H0 ex,PE (qm6 X NY sc C a H0 ex) elt te)(f:X.N[i]?=some x:=by rfl)(j:Loc X.env.scope x:=by first|exact Oj rfl|exact Oi rfl)(L:X.calm=true:=by rfl)(y:qz4 X NY src sc=true:=by rfl)(k:swapsWith (.ListComp elt [⟨tg,iter,ifs,0⟩] sc pos) (some (.Name x px)) spos.line X.env=pure true:=by rfl)(M:∀x,Kn iter X.env x=pure x:=by intro _;rfl)(l:X.fn x=true∨X.env.scope.names.lookup x=some .local:=by first|exact .inl rfl|exact .inr rfl|assumption):PS X (.Assign [.Name x px] (.ListComp elt [⟨tg,iter,ifs,0⟩] sc pos) spos) (Ia (Eg wi src g tf te) (Fx i)):=by
 intro Dg s σ H D I h;obtain⟨hkind,hnames,hfree⟩:=qQ7 y;rw[exec_Assign_Name_used _ _ _ _ k];refine E' (wpAny_standAt (E' ?_));refine E' (Kx (wpAny_comprehension_free (Q:=λ_ c=>SP X Dg D .next c) rfl M (qQ8 λx j e=>I.ok.has x.1 (hfree x j e)) hkind hnames ?_) (λ_ c O=>G' (G' O)) λ_ _ e=>e);refine thn (hi Dg s σ H _ I h) λv s1 n=>thn n λP s2 d=>?_;obtain⟨R,r,tn,J,H2,rfl,I2,T,t,f2,S⟩:=d;refine qab7 y L I2 T t f2 (λC a H0=>F C a H0 r) (λC a H0=>G C a H0 r) (λC a H0=>K C a H0 r) S ?_;intro D' C H' c I' q A n d U V W ⟨m,Y⟩;obtain⟨o,Z,ep,ho,B,hr⟩:=Y;have Ip:Ox X (Dg++[(C,o)]) σ H' c:=I'.pins_of λp hp=>(zAb.mp hp).elim (λz=>I'.pin p (zAv _ z)) λz=>by
  have e:p=(C,o):=by simpa using z
  subst e;exact⟨ho,A,d,W,λv e=>by rw[B] at e;cases e⟩
 refine wpAny_assign_Name (qS3 (v:=.ref D') Ip E f j rfl (λu I''=>?_) l);refine⟨m,⟨o,Z,ep,((I''.pin (C,o) (by simp)).1),B,hr⟩,λh' w=>⟨_,H',?_,q⟩⟩;exact I''.unpinned.turned (t':=u.toks) (it:=C) (λb o hb e=>w.extBut b o hb e) A d (.inr n) U V
end
theorem qab6{K:Nx}(Pv:Nat->St->Hp->Prop)(c:Pv 0 n H)(d:∀i n H,i<=xs.length->Pv i n H->SqL K H a xs)(f:∀i x n H,xs[i]?=some x->Pv i n H->g x n H λσ2 H2=>tf σ2 H2 λh H3=>if h=true then te σ2 H3 λv H4=>∃ys,H4 D=some (.l ys)/\ys.length<Kl/\Pv (i+1) σ2 (upd H4 D (.l (ys++[v]))) else Pv (i+1) σ2 H3)(j:∀n H,Pv xs.length n H->R H):qA2 (Itl K a) g tf te D R n H:=by refine⟨λi m n H=>m=xs.length-i/\i<=xs.length/\Pv i n H,⟨xs.length,by simp,zBf _,c⟩,?_⟩;rintro i m n H ⟨rfl,k,p⟩;have q:=d i n H k p;by_cases b:i<xs.length;{refine .inr ⟨⟨xs,xs[i],q,by simp[b]⟩,Pv (i+1),λn' H' l=>⟨xs.length-(i+1),⋯,rfl,b,l⟩,λx H' y=>?_⟩;obtain⟨e,y⟩:=y;subst e;exact f i x n _ (y xs q) p};have e:i=xs.length:=⋯;subst e;exact .inl ⟨⟨xs,q,zA2 _⟩,j n H p⟩
theorem qap6{D:γ}{lo:Int}{n:Nat}{g:TG}{tf:TT}{te:TE}{R:Hp->Prop}{k:St}(Pv:Nat->St->Hp->Prop)(b:Pv 0 k H)(c:∀i k H,i<n->Pv i k H->g (.int (lo+i)) k H λσ2 H2=>tf σ2 H2 λd H3=>if d=true then te σ2 H3 λv H4=>∃ys,H4 D=some (.l ys)/\ys.length<Kl/\Pv (i+1) σ2 (upd H4 D (.l (ys++[v]))) else Pv (i+1) σ2 H3)(f:∀k H,Pv n k H->R H):qA2 (Itr lo n) g tf te D R k H:=by refine⟨λi m k H=>m=n-i/\i<=n/\Pv i k H,⟨n,by simp,zBf _,b⟩,?_⟩;rintro i m k H ⟨rfl,j,p⟩;by_cases a:i<n;{refine .inr ⟨a,Pv (i+1),λk' H' h=>⟨n-(i+1),⋯,rfl,a,h⟩,λx H' y=>?_⟩;obtain⟨e,y⟩:=y;subst e y;exact c i k _ a p};have e:i=n:=⋯;subst e;exact .inl ⟨zA2 _,f k H p⟩
section
variable{X:Cx}
theorem sset(i:Nat)(a:X.N.Nodup)(b:PE X e te)(hi:X.N[i]?=some x:=by rfl)(c:Loc X.env.scope x:=by first|exact Oj rfl|exact Oi rfl)(d:swapsWith e (some (.Name x pos')) pos.line X.env=pure false:=by rfl)(f:X.fn x=true∨X.env.scope.names.lookup x=some .local:=by first|exact .inl rfl|exact .inr rfl|assumption):PS X (.Assign [.Name x pos'] e pos) (Ia te (Fx i)):=qaE7 a hi c b d f
theorem gnm(i:Nat)(a:X.N.Nodup)(hi:X.N[i]?=some x:=by rfl)(b:Loc X.env.scope x:=by first|exact Oj rfl|exact Oi rfl)(c:X.fn x=true∨X.env.scope.names.lookup x=some .local:=by first|exact .inl rfl|exact .inr rfl|assumption):PG X (.Name x pos) (Fx i):=qO3 a hi b c
def CDivB(_ j:Int):Prop:=0<j/\j<2 ^ 200
theorem qx5:OpR X (K5 .FloorDiv) (rI CDivB λi j=>.int (i/j)):=opI λi j _ _ _ _ _ a q=>by
 have c:=a.1;have d:=a.2;refine floordiv_int ⋯ (by rw[Int.fdiv_eq_ediv_of_nonneg i ⋯];exact q) (.inl (PyProof.noPylong_of_log2 ?_));have b:j.natAbs<2 ^ 200:=⋯
 have e:=(Nat.log2_lt ⋯).mpr b;lia
theorem qaP1(k:Int){a:Nat}(c:i ^ j.toNat=k:=by decide)(d:0<=j:=by decide)(h1:j<=1000000:=by decide)(h2:i.natAbs<2 ^ 64:=by decide):PE X (.BinOp (.Constant (.int i) a p) .Pow (.Constant (.int j) b q) pos) (tC (.int k)):=by intro Dg s m H Q I h;refine(pe_op qaY4 qO4 qO4) Dg s m H Q I ⟨_,_,rfl,rfl,⟨d,h1,h2⟩,?_⟩;show Q (.int (i ^ j.toNat)) H;rw[c];exact h
theorem qaY8:OpR X (Km .Is) (λx y H Q=>∃b c,x=.bl b/\y=.bl c/\Q (.bl (b==c)) H):=by intro Dg s m H x y v u Q I a d h;obtain⟨b,c,rfl,rfl,q⟩:=h;cases a;cases d;exact is_bool ⟨.bl _,H,I,rfl,q⟩
def Bi(H:Hp):V->Option String
 |.non=>some "NoneType" | .bl _=>some "bool" | .int _=>some "int" | .str _=>some "str"|.ref a=>match H a with|some (.l _)=>some "list" | some (.q _)=>some "tuple" | some (.dK _)=>some "dict" | some (.frz _ (.l _))=>some "list"|_=>none
 |_=>none
noncomputable def Fl(t n:String):Bool:=t==n||(t=="bool" && n=="int")
theorem qaR7(K:Nx){t:String}(a:t∈["NoneType", "bool", "int", "str", "list", "tuple", "dict"])(b:n∈["bool", "int", "str", "list", "tuple", "dict"]):Ny K (.type t) (.type n)=some (Fl t n):=by simp only[zAl,zCf,or_false] at a b;rcases a with rfl|rfl|rfl|rfl|rfl|rfl|rfl<;>rcases b with rfl|rfl|rfl|rfl|rfl|rfl<;>rfl
theorem qan3{K:Nx}{x:V}{t:String}(h:Bi H x=some t):En K H x (.type t)/\t∈["NoneType", "bool", "int", "str", "list", "tuple", "dict"]:=by cases x with|non=>cases h;exact⟨.non,∅⟩|bl b=>cases h;exact⟨.bl b,∅⟩|int b=>cases h;exact⟨.int b,∅⟩|str b=>cases h;exact⟨.str b,∅⟩|byt b=>cases h|flt b=>cases h|ty b=>cases h|ref a=>unfold Bi at h;dsimp only at h;split at h;{cases h;exact⟨.l (by assumption),∅⟩};{cases h;exact⟨.q (by assumption),∅⟩};{cases h;exact⟨.dK (by assumption),∅⟩};{cases h;exact⟨.frz (by assumption),∅⟩};cases h
def rIsi:List V->Hp->VK->Prop:=λxs H Q=>∃x n t,xs=[x,.ty n]/\Bi H x=some t/\n∈["bool", "int", "str", "list", "tuple", "dict"]/\Q (.bl (Fl t n)) H
theorem qj2:CallR X (.builtin "isinstance") rIsi:=by intro Dg s m H g i Q I r h;obtain⟨x,n,t,rfl,b,c,q⟩:=h;obtain⟨u,j,rfl,d,a⟩:=Je r;cases a;obtain⟨ty,e⟩:=qan3 b;exact qM2 I d ty (qaR7 X.K e c) λf=>⟨.bl _,H,I.tok f,rfl,q⟩
theorem qaF5(n:String)(hm:X.mg x=none)(a:Gl X x:=by rfl)(b:Kq x=some (.type n):=by rfl)(c:x ≠ "__name__" := by decide)(d:N' x:=by decide):PE X (.Name x pos) (tC (.ty n)):=qaP6 a hm b rfl c d
theorem qaz6{t:Tok}(hm:X.mg x=some (.int n t))(a:Gl X x:=by rfl)(b:N' x:=by decide):PE X (.Name x pos) (tC (.int n)):=qaz5 a hm ⟨t,rfl⟩ b
theorem cbi{id:String}(c:CallR X (.builtin id) r)(hm:X.mg x=none)(d:PA X (e::es) t)(f:Gl X x:=by rfl)(g:Kq x=some (.builtin id):=by rfl)(h:x ≠ "__name__" := by decide)(a:N' x:=by decide)(i:J' (e::es) X.env=(false,eval e X.env)::J' es X.env:=by rfl)(b:(backTo pos (J' es X.env)).any (·.1)=false:=by rfl):PE X (.Call (.Name x p) (e::es) [] pos) (tCB r t):=qaF6 c f hm g d h a i b
theorem cty{id:String}(c:CallR X (.type id) r)(hm:X.mg x=none)(d:PA X (e::es) t)(f:Gl X x:=by rfl)(g:Kq x=some (.type id):=by rfl)(h:x ≠ "__name__" := by decide)(a:N' x:=by decide)(i:J' (e::es) X.env=(false,eval e X.env)::J' es X.env:=by rfl)(b:(backTo pos (J' es X.env)).any (·.1)=false:=by rfl):PE X (.Call (.Name x p) (e::es) [] pos) (tCB r t):=qat5 c f hm g d h a i b
end
def rGetL:V->V->Hp->VK->Prop:=λo i H Q=>∃p xs k v,o=.ref p/\i=.int k/\H p=some (.l xs)/\0<=k/\xs[k.toNat]?=some v/\Q v H
theorem qaJ0:PGet X rGetL:=by intro Dg s B H o i w x Q I b c h;obtain⟨p,y,k,v,rfl,rfl,d,e,a,q⟩:=h;cases b;obtain⟨t,rfl⟩:=c;obtain⟨f,n,r,g,z⟩:=I.l d;obtain⟨u,j,l⟩:=r.get a;have m:=(zA5.mp a).1;have A:=qV9;refine wpAny_getItem_list ⟨_,g,rfl,n,rfl⟩ e ⋯ (by simpa using j) ⟨v,H,I,l,q⟩
theorem qbe1{xs:List α}(b:0<=i)(h1:i<xs.length):∃v,xs[i.toNat]?=some v/\atI xs i=some v:=by have a:i.toNat<xs.length:=⋯;have e:(i.toNat:Int)=i:=⋯;refine⟨xs[i.toNat],by simp[a],?_⟩;have:=qac6 (xs:=xs) (j:=i.toNat) (v:=xs[i.toNat]) (by simp[a]);rw[e] at this;exact this
theorem qR0{xs:List α}(a:0<=i)(h1:i<xs.length):∃v,v∈xs/\atI xs i=some v:=by obtain⟨v,h,e⟩:=qbe1 a h1;exact⟨v,zB8 h,e⟩
theorem qan2(h:H a=some (.l xs)):Bi H (.ref a)=some "list" := by
 unfold Bi;dsimp only;rw[h]
theorem qaI2(h:H a=some (.q xs)):Bi H (.ref a)=some "tuple" := by
 unfold Bi;dsimp only;rw[h]
theorem qaA7{xs:List (Key×V)}(h:H a=some (.dK xs)):Bi H (.ref a)=some "dict" := by
 unfold Bi;dsimp only;rw[h]
theorem Same.new(h:H q=none):Same H (upd H q u):=λb o e=>by rw[qd1 (qg0 e h)];exact e
structure Df(K:Nx)(mg:Str->Option V')(x qual:Str)(st:Lc)(f:γ)(fd:ε)(ps:List Str):Prop where
 F:Fun K x qual st f fd
 b:Binds K fd ps []
 m:mg x=some (.ref f)
theorem dfmk{K:Nx}{st:Lc}{i:Array (Option V')}{kV e a:V'}(l:K.lookup f=some ⟨oc,j,.func (W.fnOf x qual (qg4 st) (qd0 st) (qa2 st) .none kV b e d a g),i⟩)(c:W.codeIn K a qual=true)(k:W.keepIn K (.ref f)=true)(m:mg x=some (.ref f))(h:∀(kV b e:V')(d:Option γ)(a g:V')(us:List V'),us.length=ps.length->bindArgs (W.fnOf x qual (qg4 st) (qd0 st) (qa2 st) .none kV b e d a g) ⟨us,[]⟩=pure (ps.zip us)):Df K mg x qual st f (W.fnOf x qual (qg4 st) (qd0 st) (qa2 st) .none kV b e d a g) ps:=⟨qav2 l c k,(qav2 l c k).binds h,m⟩
theorem Hh{st:Lc}(D:Df X.K X.mg x qual st f fd ps)(G:Du X.prog X.w X.K X.mg X.base CX0 k f fd ps sp)(d:Room k X.A)(g:PA X (e::es) t)(h:Gl X x:=by rfl)(a:N' x:=by decide)(i:J' (e::es) X.env=(false,eval e X.env)::J' es X.env:=by rfl)(c:(backTo pos (J' es X.env)).any (·.1)=false:=by rfl):PE X (.Call (.Name x p) (e::es) [] pos) (Jg sp [] (λ_=>E0) t):=qaz7 G d h D.m D.F.kp D.b .nil Jk g a i c
end L2
namespace LB
open PySem PySem.Spec PyProof.Rows
theorem qV8:typeLookup (.type "list") "keys"=pure none:=by rw[typeLookup_type,builtinLookup_eq_fast];kernel_rfl
theorem qG3:typeLookup (.type "list") "__getattr__"=pure none:=by rw[typeLookup_type,builtinLookup_eq_fast];kernel_rfl
section
variable{prog:K8}{w:La}{A:K9}{E:V'->δ->Prop}{h:Heap}{g:Array GenState}{d:Drawn}{t:Nat}{u:OsState}{a:γ}{its:Array V'}{n:Nat}
theorem qG4(c:h.get? a=some {cls:=.type "list",data:=.seq its n})(f:A.handled=none)(i:∀h' b e,Heap.NewAttrErr h h' e (.ref a) "keys" -> E (.ref e) ⟨h',g,d,b,u⟩):K6 (K7 prog w) A (Builtin.«object.__getattribute__» ⟨[.ref a,.str "keys" b],[]⟩) Q E ⟨h,g,d,t,u⟩:=by
 have j:(⟨h,g,d,t,u⟩:δ).TypeIs (.ref a) "list" := ⟨_,c,rfl⟩;have k:=qV8;repeat (any_goals (first|assumption|wp_step))
 exact wpAny_raiseAttrError f (i) (attrMsg_fits (by decide +kernel) (by decide +kernel))
theorem qM1(i:h.get? a=some {cls:=.type "list",data:=.seq its n})(k:A.handled=none)(l:∀h' f,(∀b o,h.get? b=some o->h'.get? b=some o)->Q none ⟨h',g,d,f,u⟩):K6 (K7 prog w) A (getAttr? (.ref a) "keys") Q E ⟨h,g,d,t,u⟩:=by
 have j:∀f,(⟨h,g,d,f,u⟩:δ).TypeIs (.ref a) "list" := λ_=>⟨_,i,rfl⟩;have m:=j t;have f1:=sub_AttributeError;have f2:=F.slot_list_getattribute.lookup;have f3:=F.slot_list_getattribute.bind (.ref a);have p:=qG3;unfold getAttr? getAttrBy? getAttrBy;repeat (any_goals (first|assumption|wp_step))
 refine codeAny_call_builtin F.slot_list_getattribute.plain F.entry_list_ga (F.slot_list_getattribute.check _ _ _ _ _ _ _ _ (j _) (F.args_list_getattribute_2 _ _) (qG4 i k λh' f e c=>?_));obtain⟨q,r,s⟩:=c.there;show K6 _ _ (getattributeRaised _ _ _ _ _ _ _) _ _ _;unfold getattributeRaised;repeat (any_goals (first|assumption|wp_step))
 exact l _ _ c.keeps
end
theorem qr3:entryFor table "dict.update.loop"=some Builtin.«dict.update.loop»:=entryFor_of_tree (by kernel_rfl)
theorem qg9:plainId "dict.update.loop"=true:=by decide +kernel
section
variable{prog:K8}{w:La}{K:Type}[DecidableEq K]{knd:KeyKind prog w K}{A:K9}{R:Result->δ->Prop}
theorem qaw3(V:A.handled=none)(z:ax≠I)(g:d≠I)(B:ax≠d):∀(rest:List (K×V'))(i:Nat)(v:Int)(kvs:List (K×V'))(s:δ),
 (∀(j:Nat) a,rest[j]?=some a->∃t key,items[i+j]?=some (.ref t)/\IsTup s.heap t #[key,a.2]/\knd.is a.1 key=true/\t≠I/\t≠d)->items.size=i+rest.length->s.heap.IsListIter I ax i->s.heap.IsList ax items->s.heap.DictOf knd d kvs->kvs.length+rest.length<=Kl->(∀h' C,h'.DictOf knd d (rest.foldl (λacc a=>stored acc a.1 a.2) kvs)->(∀b o,b≠I->b≠d->s.heap.get? b=some o->h'.get? b=some o)->R (.ok (.ret .none)) {s with heap:=h',toks:=C})->codeAny (K7 prog w) A (.builtin "dict.update.loop" ⟨[.ref d,.ref I,rawInt v,.none],[]⟩) R s:=by
 intro rest;induction rest with
 |nil=>
  intro i v kvs s D f h x E Q F;refine codeAny_builtin qr3 ?_;rw[Around.under_plainId qg9 _];show K6 _ A.in1 (pyNext (.ref I) >>= _) _ _ s;refine E' (wpAny_pyNext_list_end V h x (by simp at f;simp[f]) λh' S=>?_);show K6 _ _ (Builtin.Dict.addKeywords d [] >>= _) _ _ _;refine E' (G' (G' ?_));have k:h'.DictOf knd d kvs:=by obtain⟨o,G,H,l,r⟩:=E;exact⟨o,G,H,S d o g l,r⟩
  exact F h' s.toks k λb o y _ e=>S b o y e
 |cons a rest W=>
  intro i v kvs s D f h x E Q F;obtain⟨t,key,X,Y,Z,h4,h5⟩:=D 0 a rfl;refine codeAny_builtin qr3 ?_;rw[Around.under_plainId qg9 _];show K6 _ A.in1 (pyNext (.ref I) >>= _) _ _ s;refine E' (wpAny_pyNext_list_item h x X λh' m p=>?_);have J:IsTup h' t #[key,a.2]:=Y.extBut p.extBut h4;obtain⟨o,l,L,n,M⟩:=J;refine E' (Ko ?_);refine E' (wpAny_tryCatch ?_);unfold Builtin.Dict.pairItems;refine E' (wpAny_typeOf (T := "tuple") ⟨o,l,L⟩ ?_);rw[if_pos ∅];refine E' (wpAny_seqItems l M (G' ?_));dsimp only[Option.getD];have k:h'.DictOf knd d kvs:=by obtain⟨o,G,H,l,r⟩:=E;exact⟨o,G,H,p.extBut d o g l,r⟩
  simp only[zAq] at Q f;show K6 _ _ (holding [key,a.2] (dictSet d key a.2)) _ _ _;refine Ko (wpAny_dictSet_pairs (hsz:=by lia) Z k λa0 q c=>?_);refine G' ⟨plainId_quiet qg9 _,?_⟩;have U:(stored kvs a.1 a.2).length<=kvs.length+1:=by unfold stored;split;{rw[zAa];lia};rw[zAd];simp
  refine W (i+1) (v+1) (stored kvs a.1 a.2) _ (λj N hj=>?_) ⋯ ?_ ?_ q ⋯ λO C P k3=>?_;{obtain⟨t',key',g1,g2,g3,g4,g5⟩:=D (j+1) N hj;exact⟨t',key',by rw[show i+1+j=i+(j+1) by lia];exact g1,(g2.extBut p.extBut g4).extBut c.extBut g5,g3,g4,g5⟩};{exact m.at λo e=>c.extBut I o (Ne.symm g) e};{exact(x.at λo e=>p.extBut ax o z e).at λo e=>c.extBut ax o B e};exact F O C P λb o y u e=>k3 b o y u (c.extBut b o u (p.extBut b o y e))
end
end LB
namespace L2
open PySem PySem.Spec PyProof.Rows
section
variable{X:Cx}
theorem KV.fold:∀{more:List (Key×V)}{a:List (Key×V')}{kvs:List (Key×V)}{vs:List (Key×V')},KV more a->KV kvs vs->KV (qG1 kvs more) (a.foldl (λacc b=>stored acc b.1 b.2) vs):=by intro more a kvs vs r;unfold KV at r;induction r generalizing kvs vs with|nil=>intro q;exact q|@cons p q _ _ h _ ih=>intro c;show KV (qG1 (putK kvs p.1 p.2) _) (Me _ (stored vs q.1 q.2) _);refine ih ?_;rw[<-h.1];exact c.put p.1 h.2
def qaC3(H:Hp)(ys:List V)(kvs:List (Key×V)):Prop:=Paired (λy (a:Key×V)=>∃t,y=.ref t/\H t=some (.q [kV a.1,a.2])) ys kvs
def qaN5:List V->Hp->VK->Prop:=λxs H Q=>∃a ys kvs,xs=[.ref a]/\H a=some (.l ys)/\qaC3 H ys kvs/\∀p,H p=none->Q (.ref p) (upd H p (.dK (qG1 [] kvs)))
theorem qQ9(hc:X.calm=true):CallR X (.type "dict") qaN5:=by
 intro Dg s σ H xs us Q I r h;obtain⟨a,ys,g,rfl,ha,N,q⟩:=h;obtain⟨u,rfl,ru⟩:=By r;cases ru;have hh:=I.ok.hd hc;obtain⟨z,f,n,rv,O,e⟩:=I.lstM ha;obtain⟨x,J,P⟩:∃x:List (Key×V'),KV g x/\∀(j:Nat) k,x[j]?=some k->∃t i,f[j]?=some (.ref t)/\IsTup s.heap t #[i,k.2]/\(qg2 X.prog X.w).is k.1 i=true:=by clear q e O n ha z;induction N generalizing f with|nil=>exact⟨[],.nil,λj k C=>by simp at C⟩|@cons y k ys g hy _ ih=>cases rv with|@cons _ u _ us' hu hr=>obtain⟨t,rfl,ht⟩:=hy;cases hu;obtain⟨_,its',rt,o,p,R,n,S⟩:=I.hok t _ ht;obtain⟨i,U,rfl,r1,r2⟩:=rt.two;obtain⟨x,J,P⟩:=ih _ hr;refine⟨(k.1,U)::x,.cons ⟨rfl,r2⟩ J,λj V C=>?_⟩;cases j with|zero=>cases C;exact⟨t,i,rfl,⟨o,p,R,n,S⟩,Jj r1⟩|succ j=>exact P j V C
 have D:x.length=f.length:=by rw[<-O,<-Paired.length J,<-Paired.length N]
 have big:=I.big;obtain⟨c,gn,dr,W,Y⟩:=s;refine callType_codes (Q₁:=λE s₁=>E=.ref c.objs.size/\s₁={heap:=c.push {cls:=.type "dict",data:=.dict #[]},gens:=gn,drawn:=dr,toks:=W,os:=Y}) F.kt_called_dict (F.kt_typeCall_dict_1 _) F.entry_dict_init (kt_code_dict_new _ ⟨rfl,rfl⟩) ?_;rintro E s₁ ⟨rfl,rfl⟩;have l:(c.push {cls:=.type "dict",data:=.dict #[]}).DictOf (qg2 X.prog X.w) c.objs.size []:=Heap.DictOf.new c;have Z:(c.push {cls:=.type "dict",data:=.dict #[]}).get? a=some {cls:=.type "list",data:=.seq f.toArray n}:=zA4 _ e;have G:a<c.objs.size:=zAe e;refine⟨l.typeIs,F.args_dict_init_2 _ _,?_⟩;unfold Builtin.«dict.__init__»;refine E' ?_;unfold Builtin.Dict.selfAndRest;refine E' (wpAny_notOrdered_dict l.typeIs ?_);show K6 _ _ (pure (c.objs.size,[Nj a])) _ _ _;refine G' ?_;show K6 _ _ (Builtin.Dict.updateFrom "dict.__init__" c.objs.size (.ref a) [] .none) _ _ _;unfold Builtin.Dict.updateFrom;refine E' (wpAny_typeOf (T := "list") ⟨_,Z,rfl⟩ ?_);rw[if_pos ∅];refine E' (LB.qM1 Z hh λB a2 K=>?_);rw[if_pos (by rfl)];have e1:B.get? a=some {cls:=.type "list",data:=.seq f.toArray n}:=K _ _ Z;have d1:B.DictOf (qg2 X.prog X.w) c.objs.size []:=by obtain⟨o,L,M,p,r⟩:=l;exact⟨o,L,M,K _ _ p,r⟩
 refine E' (wpAny_rule ?_);have hlist:B.IsList a f.toArray:=⟨_,e1,rfl,n,rfl⟩;refine E' (wpAny_pyIter_list hlist ?_);have v:c.objs.size<B.objs.size:=by obtain⟨o,L,M,p,r⟩:=d1;exact zAe p
 refine G' ⟨plainId_quiet LB.qg9 _,?_⟩;refine LB.qaw3 (knd:=qg2 X.prog X.w) (A:=X.A.in1) hh (I:=B.objs.size) (ax:=a) (d:=c.objs.size) (items:=f.toArray) (zAs (Nat.lt_trans G v)) (zAs v) (zAs G) x 0 0 [] _ (λj k C=>?_) (by simp[D]) ?_ ?_ ?_ ?_ λh2 a0 d2 k2=>?_;{obtain⟨t,i,g1,g2,g3⟩:=P j k C;obtain⟨o,p,r⟩:=g2;have m:=zAe p;exact⟨t,i,by simpa using g1,⟨o,zA4 _ (K _ _ (zA4 _ p)),r⟩,g3,zAs (Nat.lt_trans m v),zAs m⟩};{exact⟨_,zAy _ rfl,rfl,rfl⟩};{exact⟨_,zA4 _ e1,rfl,n,rfl⟩};{obtain⟨o,L,M,p,r⟩:=d1;exact⟨o,L,M,zA4 _ p,r⟩};{simp only[Mf,zAk];rw[D,<-O];exact z};refine⟨rfl,?_⟩;have hf:H c.objs.size=none:=I.hok.fresh (zA2 _);have keep:∀b o,c.get? b=some o->h2.get? b=some o:=λb o eb=>by have m:=zAe eb;exact k2 b o (zAs (Nat.lt_trans m v)) (zAs m) (zA4 _ (K _ _ (zA4 _ eb)))
 have rm:KV (qG1 [] g) (x.foldl (λa1 k=>stored a1 k.1 k.2) []):=KV.fold J .nil;have hz:(qG1 [] g).length<=Kl:=by have B:=qy5 g [];have h2:=Paired.length N;simp only[Mf] at B;lia
 refine⟨.ref c.objs.size,_,I.laid (t':=a0) (o:=.dK (qG1 [] g)) keep (zA2 _) ?_,rfl,q _ hf⟩;exact⟨hz,zBz.mpr (Ne.symm (zAs big)),_,rm,d2⟩
end
section
variable{X:Cx}
theorem qac0(t:X.calm=true):CallR X (.builtin "all") (λxs H Q=>∃(a:γ)(bs:List Bool),xs=[.ref a]/\SqL X.K H a (bs.map V.bl)/\Q (.bl (bs.all id)) H):=by
 intro Dg s L H xs E Q I r h;obtain⟨a,bs,rfl,w,q⟩:=h;obtain⟨u,rfl,k⟩:=By r;cases k;have y:=I.ok.hd t;obtain⟨d,l,m,F⟩:=I.list w;refine call_all_walk (wpAny_pyIter_list m.isList ?_);have n:a<s.heap.objs.size:=let ⟨o,ho,_⟩:=m.isList;zAe ho
 refine⟨s.heap.objs.size,_,_,_,_,_,λi=>bs.getD i false,rfl,Walks.list (A:=X.A.in1) y _ a (zAs n) d.toArray,⟨⟨_,zAy _ rfl,rfl,rfl⟩,?_⟩,?_,?_⟩;{exact m.isList.at λo e=>zA4 _ e}
 .intro i v z Q1 E1 f g;have f:d[i]?=some v:=by simpa using f
  have c:i<bs.length:=by have G:=(zA5.mp f).1;have j:=l.length;rw[zAa] at j;lia
  obtain⟨u,p,k⟩:=l.get (i:=i) (x:=.bl bs[i]) (by simp[c]);rw[f] at p;cases p;cases k;refine Kr ?_;have e:bs.getD i false=bs[i]:=by simp[Mz,c]
  have g:Q1 (bs.getD i false) z:=g;rw[e] at g;exact g
 intro J B C;have e:(Lr d.toArray.size).all (λi=>bs.getD i false)=bs.all id:=by have j:=l.length;rw[zAa] at j;rw[zA3,<-j];rw[Bool.eq_iff_iff];simp only[zBe,zAr,id_eq];constructor;{intro h b D;obtain⟨i,c,rfl⟩:=List.mem_iff_getElem.mp D;have:=h i c;simpa[Mz,c] using this};intro h i c;have:=h bs[i] (List.getElem_mem c);simpa[Mz,c] using this
 rw[e];refine⟨.bl _,H,?_,rfl,q⟩;exact I.kept (t':=B) λb o e=>C b o (by simp;exact zAs (zAe e)) (zA4 _ e)
noncomputable def qo7(ns:List Int):Nat:=(firstMet (λi=>ns.getD i 0) ns.length).length
def rSetI(K:Nx):List V->Hp->VK->Prop:=λxs H Q=>∃(a:γ)(ns:List Int),xs=[.ref a]/\SqL K H a (ns.map V.int)/\ns.length<=1000/\∀p S,H p=none->Q (.ref p) (upd H p (.set S (qo7 ns)))
theorem qaw9(k:X.calm=true):CallR X (.type "set") (rSetI X.K):=by
 intro Dg s L H t v Q I r h;obtain⟨a,f,rfl,l,w,q⟩:=h;obtain⟨u,rfl,m⟩:=By r;cases m;obtain⟨d,i,n,x⟩:=I.list l;have c:d.length=f.length:=by have:=i.length;rw[zAa] at this;exact this.symm
 refine call_set_list (I.ok.hd k) n.isList (by simpa using (qan8 i)) (by rw[zA3,c];show f.length+1<4096;lia) λy z j p=>?_;have g:d.toArray.size=f.length:=by rw[zA3,c]
 rw[g] at j;refine⟨.ref s.heap.objs.size,_,I.laid (o:=.set _ (qo7 f)) (λb o e=>p b o (zAe e) e) (zA2 _) j,rfl,q _ _ (I.hok.fresh (zA2 _))⟩
theorem qax1:CallR X (.builtin "len") (λxs H Q=>∃(a:γ)(S:Int->Bool)(n:Nat),xs=[.ref a]/\H a=some (.set S n)/\Q (.int n) H):=by intro Dg s L H xs l Q I r h;obtain⟨a,S,n,rfl,d,q⟩:=h;obtain⟨u,rfl,e⟩:=By r;cases e;obtain⟨o,f,m,t,g,b,i,_,_,c,j,k⟩:=I.hok a _ d;subst k;have c:f.size<4096:=c;exact call_len_set g b i j ⋯ ⟨.int _,H,I.tok _,⟨_,rfl⟩,q⟩
end
theorem qW8(ns:List Int):qo7 ns=ns.length↔ns.Nodup:=by
 have f:∀i,i<=ns.length->(∀k,k∈firstMet (λi=>ns.getD i 0) i↔k∈ns.take i)/\((firstMet (λi=>ns.getD i 0) i).length=i↔(ns.take i).Nodup):=by
  intro i;induction i with
  |zero=>intro _;rw[firstMet_zero];simp|succ i m=>
   intro r;obtain⟨c,l⟩:=m ⋯;have n:=firstMet_length_le (λi=>ns.getD i 0) i;have b:i<ns.length:=⋯;have o:ns.take (i+1)=ns.take i++[ns[i]]:=by rw[Lx];simp[b]
   have p:ns.getD i 0=ns[i]:=by simp[Mz,b]
   rw[firstMet_succ,o,p];unfold step_dedup;by_cases d:ns[i]∈firstMet (λi=>ns.getD i 0) i;{have a:ns[i]∈ns.take i:=(c _).mp d;have g:(firstMet (λi=>ns.getD i 0) i).any (· == ns[i])=true:=List.any_eq_true.mpr ⟨_,d,by simp⟩;rw[if_pos g];refine⟨λk=>?_,?_⟩;{rw[c];simp only[zAb,zAf];exact⟨.inl,λh=>h.elim id λe=>by rw[e];exact a⟩};constructor;{intro h;lia};intro h;rw[zBq] at h;exact absurd rfl (h.2.2 _ a _ (zAf.mpr rfl))};have a:¬ns[i]∈ns.take i:=λh=>d ((c _).mpr h);have g:¬(firstMet (λi=>ns.getD i 0) i).any (· == ns[i])=true:=λh=>by obtain⟨x,j,e⟩:=List.any_eq_true.mp h;exact d (by rw[<-(zBr.mp e)];exact j)
   rw[if_neg g];refine⟨λk=>?_,?_⟩;{simp only[zAb,zAf];rw[c]};rw[zAd,zBq];simp only[Mp];constructor;{intro h;refine⟨l.mp ⋯,by simp,λx j y q=>?_⟩;rw[zAf.mp q];exact λe=>a (e ▸ j)};intro h;have:=l.mpr h.1;lia
 have:=(f ns.length (zA2 _)).2;rw[zAo (zA2 _)] at this;exact this
end L2
namespace L2
open PySem PySem.Spec PyProof.Rows PySem.SeqAt
variable{A:K9}{xs:List V}
inductive EqD(H:Hp):Nat->V->V->Bool->Prop
 |flat {n:Nat} {x y:V} (hx:flatV x=true) (hy:flatV y=true):EqD H n x y (eqV x y)
 |same {n:Nat} (a:γ):EqD H n (.ref a) (.ref a) true
 |lsts {n:Nat} {a b:γ} {xs ys:List V} {e:Nat->Bool} (ne:a≠b) (ha:H a=some (.l xs)) (hb:H b=some (.l ys)) (hl:xs.length=ys.length) (he:∀i x y,xs[i]?=some x->ys[i]?=some y->EqD H n x y (e i)):EqD H (n+1) (.ref a) (.ref b) ((Lr xs.length).all e)
 |lens {n:Nat} {a b:γ} {xs ys:List V} (ne:a≠b) (ha:H a=some (.l xs)) (hb:H b=some (.l ys)) (hl:xs.length≠ys.length):EqD H (n+1) (.ref a) (.ref b) false
 |tups {n:Nat} {a b:γ} {xs ys:List V} {e:Nat->Bool} (ne:a≠b) (ha:H a=some (.q xs)) (hb:H b=some (.q ys)) (he:∀i x y,xs[i]?=some x->ys[i]?=some y->EqD H n x y (e i)):EqD H (n+1) (.ref a) (.ref b) ((Lr (min xs.length ys.length)).all e&&xs.length==ys.length)
inductive RcD(H:Hp):V->V->Bool->Prop
 |flat {x y:V} (hx:flatV x=true) (hy:flatV y=true):RcD H x y (eqV x y)
 |lsts {a b:γ} {xs ys:List V} {e:Nat->Bool} (ha:H a=some (.l xs)) (hb:H b=some (.l ys)) (hl:xs.length=ys.length) (he:∀i x y,xs[i]?=some x->ys[i]?=some y->EqD H 20 x y (e i)):RcD H (.ref a) (.ref b) ((Lr xs.length).all e)
 |lens {a b:γ} {xs ys:List V} (ha:H a=some (.l xs)) (hb:H b=some (.l ys)) (hl:xs.length≠ys.length):RcD H (.ref a) (.ref b) false
 |tups {a b:γ} {xs ys:List V} {e:Nat->Bool} (ha:H a=some (.q xs)) (hb:H b=some (.q ys)) (he:∀i x y,xs[i]?=some x->ys[i]?=some y->EqD H 20 x y (e i)):RcD H (.ref a) (.ref b) ((Lr (min xs.length ys.length)).all e&&xs.length==ys.length)
section
variable{X:Cx}{E:List (γ×Obj)}{D:St}{H:Hp}{s:δ}
theorem Ox.lstI(I:Ox X E D H s){a:γ}(h:H a=some (.l xs)):∃its:List V',Ov xs its/\s.heap.IsList a its.toArray:=by obtain⟨z,its,n,r,_,e⟩:=I.lstM h;exact⟨its,r,_,e,rfl,n,rfl⟩
theorem Ox.tupI(I:Ox X E D H s){a:γ}(h:H a=some (.q xs)):∃its:List V',Ov xs its/\s.heap.IsTuple a its.toArray:=by obtain⟨z,its,r,o,b,c,n,d⟩:=I.hok a _ h;exact⟨its,r,o,b,c,n,d⟩
theorem qz5(A:K9):A.in1.units<=A.units+1:=zA2 _
theorem qX7{P:V->V->Nat->Prop}{e:Nat->Bool}{ys:List V}{its its2:List V'}(r:Ov xs its)(a:Ov ys its2)(k:∀i x y u v,xs[i]?=some x->ys[i]?=some y->Ou x u->Ou y v->EqAt A s u v (e i)):∀j (h1:j<its.toArray.size) (h2:j<its2.toArray.size),EqAt A s its.toArray[j] its2.toArray[j] (e j):=by
 intro j h1 h2;rw[zA3] at h1 h2;have h:=r.length;have l:=a.length;obtain⟨u,b,d⟩:=r.get (i:=j) (x:=xs[j]'⋯) (by simp);obtain⟨v,c,f⟩:=a.get (i:=j) (x:=ys[j]'⋯) (by simp);have g:its.toArray[j]=u:=by
  have:its[j]?=some its[j]:=by simp[h1]
  rw[this] at b;simpa using Nv b
 have e2:its2.toArray[j]=v:=by
  have:its2[j]?=some its2[j]:=by simp[h2]
  rw[this] at c;simpa using Nv c
 rw[g,e2];exact k j _ _ u v (by simp) (by simp) d f
theorem EqD.at(I:Ox X E D H s)(h:EqD H n x y b):∀{A:K9}{u v:V'},Ou x u->Ou y v->A.units+n+1<cLine->EqAt A s u v b:=by
 induction h with
 |flat t w=>intro A u v c d _;exact qaU3 c d t w|same a=>intro A u v c d _;cases c;cases d;exact EqAt.same _|@lsts n a b xs ys e ne ha hb hl he ih=>
  intro A u v c d o;cases c;cases d;obtain⟨f,r,p⟩:=I.lstI ha;obtain⟨its2,g,j⟩:=I.lstI hb;have z:f.toArray.size=its2.toArray.size:=by rw[zA3,zA3,<-r.length,<-g.length,hl]
  have q:=EqAt.of_refs ne (RcAt.lists (A:=A) p j z ⋯ (e:=e) (qX7 (P:=λ_ _ _=>True) r g λi x y u v k e2 l m=>ih i x y k e2 l m (by have:=qz5 A;lia)));rw[zA3,<-r.length] at q;exact q
 |@lens n a b xs ys ne ha hb hl=>intro A u v c d o;cases c;cases d;obtain⟨f,r,p⟩:=I.lstI ha;obtain⟨its2,g,j⟩:=I.lstI hb;exact EqAt.of_refs ne (RcAt.lists_lengths p j (by rw[zA3,zA3,<-r.length,<-g.length];simpa using hl) ⋯)|@tups n a b xs ys e ne ha hb he ih=>intro A u v c d o;cases c;cases d;obtain⟨f,r,p⟩:=I.tupI ha;obtain⟨its2,g,j⟩:=I.tupI hb;have q:=EqAt.of_refs ne (RcAt.tuples (A:=A) p j ⋯ (e:=e) (qX7 (P:=λ_ _ _=>True) r g λi x y u v k e2 l m=>ih i x y k e2 l m (by have:=qz5 A;lia)));rw[zA3,zA3,<-r.length,<-g.length] at q;exact q
theorem RcD.at(I:Ox X E D H s)(h:RcD H x y b)(j:Ou x u)(c:Ou y v)(C:A.units+60<cLine):RcAt A s u v b/\RcNeAt A s u v (!b):=by
 cases h with
 |flat B o=>cases x with|non=>(cases j;cases y with|non=>cases c;exact⟨RcAt.none_none,RcNeAt.none_none⟩|bl b=>cases c;exact⟨RcAt.none_bool b,RcNeAt.none_bool b⟩|int b=>obtain⟨t,rfl⟩:=c;exact⟨RcAt.none_int b t,RcNeAt.none_int b t⟩|str b=>obtain⟨t,rfl⟩:=c;exact⟨RcAt.none_str b t,RcNeAt.none_str b t⟩|_=>exact absurd (show false=true from o) zAt)|bl a=>(cases j;cases y with|non=>cases c;exact⟨RcAt.bool_none a,RcNeAt.bool_none a⟩|bl b=>cases c;exact⟨RcAt.bool_bool a b,RcNeAt.bool_bool a b⟩|int b=>obtain⟨t,rfl⟩:=c;exact⟨RcAt.bool_int a b t,RcNeAt.bool_int a b t⟩|str b=>obtain⟨t,rfl⟩:=c;exact⟨RcAt.bool_str a b t,RcNeAt.bool_str a b t⟩|_=>exact absurd (show false=true from o) zAt)|int a=>(obtain⟨d,rfl⟩:=j;cases y with|non=>cases c;exact⟨RcAt.int_none a d,RcNeAt.int_none a d⟩|bl b=>cases c;exact⟨RcAt.int_bool a d b,RcNeAt.int_bool a d b⟩|int b=>obtain⟨t,rfl⟩:=c;exact⟨RcAt.int_int a d b t,RcNeAt.int_int a d b t⟩|str b=>obtain⟨t,rfl⟩:=c;exact⟨RcAt.int_str a d b t,RcNeAt.int_str a d b t⟩|_=>exact absurd (show false=true from o) zAt)|str a=>(obtain⟨d,rfl⟩:=j;cases y with|non=>cases c;exact⟨RcAt.str_none a d,RcNeAt.str_none a d⟩|bl b=>cases c;exact⟨RcAt.str_bool a d b,RcNeAt.str_bool a d b⟩|int b=>obtain⟨t,rfl⟩:=c;exact⟨RcAt.str_int a d b t,RcNeAt.str_int a d b t⟩|str b=>obtain⟨t,rfl⟩:=c;exact⟨RcAt.str_str a d b t,RcNeAt.str_str a d b t⟩|_=>exact absurd (show false=true from o) zAt)|_=>exact absurd (show false=true from B) zAt
 |@lsts a b xs ys e ha hb hl he=>
  cases j;cases c;obtain⟨f,r,p⟩:=I.lstI ha;obtain⟨its2,l,g⟩:=I.lstI hb;have m:f.toArray.size=its2.toArray.size:=by rw[zA3,zA3,<-r.length,<-l.length,hl]
  have k:=qX7 (P:=λ_ _ _=>True) (e:=e) (A:=A.in1) (s:=s) r l λi x y u v q e2 w z=>(he i x y q e2).at I w z (by have:=qz5 A;lia);have n:=RcAt.lists p g m ⋯ k;have q2:=RcNeAt.lists p g m ⋯ k;rw[zA3,<-r.length] at n q2;exact⟨n,q2⟩
 |@lens a b xs ys ha hb hl=>
  cases j;cases c;obtain⟨f,r,p⟩:=I.lstI ha;obtain⟨its2,l,g⟩:=I.lstI hb;have m:(f.toArray.size != its2.toArray.size)=true:=by rw[zA3,zA3,<-r.length,<-l.length];simpa using hl
  exact⟨RcAt.lists_lengths p g m ⋯,RcNeAt.lists_lengths p g m ⋯⟩
 |@tups a b xs ys e ha hb he=>cases j;cases c;obtain⟨f,r,p⟩:=I.tupI ha;obtain⟨its2,l,g⟩:=I.tupI hb;have k:=qX7 (P:=λ_ _ _=>True) (e:=e) (A:=A.in1) (s:=s) r l λi x y u v q e2 w z=>(he i x y q e2).at I w z (by have:=qz5 A;lia);have n:=RcAt.tuples p g ⋯ k;have q2:=RcNeAt.tuples p g ⋯ k;rw[zA3,zA3,<-r.length,<-l.length] at n q2;exact⟨n,q2⟩
end
def rEqD:R2:=λx y H Q=>∃b,RcD H x y b/\Q (.bl b) H
def rNeD:R2:=λx y H Q=>∃b,RcD H x y b/\Q (.bl (!b)) H
theorem qs4(e:X.A.units+64<cLine):OpR X (Km .Eq) rEqD:=by intro Dg s f H x y v u Q I a c ⟨b,d,q⟩;exact(d.at I a c ⋯).1 X.prog X.w X.xe _ ⟨.bl b,H,I,rfl,q⟩
theorem qh5(e:X.A.units+64<cLine):OpR X (Km .NotEq) rNeD:=by intro Dg s f H x y v u Q I a c ⟨b,d,q⟩;exact(d.at I a c ⋯).2 X.prog X.w X.xe _ ⟨.bl (!b),H,I,rfl,q⟩
theorem qE2:∀{x:V},flatV x=true->eqV x x=true:=by intro x h;cases x with|non=>rfl|bl b=>exact zB3 b|int b=>exact zB3 b|str b=>exact zB3 b|_=>exact absurd (show false=true from h) zAt
theorem Room.u64(a:Room k A):A.units+64<cLine:=a.units
end L2
namespace L2
open PySem PySem.Spec PyProof.Rows
structure Cl(K:Nx)(mg:Str->Option V')(x:Str)(C:γ):Prop where
 cl:Cls K C
 m:mg x=some (.ref C)
structure Md(K:Nx)(C:γ)(m qual:Str)(st:Lc)(f:γ)(fd:ε)(ps:List Str):Prop where
 F:Fun K m qual st f fd
 b:Binds K fd ps []
 me:Jf K C m f
 isf:W.isFn K (.ref f)=true
theorem mdmk{K:Nx}{st:Lc}{kV:V'}(l:K.lookup f=some ⟨oc,o,.func (W.fnOf m qual (qg4 st) (qd0 st) (qa2 st) .none kV d g e b j),n⟩)(c:W.codeIn K b qual=true)(k:W.keepIn K (.ref f)=true)(a:W.findIn K (.ref C) m=some (some (.ref f)))(i:W.isFn K (.ref f)=true)(h:∀(kV d g:V')(e:Option γ)(b j:V')(us:List V'),us.length=ps.length->bindArgs (W.fnOf m qual (qg4 st) (qd0 st) (qa2 st) .none kV d g e b j) ⟨us,[]⟩=pure (ps.zip us)):Md K C m qual st f (W.fnOf m qual (qg4 st) (qd0 st) (qa2 st) .none kV d g e b j) ps:=⟨qav2 l c k,(qav2 l c k).binds h,⟨a,i,k⟩,i⟩
end L2
namespace L2
open PySem PySem.Spec PyProof.Rows
def excIs(e C:γ)(b:Option γ)(c:Bool)(h:Heap):Prop:=∃a vs,h.get? e=some a/\a.cls=.ref C/\a.dict=b/\a.data=.fields vs/\1<vs.size/\(c=true->vs[1]?=some .none)
noncomputable abbrev ExcO(e C:γ)(a:Option γ)(b:Bool):HO:=.ext (excIs e C a b)
def xdIs(d:γ)(fs:List (Str×V))(h:Heap):Prop:=∃mA,h.Ns1 d mA/\(∀f,RelO (fs.lookup f) (mA f))/\PySem.Within mA (fs.map (·.1))/\fs.length<=1000
abbrev XD(d:γ)(fs:List (Str×V)):HO:=.ext (xdIs d fs)
def CX1(_:K8)(_:La):CXT:=λ_ _ _ _ _ _=>False
def Lands(_:Cx)(_:St->XK):Prop:=True
theorem Lands.passes{X:Cx}{E:St->XK}(_:Lands X E):qR3 (CX1 X.prog X.w) X E:=λ_ _ _ _ _ _ _ q=>q.elim
theorem qa1:Lands X E:=trivial
end L2
namespace L2
open PySem PySem.Spec PyProof.Rows PySem.SeqAt
open PySem.AutoSeq1 (wpAny_loadPart')
theorem Fun.okX{K:Nx}{st:Lc}(F:Fun K x qual st f fd)(S:qa8 N ps (qa2 st))(len:∀vs H Q E,sp vs H Q E->vs.length=ps.length)(hbody:∀(a:V')(A:K9)(outer:List Env)(s:δ)(H:Hp)(vs:List V)(Q:VK)(E:XK),Room k (A.deeper (envOfC qual (qa2 st) s.heap.objs.size f a))->sp vs H Q E->∃t,PSs (Ez true (CX1 P w) P w K mg base N qual (qa2 st) f a A outer s H E) (qd0 st) t/\t {nx:=λ_ H'=>Q .non H',rt:=Q} (start N vs) H):Du P w K mg base (CX1 P w) (k+1) f fd ps sp:=by obtain⟨i,j,kV,d,l,m,a,n,e,rfl,g,b⟩:=F.ex;exact Jh g b S len λA outer s H vs Q E h c=>hbody a A outer s H vs Q E h c
end L2
namespace L2
open PySem PySem.Spec PyProof.Rows
section
variable{X:Cx}{A:List (γ×Obj)}{y:St}{H:Hp}{s:δ}{h':Heap}
theorem Ox.turnedL{ch:List γ}(I:Ox X A y H s)(k:∀b o,b∉ch->s.heap.get? b=some o->h'.get? b=some o)(f:∀b∈ch,Ge X A H b):Ox X A y H {s with heap:=h',toks:=t'}:=by
 have d:∀b u,H b=some u->b∉ch:=λb u e z=>by rw[(f b z).1] at e;cases e
 refine I.step (λb g=>?_) (λb o _ _ a e _=>k b o a e) (λb o _ _ a e _=>⟨o.slots,k b o a e⟩) (λ_ _ _ _ n=>n)
  (λb o a e=>⟨o,k b o a e⟩) (λ_ _ e=>e) (λ_ _ _ e=>e) (λb w e=>⟨#[],by rw[e];simp⟩) (λm h=>?_) (λb u e=>?_) I.bare
 {obtain⟨x,f1,f2,f3,i,j⟩:=f b g;exact⟨f3,f1,i,j⟩};{obtain⟨o,l,p,t,r⟩:=h;exact⟨o,l,p,k _ o (λz=>(f _ z).2.1 rfl) t,r⟩};refine(I.hok b u e).stay (λc v a q=>k c v ?_ q) (λ_ q=>q) λ_ _ q=>q;rcases a with z|z;{rw[z];exact d b u e};exact d c _ z
end
def Ite(K:Nx)(a:γ):It:=⟨λi H=>∃xs x,SqL K H a xs/\xs[i]?=some x,λi H x H'=>∃t y,x=.ref t/\H t=none/\H'=upd H t (.q [.int (i:Int),y])/\∀xs,SqL K H a xs->xs[i]?=some y,λi H=>∃xs,SqL K H a xs/\xs.length<=i⟩
theorem qar4{P:K8}{w:La}{K:Nx}{elts:List Lb}{x1:Nat}{pos:Pos}(a it e:γ)(n:e≠it):Jc P w K (.Tuple elts x1 pos) (Ite K a) [e,it] e (λi h=>(∃d,IsEnum h e it (i:Nat) d)/\h.IsListIter it a i) where
 mem:=by simp
 obj:=λi h f b c=>by
   obtain⟨⟨d,g⟩,o,ho,C,hd⟩:=f;rcases zAl.mp c with rfl|c
   . exact⟨_,g,λv z=>by
       cases (z)⟩
   rw[zAf.mp c];exact⟨o,ho,λv z=>by rw[hd] at z;cases z⟩
 keep:=λi h Z f k=>by
   obtain⟨⟨d,g⟩,f⟩:=f;exact⟨⟨d,k e (by simp) _ g⟩,f.at λo q=>k it (by simp) o q⟩
 item:=by
   intro X D F G C i Dg s W H E I r f J;subst D F G;obtain⟨xs,x,B,L⟩:=J;obtain⟨⟨d,g⟩,j⟩:=f;obtain⟨M,N,p,hz⟩:=I.list B;obtain⟨u,hu,ru⟩:=N.get L;have O:H s.heap.objs.size=none:=I.hok.fresh (zA2 _);obtain⟨oi,Q,_⟩:=id j;have t:e<s.heap.objs.size:=zAe g;have lt2:it<s.heap.objs.size:=zAe Q;refine wpAny_pyNext_enum_item g j p.isList (x:=u) (by simpa using hu) n λh1 R y S a0 T=>?_
   refine⟨_,rfl,wpAny_letOwnedTupleGo_enum (s:={s with heap:=h1,toks:=s.toks+1}) R λU V l=>?_⟩
   replace l:Heap.SameBut e h1 U:=l
   have I0:Ox X Dg W (upd H s.heap.objs.size (.q [.int (i:Int),x])) {s with heap:=s.heap.push {cls:=.type "tuple",data:=.seq #[.int i s.toks,u]},toks:=s.toks+1}:=I.laid (λb o q=>zA4 _ q) (zA2 _) ⟨by show 2<=Kl;decide,[.int i s.toks,u],.cons ⟨_,rfl⟩ (.cons ru .nil),⟨_,zAy _ rfl,rfl,_,rfl⟩⟩
   have I2:Ox X Dg W (upd H s.heap.objs.size (.q [.int (i:Int),x])) {s with heap:=U,toks:=s.toks+1}:=by
     refine Ox.turnedL (s:={s with heap:=s.heap.push {cls:=.type "tuple",data:=.seq #[.int i s.toks,u]},toks:=s.toks+1}) (h':=U) (ch:=[e,it]) (t':=s.toks+1) I0 (λb o c q=>?_) (λb c=>?_)
     . have A:b≠e:=λz=>c (by simp[z])
       have Y:b≠it:=λz=>c (by simp[z])
       refine l.extBut b o A ?_;rcases Heap.get?_push_cases (show (s.heap.push {cls:=.type "tuple",data:=.seq #[.int i s.toks,u]}).get? b=some o from q) with⟨rfl,rfl⟩|q
       . exact S
       exact T b o A Y q
     refine⟨?_,(r b c).2⟩;have m:b<s.heap.objs.size:=by
       rcases zAl.mp c with rfl|c
       . exact t
       rw[zAf.mp c];exact lt2
     rw[qd1 (zAs m)];exact(r b c).1
   refine⟨.ref s.heap.objs.size,_,I2,rfl,⟨_,x,rfl,O,rfl,λys hy=>by rw[I.list_inj hy B];exact L⟩,⟨⟨u,?_⟩,?_⟩,λb c=>?_⟩
   . have:((i+1:Nat):Int)=(i:Int)+1:=by push_cast;rfl
     rw[this];exact V
   . exact y.extBut l.extBut (Ne.symm n)
   have m:b<s.heap.objs.size:=by
     rcases zAl.mp c with rfl|c
     . exact t
     rw[zAf.mp c];exact lt2
   rw[qd1 (zAs m)];exact(r b c).1
 done:=by
   intro X D F G C i Dg s W H E I r f J;subst D F G;obtain⟨xs,B,L⟩:=J;obtain⟨⟨d,g⟩,j⟩:=f;obtain⟨M,N,p,hz⟩:=I.list B;obtain⟨f0,f1,f2,f3,f4,f5⟩:=r it (by simp);have hl:=N.length;exact wpAny_pyNext_enum_end (I.ok.hd C) g j p.isList (by simp;lia) λZ eb=>⟨rfl,I.turned (t':=s.toks) (λb o c q=>eb b o c q) f0 f1 f3 f4 f5⟩
 self:=λ_ _ _ _ _ f h=>by
   obtain⟨⟨d,g⟩,_⟩:=f;exact wpAny_pyIter_enum g h
section
variable{X:Cx}
def iEnum(K:Nx)(ta:TA):TI:=λL H R=>ta L H λvs H1=>∃a,vs=[.ref a]/\(∃xs,SqL K H1 a xs)/\R (Ite K a) H1
theorem qaO8(k:Gl X "enumerate")(hm:X.mg "enumerate"=none)(m:PA X [l] ta)(n:J' [l] X.env=[(false,eval l X.env)]:=by rfl):PI X (.Tuple elts j tpos) (.Call (.Name "enumerate" p) [l] [] pos) (iEnum X.K ta):=by
 intro Dg s L H R I h;refine Call_ (qan0 I k hm boot_enumerate (PyProof.Rows.callWith_type1 (thn (m pos Dg s L H _ I h) λB c f=>?_) n rfl));obtain⟨C,H1,I1,o,t⟩:=f;obtain⟨a,e,⟨D,u⟩,q⟩:=t;subst e;cases o with
 |cons r v=>
  cases v;cases r;obtain⟨w,E,x,F⟩:=I1.list u;refine call_enumerate_list x.isList λG i y z A=>?_;refine wpAny_pyIter_enum i ?_;refine⟨c.heap.objs.size+1,[c.heap.objs.size+1,c.heap.objs.size],_,_,H1,rfl,I1.kept A,qar4 a c.heap.objs.size (c.heap.objs.size+1) (Nat.succ_ne_self _),⟨⟨_,i⟩,y⟩,λb g=>?_,q⟩;have d:c.heap.objs.size<=b:=by rcases zAl.mp g with rfl|g;{exact Nat.le_succ _};rw[zAf.mp g];exact zA2 _
  exact I1.fpOk d (I1.hok.fresh d)
end
section
variable{X:Cx}
def qaN4:V->List V->Hp->VK->Prop:=λx vs H Q=>∃l xs y j z,x=.ref l/\vs=[y]/\H l=some (.l xs)/\flatV y=true/\xs.all flatV=true/\xs[j]?=some z/\eqV z y=true/\(∀m z',m<j->xs[m]?=some z'->eqV z' y=false)/\Q (.int (j:Nat)) H
theorem Ov.getU(r:Ov xs us){j:Nat}(h:us[j]?=some u):∃x,xs[j]?=some x/\Ou x u:=by have c:=r.length;have d:=(zA5.mp h).1;obtain⟨e,a,b⟩:=r.get (show xs[j]?=some xs[j] by simp);rw[h] at a;cases a;exact⟨_,by simp,b⟩
theorem qL4:MtM X "list.index" qaN4:=by
 intro Dg s R H x M v N Q I f B h;obtain⟨l,C,y,j,O,rfl,rfl,D,E,p,t,g,i,q⟩:=h;cases f;obtain⟨u,rfl,G⟩:=B.one;obtain⟨z,a,n,r,P,e⟩:=I.lstM D;have J:=(zA5.mp t).1;have A:=r.length;have small:((j:Nat):Int)<2 ^ 63-1:=by have:Kl<2 ^ 62:=∅;lia
 have eqAt:∀m (d:m<a.toArray.size),∃x,C[m]?=some x/\eqU y a.toArray[m]=eqV x y:=λm d=>by
  have K:m<a.length:=by simpa using d
  obtain⟨x,b,f⟩:=r.getU (show a[m]?=some a[m] by simp);refine⟨x,b,?_⟩;have:=qav9 (x:=y) f (zBe.mp p x (zB8 b));simpa using this
 have c:j<a.toArray.size:=by simp;lia
 refine Kz N2 ⟨_,e,rfl⟩ F.entry_list_index (F.args_list_index_2 _ _) (SeqAt.list_indexAt l a.toArray n none #[] u (eqU y) j c small ?_ ?_) ⟨e,λw L=>qs6 G E r p w (by simpa using L),⟨.int (j:Nat),H,I.tok _,⟨_,rfl⟩,q⟩⟩;{obtain⟨x,b,k⟩:=eqAt j c;rw[t] at b;cases b;rw[k];exact g};intro m d o;obtain⟨x,b,k⟩:=eqAt m d;rw[k];exact i m x o b
def qaN6:V->List V->Hp->VK->Prop:=λx vs H Q=>∃l xs y,x=.ref l/\vs=[y]/\H l=some (.l xs)/\flatV y=true/\xs.all flatV=true/\Q (.int (xs.countP (λz=>eqV z y):Nat)) H
theorem qab5{x:V}:∀{xs:List V}{us:List V'},Ov xs us->xs.all flatV=true->us.countP (eqU x)=xs.countP λy=>eqV y x|_,_,.nil,_=>rfl|y::xs,u::us,.cons r t,f=>by rw[Ly,zBi] at f;rw[M4,M4,qav9 r f.1,qab5 t f.2]
theorem qaH3:MtM X "list.count" qaN6:=by intro Dg s R H x k v m Q I c d h;obtain⟨l,o,y,rfl,rfl,f,g,b,q⟩:=h;cases c;obtain⟨u,rfl,i⟩:=d.one;obtain⟨z,a,n,r,p,e⟩:=I.lstM f;refine Kz N5 ⟨_,e,rfl⟩ F.entry_list_count (F.args_list_count_2 _ _) (SeqAt.list_countAt l a.toArray n none #[] u (eqU y)) ⟨e,λw j=>qs6 i g r b w (by simpa using j),⟨.int _,H,I.tok _,⟨_,rfl⟩,?_⟩⟩;rw[show a.toArray.toList.countP (eqU y)=a.countP (eqU y) by simp,qab5 r b];exact q
end
theorem qaw6{K:Nx}(Pv:Nat->St->Hp->Prop)(c:Pv 0 u H)(d:∀i u H,i<=xs.length->Pv i u H->SqL K H a xs)(f:∀(i:Nat) x u H t,xs[i]?=some x->Pv i u H->H t=none->g (.ref t) u (upd H t (.q [.int (i:Int),x])) λσ2 H2=>tf σ2 H2 λh H3=>if h=true then te σ2 H3 λv H4=>∃ys,H4 D=some (.l ys)/\ys.length<Kl/\Pv (i+1) σ2 (upd H4 D (.l (ys++[v]))) else Pv (i+1) σ2 H3)(j:∀u H,Pv xs.length u H->R H):qA2 (Ite K a) g tf te D R u H:=by refine⟨λi m u H=>m=xs.length-i/\i<=xs.length/\Pv i u H,⟨xs.length,by simp,zBf _,c⟩,?_⟩;rintro i m u H ⟨rfl,k,p⟩;have q:=d i u H k p;by_cases b:i<xs.length;{refine .inr ⟨⟨xs,xs[i],q,by simp[b]⟩,Pv (i+1),λu' H' l=>⟨xs.length-(i+1),⋯,rfl,b,l⟩,λx H' y=>?_⟩;obtain⟨t,n,e,o,r,s⟩:=y;subst e r;exact f i n u _ t (s xs q) p o};have e:i=xs.length:=⋯;subst e;exact .inl ⟨⟨xs,q,zA2 _⟩,j u H p⟩
end L2
namespace L2
open PySem PySem.Spec PyProof.Rows
noncomputable def qaI1:List String:=["NoneType", "bool", "int", "str", "list", "tuple", "dict"]
structure IsO(K:Nx)(C:γ):Prop where
 ca:W.findIn K (.ref C) "__class__"=some (some (.builtin "object.__class__"))
 cn:W.specialIn K (.builtin "object.__class__") "__get__"=some (some (.builtin "getset_descriptor.__get__"))
 ct:W.takesIn K (.builtin "object.__class__")=some true
 cm:W.mroIn K C (.type "object")=some true
 kf:∀t∈qaI1,Ny K (.type t) (.ref C)=some false
theorem kf_of{K:Nx}(h1:Ny K (.type "NoneType") (.ref C)=some false)(h2:Ny K (.type "bool") (.ref C)=some false)(b:Ny K (.type "int") (.ref C)=some false)(c:Ny K (.type "str") (.ref C)=some false)(d:Ny K (.type "list") (.ref C)=some false)(e:Ny K (.type "tuple") (.ref C)=some false)(f:Ny K (.type "dict") (.ref C)=some false):∀t∈qaI1,Ny K (.type t) (.ref C)=some false:=by intro t a;unfold qaI1 at a;simp only[zAl,zCf,or_false] at a;rcases a with rfl|rfl|rfl|rfl|rfl|rfl|rfl<;>assumption
section
variable{X:Cx}
def rIsO(C:γ):List V->Hp->VK->Prop:=λxs H Q=>∃x,xs=[x,.ref C]/\((∃a dx fs,x=.ref a/\H a=some (.ins C dx fs)/\Q (.bl true) H)∨(∃t,Bi H x=some t/\Q (.bl false) H))
theorem qX3(b:IsO X.K C)(g:Cls X.K C):CallR X (.builtin "isinstance") (rIsO C):=by
 intro Dg s m H j k Q I r h;obtain⟨x,rfl,h⟩:=h;obtain⟨u,l,rfl,f,c⟩:=Je r;cases c;rcases h with⟨a,dx,fs,rfl,ha,q⟩|⟨t,hk,q⟩
 .have e:Ny X.K (.ref C) (.ref C)=some true:=by unfold Ny;rw[if_pos (by simp)]
  exact qM2 I f (.ins ha g b.ca b.cn b.ct b.cm) e λd=>⟨.bl true,H,I.tok d,rfl,q⟩
 obtain⟨ty,i⟩:=qan3 hk;exact qM2 I f ty (b.kf t i) λd=>⟨.bl false,H,I.tok d,rfl,q⟩
theorem qaX9(C:γ)(hm:X.mg x=some (.ref C))(a:Gl X x:=by rfl)(b:N' x:=by decide):PE X (.Name x pos) (tC (.ref C)):=qaz5 a hm rfl b
end
end L2
namespace Row
variable{a i j q s t:Nat}{g':Nat->Option Int}{x y:Int}
noncomputable def Aa(n h r:Nat):Nat:=if h<=r then r-h else r+n-h
noncomputable def prev(n r:Nat):Nat:=if r=0 then n-1 else r-1
noncomputable def next(n r:Nat):Nat:=if r+1=n then 0 else r+1
def ahead(n:Nat)(hm:Int->Nat)(r:Nat)(x y:Int):Prop:=Aa n (hm y) r<Aa n (hm x) r∨(Aa n (hm x) r=Aa n (hm y) r/\x<y)
theorem qx9(h:ahead n hm r x y)(h':ahead n hm r y z):ahead n hm r x z:=by unfold ahead at *;lia
theorem qR2(h:ahead n hm r x y)(h':ahead n hm r y x):False:=by unfold ahead at *;lia
theorem qax6(h:ahead n hm r x x):False:=qR2 h h
theorem qax5(h:x≠y)(h':¬ahead n hm r x y):ahead n hm r y x:=by unfold ahead at *;lia
theorem qm9(h:r<n):next n r<n:=by unfold next;split<;>lia
theorem qq6(h:r<n):prev n r<n:=by unfold prev;split<;>lia
theorem ql9(h:r<n):prev n (next n r)=r:=by unfold prev next;split<;>split<;>lia
theorem qL3(h:r<n):next n (prev n r)=r:=by unfold prev next;split<;>split<;>lia
theorem qj6(h:r<n)(b:a<n):Aa n a r<n:=by unfold Aa;split<;>lia
theorem qk1(b:a<n)(h:r<n)(h':s<n)(e:Aa n a r=Aa n a s):r=s:=by unfold Aa at e;split at e<;>split at e<;>lia
theorem qb6(b:a<n)(h:r<n):Aa n a r=0↔r=a:=by unfold Aa;split<;>lia
theorem qd7(c:a<n)(h:r<n)(b:0<Aa n a r):Aa n a (prev n r)=Aa n a r-1:=by unfold Aa prev at *;split at b<;>split<;>split<;>lia
theorem qm5(c:a<n)(h:r<n)(b:Aa n a r+1<n):Aa n a (next n r)=Aa n a r+1:=by unfold Aa next at *;split at b<;>split<;>split<;>lia
theorem nor(n s:Nat):(s+1=n/\next n s=0)∨(s+1≠n/\next n s=s+1):=by unfold next;split<;>lia
theorem por(n s:Nat):(s=0/\prev n s=n-1)∨(s≠0/\prev n s=s-1):=by unfold prev;split<;>lia
theorem dor(n a r:Nat):(a<=r/\Aa n a r+a=r)∨(r<a/\(a<=r+n->Aa n a r+a=r+n)):=by unfold Aa;split<;>lia
theorem Dy(b:a<n)(hi:i<n)(c:s<n)(h:Aa n a i<=Aa n a s):Aa n a i+Aa n i s=Aa n a s:=by have d:=dor n a i;have e:=dor n a s;have f:=dor n i s;lia
theorem Ic(b:a<n)(c:s<n)(d:t<n)(h:Aa n a s<Aa n a t):Aa n t s+Aa n a t=n+Aa n a s:=by have e:=dor n a s;have f:=dor n a t;have g:=dor n t s;lia
theorem qbd1(a:s<n):Aa n (next n s) s+1=n:=by have b:=dor n (next n s) s;have c:=nor n s;lia
theorem qaw2(f:a<n)(c:b<n)(d:j<n)(hi:i<n)(h1:Aa n a i<=Aa n a j)(h2:Aa n a j<=Aa n b j):Aa n b i+(Aa n a j-Aa n a i)=Aa n b j:=by have g:=Dy f hi d h1;have h:=qj6 hi c;rcases Nat.lt_or_ge (Aa n b j) (Aa n b i) with e|e;{have:=Ic c d hi e;lia};have:=Dy c hi d e;lia
structure Ord(n:Nat)(hm:Int->Nat)(g:Nat->Option Int):Prop where
 home:∀k,hm k<n
 inj:∀i j k,i<n->j<n->g i=some k->g j=some k->i=j
 ord:∀i k,i<n->g i=some k->0<Aa n (hm k) i->∃x,g (prev n i)=some x/\ahead n hm (prev n i) x k
def Ie(n:Nat)(hm:Int->Nat)(g:Nat->Option Int):Prop:=∃i,i<n/\∀k,g i=some k->hm k=i
theorem Ord.path(O:Ord n hm g):∀(m j i:Nat)(z:Int),j<n->i<n->g j=some z->Aa n (hm z) i+m+1=Aa n (hm z) j->∃x,g i=some x/\ahead n hm i x z
 |0,j,i,z,hj,hi,hz,e=>by have a:0<Aa n (hm z) j:=⋯;obtain⟨x,b,c⟩:=O.ord j z hj hz a;have:=qd7 (O.home z) hj a;rw[(qk1 (O.home z) hi (qq6 hj) ⋯)];exact⟨x,b,c⟩|m+1,j,i,z,hj,hi,hz,e=>by
  have a:0<Aa n (hm z) j:=⋯;obtain⟨x,b,c⟩:=O.ord j z hj hz a;have l:=qd7 (O.home z) hj a;have d:=qq6 hj;have f:Aa n (hm z) (prev n j)<=Aa n (hm x) (prev n j):=by unfold ahead at c;lia
  have o:=qaw2 (O.home z) (O.home x) d hi ⋯ f;obtain⟨y,h,k⟩:=O.path m (prev n j) i x d hi b ⋯;refine⟨y,h,qx9 k ?_⟩;unfold ahead at *;lia
theorem Ord.path'(O:Ord n hm g)(a:j<n)(hi:i<n)(b:g j=some z)(h:Aa n (hm z) i<Aa n (hm z) j):∃x,g i=some x/\ahead n hm i x z:=O.path (Aa n (hm z) j-Aa n (hm z) i-1) j i z a hi b ⋯
def Fm(n:Nat)(hm:Int->Nat)(g:Nat->Option Int)(s:Nat):Prop:=∀j z,j<n->g j=some z->Aa n (hm z) j<=Aa n (hm z) s
theorem Ord.zero(O:Ord n hm g)(C:Ie n hm g):∃s,s<n/\Fm n hm g s:=by
 obtain⟨i,b,h⟩:=C;have l:=qq6 b;refine⟨prev n i,l,λj z c k=>zC0 λm=>?_⟩;have a:=O.home z;by_cases d:Aa n (hm z) i=0
 .have e:=(qb6 a b).mp d;have:=qj6 c a;have e2:Aa n (hm z) (prev n i)=n-1:=by
   unfold Aa prev at *
   split<;>split<;>lia
  lia
 have q:=qd7 a b ⋯;by_cases f:Aa n (hm z) i=Aa n (hm z) j;{have e:i=j:=qk1 a b c f;subst e;have:=h z k;rw[this,(qb6 b b).mpr rfl] at d;exact d rfl};obtain⟨x,o,p⟩:=O.path' c b k ⋯;have e:=h x o;have:Aa n (hm x) i=0:=(qb6 (O.home x) b).mpr e.symm;unfold ahead at p;lia
theorem qaa6{α:Type}[DecidableEq α](x:α):∀(S:List α),S.Nodup->S.length<=(S.filter (λy=>decide (y≠x))).length+1
 |[],_=>by simp|a::S,h=>by
  have b:=zC5.mp h;by_cases e:a=x
  .subst e;have:S.filter (λy=>decide (y≠a))=S:=List.filter_eq_self.mpr λy c=>by simp only[ne_eq,zBc];intro z;subst z;exact b.1 c
   rw[zCc (by simp),this];simp
  rw[L6 (by simpa using e)];have:=qaa6 x S b.2;simp only[zAq];lia
theorem qt0{α:Type}[DecidableEq α](x:α):∀(S:List α),x∈S->(S.filter (λy=>decide (y≠x))).length+1<=S.length|[],h=>by simp at h|a::S,h=>by by_cases e:a=x;{rw[zCc (by simp[e])];have:=Mq (λy=>decide (y≠x)) S;simp only[zAq];lia};rw[L6 (by simpa using e)];have:=qt0 x S (by rcases zAl.mp h with z|z;exact absurd z.symm e;exact z);simp only[zAq];lia
theorem qC5{g:Nat->Option Int}:∀(L:List Nat)(S:List Int),S.Nodup->(∀k∈S,∃i∈L,g i=some k)->S.length<=L.length
 |[],S,_,h=>by cases S with|nil=>simp|cons k _=>obtain⟨i,f,_⟩:=h k (by simp);simp at f
 |i::L,S,hn,h=>by
  cases d:g i with
  |none=>
   have:=qC5 L S hn λk a=>by obtain⟨j,c,e⟩:=h k a;rcases zAl.mp c with z|z;{rw[z,d] at e;cases e};exact⟨j,z,e⟩
   simp only[zAq];lia
  |some x=>
   have l:=qC5 L (S.filter (λy=>decide (y≠x))) (hn.filter _) λk a=>by obtain⟨a,b⟩:=zAw.mp a;obtain⟨j,c,e⟩:=h k a;rcases zAl.mp c with z|z;{rw[z,d] at e;rw[(Nv e)] at b;simp at b};exact⟨j,z,e⟩
   have m:=qaa6 x S hn;simp only[zAq];lia
theorem qY4{g:Nat->Option Int}:∀(L:List Nat)(S:List Int),L.Nodup->(∀i∈L,∃k∈S,g i=some k)->(∀i∈L,∀j∈L,∀k,g i=some k->g j=some k->i=j)->L.length<=S.length|[],S,_,_,_=>by simp|i::L,S,c,h,inj=>by obtain⟨x,f,l⟩:=h i (by simp);have c:=zC5.mp c;have p:=qY4 L (S.filter (λy=>decide (y≠x))) c.2 (λj d=>by obtain⟨k,m,e⟩:=h j (zA6 _ d);refine⟨k,zAw.mpr ⟨m,?_⟩,e⟩;simp only[ne_eq,zBc];intro z;subst z;have:=inj i (by simp) j (zA6 _ d) k l e;exact c.1 (this ▸ d)) λa n b o=>inj a (zA6 _ n) b (zA6 _ o);have q:=qt0 x S f;simp only[zAq];lia
def Holds(n:Nat)(g:Nat->Option Int)(S:List Int):Prop:=S.Nodup/\∀k,k∈S↔∃i,i<n/\g i=some k
theorem qar0(O:Ord n hm g)(O':Ord n hm g')(C':Ie n hm g')(J:Holds n g S)(w:Holds n g' S)(p:s<n)(Z:Fm n hm g s):Fm n hm g' s:=by
 obtain⟨K,F,Z'⟩:=O'.zero C';intro j z B q;refine zC0 λv=>?_;have R:∀m,(∃t,t<n/\Aa n t s<=m/\Fm n hm g' t)->∃t,t<n/\Fm n hm g' t/\∀u,u<n->Aa n u s<Aa n t s->¬Fm n hm g' u:=by intro m;induction m with|zero=>rintro⟨t,l,T,q⟩;exact⟨t,l,q,λu _ h=>absurd h ⋯⟩|succ m U=>rintro⟨t,l,T,q⟩;by_cases L:∃u,u<n/\Aa n u s<=m/\Fm n hm g' u;{exact U L};exact⟨t,l,q,λu V h W=>L ⟨u,V,⋯,W⟩⟩
 obtain⟨t,l,Zt,near⟩:=R (Aa n K s) ⟨K,F,zA2 _,Z'⟩;let d:Nat->Bool:=λr=>decide (Aa n r s<Aa n t s)
 have arcOf:∀r,d r=true↔Aa n r s<Aa n t s:=λr=>decide_eq_true_iff;have o:=O'.home z;have M:=Zt j z B q;have Dz:Aa n (hm z) s<Aa n t s:=by have G:=Ic o p l (zAh v M);have e2:=qj6 l o;lia
 have Dj:¬Aa n j s<Aa n t s:=by have G:=Ic o p l (zAh v M);have e2:=Ic o p B v;lia
 have X:z∈S.filter (λk=>d (hm k)):=zAw.mpr ⟨(w.2 z).mpr ⟨j,B,q⟩,(arcOf _).mpr Dz⟩;have p1:(S.filter (λk=>d (hm k))).length<=((Lr n).filter d).length:=by refine qC5 (g:=g) _ _ (J.1.filter _) λk H=>?_;obtain⟨H,N⟩:=zAw.mp H;obtain⟨i,c,P⟩:=(J.2 k).mp H;have N:=(arcOf _).mp N;have Y:=Z i k c P;have f:=O.home k;refine⟨i,zAw.mpr ⟨zAr.mpr c,(arcOf _).mpr ?_⟩,P⟩;have G:=Dy f c p Y;lia
 have p2:((Lr n).filter d).length<=((S.filter (λk=>d (hm k))).filter (λy=>decide (y≠z))).length:=by
  refine qY4 (g:=g') _ _ (List.nodup_range.filter _) (λi c=>?_) λa ha b hb k=>O'.inj a b k (zAr.mp (zAw.mp ha).1) (zAr.mp (zAw.mp hb).1);obtain⟨c,C⟩:=zAw.mp c;have c:=zAr.mp c;have C:=(arcOf _).mp C;have nz:=near i c C;obtain⟨k,D⟩:∃k,g' i=some k:=by cases e:g' i with|some k=>exact⟨k,rfl⟩|none=>refine absurd (λj' y I hy=>zC0 λA=>?_) nz;obtain⟨x,Q,_⟩:=O'.path' I c hy A;rw[e] at Q;cases Q
  have ki:=Zt i k c D;have f:=O'.home k;refine⟨k,zAw.mpr ⟨zAw.mpr ⟨(w.2 k).mpr ⟨i,c,D⟩,(arcOf _).mpr ?_⟩,?_⟩,D⟩;{have l1:=qj6 l f;rcases Nat.lt_or_ge (Aa n (hm k) s) (Aa n (hm k) t) with E|E;{have:=Ic f p l E;lia};have G:=Dy f l p E;have e2:=Dy f c p (zAi ki E);lia};simp only[ne_eq,zBc];intro e;subst e;have:=O'.inj i j k c B D q;subst this;exact Dj C
 have p3:=qt0 z _ X;lia
theorem qaq9(O:Ord n hm g)(O':Ord n hm g')(z:Holds n g S)(l:Holds n g' S)(t:s<n)(Z:Fm n hm g s)(Z':Fm n hm g' s)(c:j<n)(A:∀i,i<n->Aa n (next n s) i<Aa n (next n s) j->g i=g' i)(m:g j=some x):g' j=some x:=by
 have a:=qm9 t;have pos:∀{f:Nat->Option Int},Fm n hm f s->∀{i k},i<n->f i=some k->Aa n (next n s) (hm k)<=Aa n (next n s) i:=λ{f} Zf {i k} h D=>by have u:=Zf i k h D;have b:=O.home k;have P:=qbd1 t;have Q:=qj6 b a;have E:=Dy a b t ⋯;refine zC0 λF=>?_;have e2:=Ic a h b F;lia
 have o:∀{i k},i<n->Aa n (next n s) (hm k)<=Aa n (next n s) j->Aa n (next n s) j<Aa n (next n s) i->Aa n (hm k) j<Aa n (hm k) i:=λ{i k} h u G=>by have b:=O.home k;have E:=Dy a b c u;have e2:=Dy a b h (zAi u (zBa G));lia
 obtain⟨p,d,q⟩:=(l.2 x).mp ((z.2 x).mpr ⟨j,c,m⟩);have H:=pos Z c m;by_cases I:Aa n (next n s) p<Aa n (next n s) j;{have e:=A p d I;rw[q] at e;have:=O.inj p j x d c e m;subst this;exact q};by_cases J:Aa n (next n s) p=Aa n (next n s) j;{have e:=qk1 a d c J;subst e;exact q};exfalso;obtain⟨y,v,B⟩:=O'.path' d c q (o d H ⋯);obtain⟨i,h,r⟩:=(z.2 y).mp ((l.2 y).mpr ⟨j,c,v⟩);have K:=pos Z' c v;by_cases L:Aa n (next n s) i<Aa n (next n s) j;{have e:=A i h L;rw[r] at e;have:=O'.inj i j y h c e.symm v;subst this;lia};by_cases M:Aa n (next n s) i=Aa n (next n s) j;{have e:=qk1 a h c M;subst e;rw[m] at r;cases r;exact qax6 B};obtain⟨w,C,N⟩:=O.path' h c r (o h K ⋯);rw[m] at C;cases C;exact qR2 B N
theorem qaG0(O:Ord n hm g)(O':Ord n hm g')(C:Ie n hm g)(C':Ie n hm g')(d:Holds n g S)(a:Holds n g' S):∀j,j<n->g j=g' j:=by
 obtain⟨s,f,Z⟩:=O.zero C;have Z':=qar0 O O' C' d a f Z;have main:∀m j,j<n->Aa n (next n s) j<m->g j=g' j:=by intro m;induction m with|zero=>intro j _ h;exact absurd h ⋯|succ m l=>intro j c p;have b:∀i,i<n->Aa n (next n s) i<Aa n (next n s) j->g i=g' i:=λi k h=>l i k ⋯;cases e:g j with|some x=>exact(qaq9 O O' d a f Z Z' c b e).symm|none=>cases o:g' j with|none=>rfl|some y=>have:=qaq9 O' O a d f Z' Z c (λi k h=>(b i k h).symm) o;rw[e] at this;cases this
 exact λj c=>main _ j c (Nat.lt_succ_self _)
noncomputable def set(g:Nat->Option Int)(r:Nat)(c:Int):Nat->Option Int:=λj=>if j=r then some c else g j
theorem qb7:set g r c r=some c:=by unfold set;rw[if_pos rfl]
theorem qd4(h:j≠r):set g r c j=g j:=by unfold set;rw[if_neg h]
structure Walk(n:Nat)(wr:Bool)(hm:Int->Nat)(T:List Int)(k:Int)(e:Nat)(g:Nat->Option Int)(c:Int)(r:Nat):Prop where
 o:Ord n hm g
 nin:∀i,i<n->g i≠some c
 hr:r<n
 pth:∀j,j<n->Aa n (hm c) j<Aa n (hm c) r->∃x,g j=some x/\ahead n hm j x c
 he:e<n
 ge:g e=none
 lim:Aa n (hm k) r<=Aa n (hm k) e
 all:∀x,x∈T↔(x=c∨∃i,i<n/\g i=some x)
 ln:wr=false->hm k<=e/\hm c<=r/\∀i x,i<n->g i=some x->hm x<=i
section
variable{n:Nat}{wr:Bool}{hm:Int->Nat}{T:List Int}{k:Int}{e:Nat}{g:Nat->Option Int}{c:Int}{r:Nat}
theorem Walk.lt(W:Walk n wr hm T k e g c r)(a:g r=some y):Aa n (hm k) r<Aa n (hm k) e:=by
 have b:=W.lim;have:r≠e:=λz=>by have:=W.ge;rw[<-z,a] at this;cases this
 have d:Aa n (hm k) r≠Aa n (hm k) e:=λz=>this (qk1 (W.o.home k) W.hr W.he z);lia
theorem Walk.nx(W:Walk n wr hm T k e g c r)(a:g r=some y):Aa n (hm k) (next n r)=Aa n (hm k) r+1:=by have b:=W.lt a;have d:=qj6 W.he (W.o.home k);exact qm5 (W.o.home k) W.hr ⋯
theorem way(a:hm x<n)(c:j<n)(b:e<n)(d:g e=none)(f:∀i,i<n->Aa n (hm x) i<=Aa n (hm x) j->∃y,g i=some y):Aa n (hm x) j+1<n:=by have k:=qj6 c a;have l:=qj6 b a;by_cases h:Aa n (hm x) e<=Aa n (hm x) j;{obtain⟨y,q⟩:=f e b h;rw[d] at q;cases q};lia
theorem Walk.on(W:Walk n wr hm T k e g c r)(a:g r=some y)(h:¬ahead n hm r c y):Walk n wr hm T k e g c (next n r):=by
 have v:=W.nx a;have A:=W.lt a;have b:=W.o.home c;have l:c≠y:=λz=>W.nin r W.hr (by rw[z];exact a);have w:Aa n (hm c) r+1<n:=way (g:=g) b W.hr W.he W.ge λi d m=>by by_cases q:Aa n (hm c) i=Aa n (hm c) r;{rw[qk1 b d W.hr q];exact⟨y,a⟩};obtain⟨x,p,_⟩:=W.pth i d ⋯;exact⟨x,p⟩
 have B:=qm5 b W.hr w;refine⟨W.o,W.nin,qm9 W.hr,λj f m=>?_,W.he,W.ge,⋯,W.all,λs=>?_⟩;{by_cases q:Aa n (hm c) j=Aa n (hm c) r;{rw[qk1 b f W.hr q];exact⟨y,a,qax5 l h⟩};exact W.pth j f ⋯};obtain⟨t,C,u⟩:=W.ln s;refine⟨t,?_,u⟩;have D:=dor n (hm k) r;have E:=dor n (hm k) e;have F:=nor n r;have:=W.hr;have:=W.he;have:=W.o.home k;lia
theorem Walk.swap(W:Walk n wr hm T k e g c r)(l:g r=some y)(h:ahead n hm r c y):Walk n wr hm T k e (set g r c) y (next n r):=by
 have J:=W.nx l;have K:=W.lt l;have D:=W.o.home c;have m:=W.o.home y;have E:c≠y:=λz=>W.nin r W.hr (by rw[z];exact l);have F:e≠r:=λz=>by have:=W.ge;rw[z,l] at this;cases this
 have w:=way (g:=g) m W.hr W.he W.ge λi f u=>by by_cases q:Aa n (hm y) i=Aa n (hm y) r;{rw[qk1 m f W.hr q];exact⟨y,l⟩};obtain⟨x,s,_⟩:=W.o.path' W.hr f l ⋯;exact⟨x,s⟩
 have L:=qm5 m W.hr w;refine⟨⟨W.o.home,λi j x f t a p=>?_,λi x f a u=>?_⟩,λi f a=>?_,qm9 W.hr,λj t u=>?_,W.he,by rw[qd4 F];exact W.ge,⋯,λx=>?_,λG=>?_⟩;{by_cases b:i=r;{by_cases e2:j=r;{rw[b,e2]};rw[b,qb7] at a;rw[qd4 e2] at p;cases a;exact absurd p (W.nin j t)};rw[qd4 b] at a;by_cases e2:j=r;{rw[e2,qb7] at p;cases p;exact absurd a (W.nin i f)};rw[qd4 e2] at p;exact W.o.inj i j x f t a p}
 .have H:=qq6 f;by_cases b:i=r
  .subst b;rw[qb7] at a;cases a;have d:=qd7 D f u;obtain⟨x,s,A⟩:=W.pth (prev n i) H ⋯;have:prev n i≠i:=λz=>by rw[z] at d;lia
   exact⟨x,by rw[qd4 this];exact s,A⟩
  rw[qd4 b] at a;obtain⟨z,v,B⟩:=W.o.ord i x f a u;by_cases e2:prev n i=r;{rw[e2] at v B ⊢;rw[l] at v;cases v;exact⟨c,qb7,qx9 h B⟩};exact⟨z,by rw[qd4 e2];exact v,B⟩
 {by_cases b:i=r;{rw[b,qb7] at a;exact E (Nv a)};rw[qd4 b] at a;exact b (W.o.inj i r y f W.hr a l)};{by_cases q:Aa n (hm y) j=Aa n (hm y) r;{rw[qk1 m t W.hr q];exact⟨c,qb7,h⟩};obtain⟨x,s,A⟩:=W.o.path' W.hr t l ⋯;have:j≠r:=λz=>q (by rw[z]);exact⟨x,by rw[qd4 this];exact s,A⟩};{rw[W.all x];constructor;{rintro (z|⟨i,f,a⟩);{exact .inr ⟨r,W.hr,by rw[z];exact qb7⟩};by_cases b:i=r;{rw[b,l] at a;exact .inl (Nv a).symm};exact .inr ⟨i,f,by rw[qd4 b];exact a⟩};rintro (z|⟨i,f,a⟩);{exact .inr ⟨r,W.hr,by rw[z];exact l⟩};by_cases b:i=r;{rw[b,qb7] at a;exact .inl (Nv a).symm};rw[qd4 b] at a;exact .inr ⟨i,f,a⟩};obtain⟨I,M,C⟩:=W.ln G;have N:=C r y W.hr l;refine⟨I,?_,λi x f a=>?_⟩;{have O:=dor n (hm k) r;have P:=dor n (hm k) e;have Q:=nor n r;have:=W.hr;have:=W.he;have:=W.o.home k;lia};by_cases b:i=r;{rw[b,qb7] at a;cases a;lia};rw[qd4 b] at a;exact C i x f a
structure Kept(n:Nat)(wr:Bool)(hm:Int->Nat)(g:Nat->Option Int)(S:List Int):Prop where
 o:Ord n hm g
 c:Ie n hm g
 h:Holds n g S
 ln:wr=false->∀i x,i<n->g i=some x->hm x<=i
theorem Walk.done(W:Walk n wr hm T k e g c r)(v:T.Nodup)(q:g r=none):Kept n wr hm (set g r c) T:=by
 have w:=W.o.home c;have h:=qm9 W.hr;refine⟨⟨W.o.home,λi j x f t a l=>?_,λi x f a p=>?_⟩,⟨next n r,h,λx u=>?_⟩,⟨v,λx=>?_⟩,λy=>?_⟩;{by_cases b:i=r;{by_cases e2:j=r;{rw[b,e2]};rw[b,qb7] at a;rw[qd4 e2] at l;cases a;exact absurd l (W.nin j t)};rw[qd4 b] at a;by_cases e2:j=r;{rw[e2,qb7] at l;cases l;exact absurd a (W.nin i f)};rw[qd4 e2] at l;exact W.o.inj i j x f t a l}
 .have A:=qq6 f;by_cases b:i=r
  .subst b;rw[qb7] at a;cases a;have d:=qd7 w f p;obtain⟨x,s,B⟩:=W.pth (prev n i) A ⋯;have:prev n i≠i:=λz=>by rw[z] at d;lia
   exact⟨x,by rw[qd4 this];exact s,B⟩
  rw[qd4 b] at a;obtain⟨z,m,C⟩:=W.o.ord i x f a p;by_cases e2:prev n i=r;{rw[e2,q] at m;cases m};exact⟨z,by rw[qd4 e2];exact m,C⟩
 .have s:=W.o.home x;by_cases b:next n r=r
  {have:=nor n r;have:=W.hr;lia};rw[qd4 b] at u;by_cases p:0<Aa n (hm x) (next n r);{obtain⟨z,m,_⟩:=W.o.ord _ x h u p;rw[ql9 W.hr,q] at m;cases m};exact((qb6 s h).mp ⋯).symm
 {rw[W.all x];constructor;{rintro (z|⟨i,f,a⟩);{exact⟨r,W.hr,by rw[z];exact qb7⟩};exact⟨i,f,by rw[qd4 (λz=>by rw[z,q] at a;cases a)];exact a⟩};rintro⟨i,f,a⟩;by_cases b:i=r;{rw[b,qb7] at a;exact .inl (Nv a).symm};rw[qd4 b] at a;exact .inr ⟨i,f,a⟩};obtain⟨E,F,D⟩:=W.ln y;intro i x f a;by_cases b:i=r;{rw[b,qb7] at a;cases a;lia};rw[qd4 b] at a;exact D i x f a
def Gz(n:Nat)(wr:Bool)(hm:Int->Nat)(g:Nat->Option Int)(k:Int)(e:Nat):Prop:=e<n/\g e=none/\(wr=false->hm k<=e)
theorem Kept.start(K:Kept n wr hm g S)(c:¬k∈S)(F:Gz n wr hm g k e):Walk n wr hm (S++[k]) k e g k (hm k):=by have a:=K.o.home k;have z:=(qb6 a a).mpr rfl;refine⟨K.o,λi d f=>c ((K.h.2 k).mpr ⟨i,d,f⟩),a,λj _ l=>⋯,F.1,F.2.1,⋯,λx=>?_,λb=>⟨F.2.2 b,zA2 _,K.ln b⟩⟩;rw[zAb,zAf,K.h.2 x];exact⟨Or.symm,Or.symm⟩
def Crowd(n:Nat)(wr:Bool)(hm:Int->Nat)(T:List Int)(q:Nat):Prop:=q<n/\if wr=true then q=0/\n<T.length else n-q<(T.filter (λk=>decide (q<=hm k))).length
theorem qS0(h:i∈(Lr (n-q)).map (q + ·)):q<=i/\i<n:=by obtain⟨j,a,rfl⟩:=zAx.mp h;have:=zAr.mp a;lia
theorem qaH6(h:q<=i)(h':i<n):i∈(Lr (n-q)).map (q + ·):=zAx.mpr ⟨i-q,zAr.mpr ⋯,⋯⟩
theorem qah1:((Lr m).map (q + ·)).Nodup:=by rw[List.nodup_iff_pairwise_ne,zBx];exact(List.nodup_iff_pairwise_ne.mp Ma).imp λh=>⋯
theorem Kept.no_crowd(K:Kept n wr hm g S)(q:Nat):¬Crowd n wr hm S q:=by
 rintro⟨d,h⟩;cases wr with
 |true=>
  rw[if_pos rfl] at h;have:=qC5 (g:=g) (Lr n) S K.h.1 λk a=>by obtain⟨i,b,c⟩:=(K.h.2 k).mp a;exact⟨i,zAr.mpr b,c⟩
  rw[zB9] at this;lia
 |false=>
  rw[if_neg ∅] at h;have:=qC5 (g:=g) ((Lr (n-q)).map (q + ·)) (S.filter (λk=>decide (q<=hm k))) (K.h.1.filter _) λk a=>by obtain⟨a,d⟩:=zAw.mp a;obtain⟨i,b,c⟩:=(K.h.2 k).mp a;have:=K.ln rfl i k b c;have d:=zA8 d;exact⟨i,qaH6 ⋯ b,c⟩
  rw[zAa,zB9] at this;lia
theorem Kept.crowd(K:Kept n wr hm g S)(u:∀e,¬Gz n wr hm g k e):∃q,Crowd n wr hm (S++[k]) q:=by
 have v:=K.o.home k;have full:∀e,e<n->(wr=false->hm k<=e)->∃x,g e=some x:=λe f s=>by cases h:g e with|some x=>exact⟨x,rfl⟩|none=>exact absurd ⟨f,h,s⟩ (u e)
 cases wr with
 |true=>refine⟨0,⋯,?_⟩;rw[if_pos rfl];refine⟨rfl,?_⟩;have:=qY4 (g:=g) (Lr n) S Ma (λi b=>by obtain⟨x,c⟩:=full i (zAr.mp b) (λz=>by cases z);exact⟨x,(K.h.2 x).mpr ⟨i,zAr.mp b,c⟩,c⟩) λi b j p x=>K.o.inj i j x (zAr.mp b) (zAr.mp p);rw[zB9] at this;rw[zAd];simp only[zAq,Mf];lia|false=>
  have w:∀m,m<=hm k->(∀e,m<=e->e<n->∃x,g e=some x)->∃q,q<=hm k/\(∀e,q<=e->e<n->∃x,g e=some x)/\(q=0∨g (q-1)=none):=by intro m;induction m with|zero=>exact λd a=>⟨0,d,a,.inl rfl⟩|succ m A=>intro d a;cases h:g m with|none=>exact⟨m+1,d,a,.inr h⟩|some x=>refine A ⋯ λe f r=>?_;by_cases q:e=m;{rw[q];exact⟨x,h⟩};exact a e ⋯ r
  obtain⟨q,B,C,l⟩:=w (hm k) (zA2 _) λe f r=>full e r λ_=>f;refine⟨q,⋯,?_⟩;rw[if_neg ∅];have:=qY4 (g:=g) ((Lr (n-q)).map (q + ·)) (S.filter (λk=>decide (q<=hm k))) qah1 (λi b=>by obtain⟨d,a⟩:=qS0 b;obtain⟨x,c⟩:=C i d a;refine⟨x,zAw.mpr ⟨(K.h.2 x).mpr ⟨i,a,c⟩,zAj ?_⟩,c⟩;have D:=K.o.home x;have s:=K.ln rfl i x a c;refine zC0 λE=>?_;rcases l with l|l;{lia};obtain⟨y,t,_⟩:=K.o.path' (i:=q-1) a ⋯ c (by have G:=dor n (hm x) (q-1);have H:=dor n (hm x) i;lia);rw[l] at t;cases t) λi b j p x=>K.o.inj i j x (qS0 b).2 (qS0 p).2;rw[zAa,zB9] at this;have F:([k].filter (λk=>decide (q<=hm k))).length=1:=by simp[B]
  rw[List.filter_append,zAd,F];lia
theorem Crowd.mono{T:List Int}(h:Crowd n wr hm S q)(a:S.Sublist T):Crowd n wr hm T q:=by obtain⟨b,h⟩:=h;refine⟨b,?_⟩;cases wr with|true=>rw[if_pos rfl] at h ⊢;have:=a.length_le;exact⟨h.1,⋯⟩|false=>rw[if_neg ∅] at h ⊢;have:=(a.filter (λk=>decide (q<=hm k))).length_le;lia
theorem Crowd.perm{T:List Int}(h:Crowd n wr hm S q)(a:S.Perm T):Crowd n wr hm T q:=by obtain⟨b,h⟩:=h;refine⟨b,?_⟩;rw[<-a.length_eq,<-(a.filter _).length_eq];exact h
theorem Kept.none(a:0<n)(b:∀k,hm k<n):Kept n wr hm (λ_=>none) []:=⟨⟨b,(λ_ _ _ _ _ h=>by cases h),λ_ _ _ h=>by cases h⟩,⟨0,a,λ_ h=>by cases h⟩,⟨Mr,λk=>⟨λh=>by simp at h,λ⟨_,_,h⟩=>by cases h⟩⟩,λ_ _ _ _ h=>by cases h⟩
theorem Kept.same(K:Kept n wr hm g S)(K':Kept n wr hm g' S')(a:∀k,k∈S↔k∈S'):∀j,j<n->g j=g' j:=qaG0 K.o K'.o K.c K'.c K.h ⟨K.h.1,λk=>(a k).trans (K'.h.2 k)⟩
end
noncomputable def rot(n s t:Nat):Nat:=if s+t<n then s+t else s+t-n
theorem qU7(a:s<n)(b:t<n):rot n s t<n:=by unfold rot;split<;>lia
theorem qt1(a:s<n)(b:t<n):Aa n s (rot n s t)=t:=by have d:=dor n s (rot n s t);unfold rot at d ⊢;split at d<;>split<;>lia
theorem qs1(a:s<n)(hi:i<n):rot n s (Aa n s i)=i:=by have d:=dor n s i;unfold rot;split<;>lia
theorem qay4(a:s<n)(b:t<n):(s+t)%n=rot n s t:=by unfold rot;split;{exact zCe (by assumption)};rw[Nat.mod_eq_sub_mod ⋯];exact zCe ⋯
def At(n:Nat)(g:Nat->Option Int)(r J:Nat):Nat->Option Int:=λi=>if Aa n r i<J then g (next n i) else if Aa n r i=J then none else g i
structure Sh(n:Nat)(hm:Int->Nat)(g:Nat->Option Int)(r J:Nat):Prop where
 hJ:J<n
 mv:∀t,1<=t->t<=J->∃x,g (rot n r t)=some x/\0<Aa n (hm x) (rot n r t)
section
variable{n:Nat}{wr:Bool}{hm:Int->Nat}{g:Nat->Option Int}{r J:Nat}{k:Int}{S:List Int}
theorem qaj2(a:r<n):rot n r 0=r:=by unfold rot;rw[if_pos ⋯];rfl
theorem qD3(a:r<n)(b:t+1<n):next n (rot n r t)=rot n r (t+1):=by
 unfold rot next
 split<;>split<;>split<;>lia
theorem qy2(a:r<n)(b:J+1=n):next n (rot n r J)=r:=by
 unfold rot next
 split<;>split<;>lia
theorem Sh.start(a:r<n):Sh n hm g r 0:=⟨⋯,λt b c=>⋯⟩
theorem Sh.step(h:Sh n hm g r J)(a:J+1<n)(b:g (rot n r (J+1))=some x)(c:0<Aa n (hm x) (rot n r (J+1))):Sh n hm g r (J+1):=⟨a,λt d f=>by
 by_cases e:t=J+1
 . subst e;exact⟨x,b,c⟩
 exact h.mv t d ⋯⟩
theorem qA5(a:r<n)(hi:i<n):At n g r 0 i=if i=r then none else g i:=by unfold At;rw[if_neg ⋯];by_cases e:i=r;{rw[if_pos e,if_pos ((qb6 a hi).mpr e)]};rw[if_neg e,if_neg λz=>e ((qb6 a hi).mp z)]
theorem qO0(a:r<n)(b:J<n):At n g r J (rot n r J)=none:=by unfold At;rw[qt1 a b,if_neg ⋯,if_pos rfl]
theorem qA6(a:r<n)(b:J+1<n):At n g r J (rot n r (J+1))=g (rot n r (J+1)):=by unfold At;rw[qt1 a b,if_neg ⋯,if_neg ⋯]
theorem qG8(a:r<n)(b:0<J):At n g r J r=g (next n r):=by unfold At;rw[(qb6 a a).mpr rfl,if_pos b]
theorem qai0(a:r<n)(d:J+1<n)(hi:i<n):At n g r (J+1) i=if i=rot n r (J+1) then none else if i=rot n r J then g (rot n r (J+1)) else At n g r J i:=by have j:=qt1 a d;have e2:=qt1 a (show J<n by lia);by_cases b:i=rot n r (J+1);{rw[if_pos b,b];exact qO0 a d};rw[if_neg b];have f:Aa n r i≠J+1:=λz=>b (by rw[<-z,qs1 a hi]);by_cases c:i=rot n r J;{rw[if_pos c,c];unfold At;rw[e2,if_pos ⋯,qD3 a d]};rw[if_neg c];have h:Aa n r i≠J:=λz=>c (by rw[<-z,qs1 a hi]);unfold At;by_cases e:Aa n r i<J;{rw[if_pos e,if_pos ⋯]};rw[if_neg e,if_neg ⋯,if_neg f,if_neg h]
theorem Sh.round(h:Sh n hm g r J)(O:Ord n hm g)(C:Ie n hm g)(d:r<n)(j:g r=some k)(u:J+1=n)(l:g (next n r)=some x)(v:0<J):Aa n (hm x) r=0:=by
 obtain⟨i,a,m⟩:=C;have f:i=r:=by by_cases e:i=r;{exact e};have w:=qj6 a d;have A:Aa n r i≠0:=λz=>e ((qb6 d a).mp z);obtain⟨y,b,c⟩:=h.mv (Aa n r i) ⋯ ⋯;rw[qs1 d a] at b c;have:=(qb6 (O.home y) a).mpr (m y b).symm;lia
 subst f;have s:=(qb6 (O.home k) a).mpr (m k j).symm;have o:next n i=rot n i 1:=by have:=qD3 (t:=0) a ⋯;rwa[qaj2 a] at this
 obtain⟨y,b,c⟩:=h.mv 1 (zA2 _) ⋯;rw[<-o,l] at b;cases b;rw[<-o] at c;obtain⟨z,p,q⟩:=O.ord (next n i) x (qm9 a) l c;rw[ql9 a,j] at p;cases p;rw[ql9 a] at q;unfold ahead at q;lia
def Stop(n:Nat)(wr:Bool)(hm:Int->Nat)(g:Nat->Option Int)(r J:Nat):Prop:=(wr=false/\rot n r J+1=n)∨∀x,At n g r J (next n (rot n r J))=some x->Aa n (hm x) (next n (rot n r J))=0
theorem Kept.taken(K:Kept n wr hm g S)(m:r<n)(E:g r=some k)(h:Sh n hm g r J)(st:Stop n wr hm g r J):Kept n wr hm (At n g r J) (S.filter λx=>decide (x≠k)):=by
 have N:=h.hJ;have O:=K.o;have F:∀i x,i<n->Aa n r i<J->g (next n i)=some x->Aa n r (next n i)=Aa n r i+1/\0<Aa n (hm x) (next n i)/\Aa n (hm x) i+1=Aa n (hm x) (next n i):=λi x f H l=>by have e:=qm5 m f ⋯;obtain⟨y,u,C⟩:=h.mv (Aa n r i+1) ⋯ ⋯;rw[<-e,qs1 m (qm9 f)] at u C;rw[l] at u;cases u;have:=qd7 (O.home x) (qm9 f) C;rw[ql9 f] at this;exact⟨e,C,⋯⟩
 have w:∀i x,i<n->At n g r J i=some x->(Aa n r i<J/\g (next n i)=some x)∨(J<Aa n r i/\g i=some x):=λi x f l=>by unfold At at l;split at l;{exact .inl ⟨by assumption,l⟩};split at l;{cases l};exact .inr ⟨⋯,l⟩
 have A:∀i x,i<n->At n g r J i=some x->∃j,j<n/\g j=some x/\j≠r/\(j=next n i/\Aa n r i<J∨j=i/\J<Aa n r i):=λi x f l=>by rcases w i x f l with⟨s,q⟩|⟨s,q⟩;{refine⟨next n i,qm9 f,q,λz=>?_,.inl ⟨rfl,s⟩⟩;have e:=qm5 m f ⋯;rw[z,(qb6 m m).mpr rfl] at e;lia};refine⟨i,f,q,λz=>?_,.inr ⟨rfl,s⟩⟩;rw[z,(qb6 m m).mpr rfl] at s;lia
 refine⟨⟨O.home,λi j x f t s q=>?_,λi x f l H=>?_⟩,?_,⟨K.h.1.filter _,λx=>?_⟩,λI i x f l=>?_⟩;{obtain⟨a,v,U,na,V⟩:=A i x f s;obtain⟨b,L,W,nb,X⟩:=A j x t q;have:=O.inj a b x v L U W;subst this;rcases V with⟨D,P⟩|⟨D,P⟩<;>rcases X with⟨e2,Q⟩|⟨e2,Q⟩;{have:=congrArg (prev n) (D.symm.trans e2);rwa[ql9 f,ql9 t] at this};{have e:=qm5 m f ⋯;rw[<-D,e2] at e;lia};{have e:=qm5 m t ⋯;rw[<-e2,D] at e;lia};rw[<-D,<-e2]}
 .rcases w i x f l with⟨s,q⟩|⟨s,q⟩
  .obtain⟨e,C,Y⟩:=F i x f s q;obtain⟨y,u,v⟩:=O.ord (next n i) x (qm9 f) q C;rw[ql9 f] at u v;have G:0<Aa n (hm y) i:=by unfold ahead at v;lia
   have D:=qd7 (O.home x) f H;have e2:=qd7 (O.home y) f G;have Z:=qq6 f;by_cases e0:Aa n r i=0
   .have:=(qb6 m f).mp e0;subst this;have hlast:Aa n i (prev n i)=n-1:=by have d:=dor n i (prev n i);have p:=por n i;lia
    by_cases M:J+1=n;{have:=h.round O K.c f E M q ⋯;lia};rw[E] at u;cases u;obtain⟨z,hz,L⟩:=O.ord i k f E G;refine⟨z,?_,?_⟩;{unfold At;rw[hlast,if_neg ⋯,if_neg ⋯];exact hz};refine qx9 L ?_;unfold ahead at v ⊢;lia
   have R:=qd7 m f ⋯;refine⟨y,?_,?_⟩;{unfold At;rw[R,if_pos ⋯,qL3 f];exact u};unfold ahead at v ⊢;lia
  obtain⟨y,u,v⟩:=O.ord i x f q H;refine⟨y,?_,v⟩;have R:=qd7 m f ⋯;by_cases T:Aa n r (prev n i)=J
  .exfalso;have ei:prev n i=rot n r J:=by rw[<-T,qs1 m (qq6 f)]
   have en:next n (rot n r J)=i:=by rw[<-ei,qL3 f]
   rcases st with⟨I,hl⟩|st
   .have:i=0:=by have p:=nor n (rot n r J);lia
    subst this;have:=K.ln I 0 x f q;have d:=dor n (hm x) 0;lia
   rw[en] at st;have:=st x l;lia
  unfold At;rw[if_neg ⋯,if_neg T];exact u
 {exact⟨rot n r J,qU7 m N,λx l=>by rw[qO0 m N] at l;cases l⟩};{rw[zAw,K.h.2 x,zBc];constructor;{rintro⟨⟨j,t,B⟩,ne⟩;have jr:j≠r:=λz=>ne (by rw[z,E] at B;exact(Nv B).symm);have d0:Aa n r j≠0:=λz=>jr ((qb6 m t).mp z);by_cases H:Aa n r j<=J;{have e:=qd7 m t ⋯;refine⟨prev n j,qq6 t,?_⟩;unfold At;rw[e,if_pos ⋯,qL3 t];exact B};refine⟨j,t,?_⟩;unfold At;rw[if_neg ⋯,if_neg ⋯];exact B};rintro⟨i,f,l⟩;obtain⟨j,t,B,nj,_⟩:=A i x f l;refine⟨⟨j,t,B⟩,λz=>?_⟩;subst z;exact nj (O.inj j r x t m B E)};rcases w i x f l with⟨s,q⟩|⟨s,q⟩;{obtain⟨e,C,Y⟩:=F i x f s q;have:=K.ln I (next n i) x (qm9 f) q;have nn:=nor n i;have P:=dor n (hm x) (next n i);have Q:=dor n (hm x) i;lia};exact K.ln I i x f q
end
def Jl(hm:Int->Nat)(x y:Int):Prop:=hm x<hm y∨(hm x=hm y/\x<y)
structure Fill(n:Nat)(hm:Int->Nat)(g:Nat->Option Int)(S:List Int)(top:Nat):Prop where
 k:Kept n false hm g S
 free:∀i,top<=i->i<n->g i=none
 last:0<top->∃x,g (top-1)=some x/\x∈S
 le:top<=n
theorem Fill.start(a:0<n)(b:∀k,hm k<n):Fill n hm (λ_=>none) [] 0:=⟨Kept.none a b,λ_ _ _=>rfl,λh=>absurd h ⋯,⋯⟩
section
variable{n:Nat}{hm:Int->Nat}{g:Nat->Option Int}{S:List Int}{top:Nat}{k:Int}
theorem Fill.put(F:Fill n hm g S top)(l:¬k∈S)(C:∀x∈S,Jl hm x k)(m:max top (hm k)<n):Fill n hm (set g (max top (hm k)) k) (S++[k]) (max top (hm k)+1):=by
 generalize J:max top (hm k)=r at m ⊢;have p:top<=r:=⋯;have q:hm k<=r:=⋯;have D:g r=none:=F.free r p m;have below:∀i x,i<n->g i=some x->i<top:=λi x b a=>by by_cases h:top<=i;{rw[F.free i h b] at a;cases a};lia
 have s:∀i x,i<n->set g r k i=some x->hm x<=i:=λi x b a=>by by_cases e:i=r;{subst e;rw[qb7] at a;cases a;exact q};rw[qd4 e] at a;exact F.k.ln rfl i x b a
 have mem:∀i x,i<n->g i=some x->x∈S:=λi x b a=>(F.k.h.2 x).mpr ⟨i,b,a⟩;refine⟨⟨⟨F.k.o.home,λi j x b z a d=>?_,λi x b a t=>?_⟩,⟨0,⋯,λx E=>?_⟩,⟨?_,λx=>⟨λc=>?_,λ⟨i,b,a⟩=>?_⟩⟩,λ_ i x b a=>s i x b a⟩,λi b G=>?_,λ_=>⟨k,by rw[Nat.add_sub_cancel,qb7],zAv _ (zAf.mpr rfl)⟩,⋯⟩;{by_cases u:i=r;{by_cases e2:j=r;{rw[u,e2]};subst u;rw[qb7] at a;cases a;rw[qd4 e2] at d;exact absurd (mem j _ z d) l};rw[qd4 u] at a;by_cases e2:j=r;{subst e2;rw[qb7] at d;cases d;exact absurd (mem i _ b a) l};rw[qd4 e2] at d;exact F.k.o.inj i j x b z a d}
 .have c:=s i x b a;have K:i≠0:=λe=>by have:=(qb6 (F.k.o.home x) b).mpr ⋯;lia
  have A:prev n i=i-1:=by rcases por n i with h|h<;>lia
  by_cases e:i=r
  .subst e;rw[qb7] at a;cases a;have H:hm k<i:=by unfold Aa at t;split at t<;>lia
   have B:top=i:=⋯;obtain⟨y,f,v⟩:=F.last ⋯;have w:hm y<=i-1:=F.k.ln rfl (i-1) y ⋯ (by rw[<-B];exact f);refine⟨y,by rw[A,qd4 ⋯,<-B];exact f,?_⟩;rw[A];unfold ahead Aa;rw[if_pos ⋯,if_pos w];rcases C y v with h|h;{exact .inl ⋯};exact .inr ⟨⋯,h.2⟩
  rw[qd4 e] at a;have L:=below i x b a;obtain⟨y,f,I⟩:=F.k.o.ord i x b a t;exact⟨y,by rw[qd4 ⋯];exact f,I⟩
 {have:=s 0 x ⋯ E;lia};{refine zBq.mpr ⟨F.k.h.1,(by simp),λx c y v e=>?_⟩;rw[zAf.mp v] at e;exact l (e ▸ c)};{rcases zAb.mp c with c|c;{obtain⟨i,b,a⟩:=(F.k.h.2 x).mp c;exact⟨i,b,by rw[qd4 λe=>by rw[e,D] at a;cases a];exact a⟩};rw[zAf.mp c];exact⟨r,m,qb7⟩};{by_cases e:i=r;{subst e;rw[qb7] at a;cases a;exact zAv _ (zAf.mpr rfl)};rw[qd4 e] at a;exact Mc _ (mem i x b a)};rw[qd4 ⋯];exact F.free i ⋯ G
theorem Fill.room(F:Fill n hm g S top)(i:∀x∈S,Jl hm x k)(j:∀q,¬Crowd n false hm (S++[k]) q):max top (hm k)<n:=by
 have u:=F.k.o.home k;have l:=F.le;by_cases h:top<n;{lia};have v:top=n:=⋯;obtain⟨q,c⟩:=F.k.crowd (k:=k) λe ⟨m,b,a⟩=>by
  have a:=a rfl;obtain⟨y,d,p⟩:=F.last ⋯;have f:=F.k.ln rfl (top-1) y ⋯ d;have r:hm y<=hm k:=by rcases i y p with h|h<;>lia
  by_cases s:e=top-1;{rw[s,d] at b;cases b};obtain⟨x,t,_⟩:=F.k.o.path' ⋯ m d (show Aa n (hm y) e<Aa n (hm y) (top-1) by unfold Aa;rw[if_pos ⋯,if_pos f];lia);rw[t] at b;cases b
 exact absurd c (j q)
end
noncomputable def Fn(hm:Int->Nat)(T:List Int)(r:Nat):Nat:=(T.filter λk=>decide (hm k=r)).length
noncomputable def E4(hm:Int->Nat)(T:List Int)(q r:Nat):Nat:=(T.filter λk=>decide (q<=hm k/\hm k<r)).length
theorem qab8{hm:Int->Nat}{q r:Nat}(h:q<=r):∀T:List Int,E4 hm T q (r+1)=E4 hm T q r+Fn hm T r|[]=>rfl|k::T=>by have a:=qab8 (hm:=hm) h T;unfold E4 Fn at a ⊢;simp only[List.filter_cons,zBc];split<;>split<;>split<;>(try simp only[zAq])<;>lia
theorem qaw8(T:List Int):E4 hm T r r=0:=by unfold E4;rw[List.length_eq_zero_iff,List.filter_eq_nil_iff];intro k _ h;have:=zA8 h;lia
section
variable{n:Nat}{hm:Int->Nat}{g:Nat->Option Int}{S:List Int}{k:Int}
theorem Kept.len(KP:Kept n wr hm g S):S.length<=n:=by
 have:=qC5 (Lr n) S KP.h.1 λk a=>by obtain⟨i,b,e⟩:=(KP.h.2 k).mp a;exact⟨i,zAr.mpr b,e⟩
 rwa[zB9] at this
end
noncomputable def onC(c:Nat->Nat):Nat->Int|0=>0|r+1=>if onC c r+(c r:Int)-1>0 then onC c r+(c r:Int)-1 else 0
noncomputable def sumC(c:Nat->Nat)(q:Nat):Nat->Nat|0=>0|m+1=>sumC c q m+c (q+m)
section
variable{c:Nat->Nat}
theorem qO6:∀r:Nat,0<=onC c r|0=>Int.le_refl _|r+1=>by unfold onC;split<;>lia
theorem qaG2{q:Nat}:∀m:Nat,(sumC c q m:Int)-(m:Int)<=onC c (q+m)|0=>by have:=qO6 (c:=c) q;show ((0:Nat):Int)-_<=_;rw[Nat.add_zero];lia|m+1=>by have:=qaG2 (q:=q) m;show ((sumC c q m+c (q+m):Nat):Int)-_<=onC c (q+m+1);unfold onC;split<;>lia
theorem qaG3:∀r:Nat,onC c r=0∨∃q m,q+m=r/\0<m/\onC c r=(sumC c q m:Int)-(m:Int)|0=>.inl rfl|r+1=>by by_cases h:onC c r+(c r:Int)-1>0;{right;have e:onC c (r+1)=onC c r+(c r:Int)-1:=if_pos h;rcases qaG3 r with b|⟨q,m,a,d,f⟩;{exact⟨r,1,rfl,⋯,by rw[e];show _=((0+c (r+0):Nat):Int)-_;rw[Nat.add_zero];lia⟩};exact⟨q,m+1,⋯,⋯,by rw[e];show _=((sumC c q m+c (q+m):Nat):Int)-_;rw[a];lia⟩};exact .inl (if_neg h)
theorem qah2{q m:Nat}:∀l:Nat,sumC c q (m+l)=sumC c q m+sumC c (q+m) l|0=>rfl|l+1=>by show sumC c q (m+l)+c (q+(m+l))=sumC c q m+(sumC c (q+m) l+c (q+m+l));rw[qah2 l,show q+(m+l)=q+m+l by lia];lia
end
section
variable{n b:Nat}{hm:Int->Nat}{T:List Int}
def cR(n:Nat)(hm:Int->Nat)(T:List Int):Nat->Nat:=λt=>Fn hm T (t%n)
theorem qbd5:cR n hm T (n+t)=cR n hm T t:=by unfold cR;rw[Nat.add_mod_left]
theorem qay2{q:Nat}:∀m,sumC (cR n hm T) (n+q) m=sumC (cR n hm T) q m|0=>rfl|m+1=>by show sumC _ (n+q) m+cR n hm T (n+q+m)=_;rw[qay2 m,Nat.add_assoc,qbd5];rfl
theorem qI7{s q:Nat}(a:b<n)(c:s%n=b)(d:∀k,hm k<n):∀m,q+m<=n->sumC (cR n hm T) (s+q) m=E4 (λk=>Aa n b (hm k)) T q (q+m)
 |0,_=>by rw[Nat.add_zero,qaw8];rfl|m+1,h=>by
  show sumC _ (s+q) m+cR n hm T (s+q+m)=_;rw[qI7 a c d m ⋯,show q+(m+1)=q+m+1 by lia,qab8 ⋯];congr 1;unfold cR Fn;congr 1;refine L7 λk _=>zBu.mpr ?_;have e:(s+q+m)%n=rot n b (q+m):=by rw[Nat.add_assoc,Nat.add_mod,c,zCe (show q+m<n by lia),qay4 a ⋯]
  rw[e];constructor;{intro z;show Aa n b (hm k)=_;rw[z,qt1 a ⋯]};intro z;rw[<-show Aa n b (hm k)=_ from z,qs1 a (d k)]
theorem qaK4(a:∀k,hm k<n):E4 hm T 0 n=T.length:=by unfold E4;rw[List.filter_eq_self.mpr λk _=>zAj ⟨zBf _,a k⟩]
theorem qaM3(a:0<n)(b:∀k,hm k<n):sumC (cR n hm T) 0 n=T.length:=by have:=qI7 (T:=T) (q:=0) a (Nat.zero_mod n) b n ⋯;rw[Nat.add_zero,zAk] at this;rw[this];refine(qaK4 λk=>qj6 (b k) a)
theorem qat7(f:0<n)(a:∀k,hm k<n):0<onC (cR n hm T) n↔∃q,Crowd n false hm T q:=by
 have e:∀q,q<=n->sumC (cR n hm T) q (n-q)=(T.filter λk=>decide (q<=hm k)).length:=λq d=>by have:=qI7 (T:=T) (s:=0) (q:=q) (b:=0) f (Nat.zero_mod n) a (n-q) ⋯;rw[zAk,show q+(n-q)=n by lia] at this;rw[this];unfold E4;congr 2;exact funext λk=>zBu.mpr (by have:=a k;have i:Aa n 0 (hm k)=hm k:=if_pos (zBf _);dsimp only;lia)
 constructor;{intro h;rcases qaG3 (c:=cR n hm T) n with j|⟨q,m,d,g,l⟩;{lia};refine⟨q,⋯,?_⟩;rw[if_neg ∅,<-e q ⋯,show n-q=m by lia];lia};rintro⟨q,d,h⟩;rw[if_neg ∅,<-e q ⋯] at h;have:=qaG2 (c:=cR n hm T) (q:=q) (n-q);rw[show q+(n-q)=n by lia] at this;lia
theorem qaG1(i:0<n)(j:∀k,hm k<n)(w:T.length<=n):∃r,r<n/\onC (cR n hm T) (n+r+1)=0:=by
 by_cases h:∃r,r<n/\onC (cR n hm T) (n+r+1)=0;{exact h};exfalso;have pos:∀r,r<n->0<onC (cR n hm T) (n+r+1):=λr g=>by have:=qO6 (c:=cR n hm T) (n+r+1);have:onC (cR n hm T) (n+r+1)≠0:=λe=>h ⟨r,g,e⟩;lia
 have a:∀r,r<=n->onC (cR n hm T) (n+r)=onC (cR n hm T) n+(sumC (cR n hm T) n r:Int)-(r:Int):=λr=>by
  induction r with
  |zero=>intro _;show _=_+((0:Nat):Int)-_;rw[Nat.add_zero];lia|succ r l=>
   intro g;have d:=pos r ⋯;have x:=l ⋯;have e:onC (cR n hm T) (n+r+1)=if onC (cR n hm T) (n+r)+(cR n hm T (n+r):Int)-1>0 then onC (cR n hm T) (n+r)+(cR n hm T (n+r):Int)-1 else 0:=rfl
   show onC (cR n hm T) (n+r+1)=_+((sumC (cR n hm T) n r+cR n hm T (n+r):Nat):Int)-_;rw[e] at d ⊢;split at d;{rw[if_pos (by assumption)];lia};lia
 have sa:=qaM3 (T:=T) i j;have b:∀m,sumC (cR n hm T) n m=sumC (cR n hm T) 0 m:=λm=>qay2 (q:=0) m;have e2:=a n (zA2 _);have o:=pos (n-1) ⋯;rw[show n+(n-1)+1=n+n by lia] at o;rw[b] at e2;rcases qaG3 (c:=cR n hm T) n with y|⟨q,m,p,s,d⟩;{lia};have t:=a q ⋯;rw[b] at t;have u:=qah2 (c:=cR n hm T) (q:=0) (m:=q) m;rw[zAk,p] at u;by_cases f:q=0;{subst f;have:sumC (cR n hm T) 0 0=0:=rfl;lia};have v:=pos (q-1) ⋯;rw[show n+(q-1)+1=n+q by lia] at v;lia
theorem qP1(f:r<n)(a:∀k,hm k<n)(d:onC (cR n hm T) (n+r+1)=0):∀q,¬Crowd n false (λk=>Aa n ((r+1)%n) (hm k)) T q:=by
 rintro q ⟨h,c⟩;have b:(r+1)%n<n:=Nat.mod_lt _ ⋯;rw[if_neg ∅] at c;have e:=qI7 (T:=T) (s:=r+1) (q:=q) b rfl a (n-q) ⋯;have g:=qaG2 (c:=cR n hm T) (q:=r+1+q) (n-q);rw[show r+1+q+(n-q)=n+r+1 by lia,d,e,show q+(n-q)=n by lia] at g;have e2:E4 (λk=>Aa n ((r+1)%n) (hm k)) T q n=(T.filter λk=>decide (q<=Aa n ((r+1)%n) (hm k))).length:=by unfold E4;congr 2;exact funext λk=>zBu.mpr (by have:=qj6 (a k) b;dsimp only;lia)
 have c:=e2 ▸ c;generalize E4 _ T q n=m at *
 lia
theorem Kept.turn(c:b<n)(p:∀k,hm k<n)(K:Kept n false (λk=>Aa n b (hm k)) g S):Kept n true hm (λi=>g (Aa n b i)) S:=by
 have f:∀i,i<n->Aa n b i<n:=λi a=>qj6 a c;have l:∀i x,i<n->g (Aa n b i)=some x->Aa n b (hm x)+Aa n (hm x) i=Aa n b i:=λi x a d=>Dy c (p x) a (K.ln rfl _ x (f i a) d);refine⟨⟨p,λi j x a m d u=>qk1 c a m (K.o.inj _ _ x (f i a) (f j m) d u),λi x a d v=>?_⟩,⟨b,c,λx w=>?_⟩,⟨K.h.1,λx=>⟨λA=>?_,λ⟨i,a,d⟩=>(K.h.2 x).mpr ⟨_,f i a,d⟩⟩⟩,λh=>nomatch h⟩
 .have f1:=l i x a d;have q:=K.ln rfl _ x (f i a) d;have B:Aa n (Aa n b (hm x)) (Aa n b i)=Aa n (hm x) i:=by unfold Aa at q ⊢;rw[if_pos q];unfold Aa at f1;lia
  obtain⟨y,r,s⟩:=K.o.ord _ x (f i a) d (by rw[B];exact v);have C:prev n (Aa n b i)=Aa n b (prev n i):=by rw[qd7 c a ⋯];rcases por n (Aa n b i) with h|h<;>lia
  rw[C] at r s;have t:=qq6 a;have f2:=l (prev n i) y t r;have D:=K.ln rfl _ y (f _ t) r;have f3:Aa n b (hm x)+Aa n (hm x) (prev n i)=Aa n b (prev n i):=Dy c (p x) t (by rw[qd7 c a ⋯];lia);refine⟨y,r,?_⟩;have E:Aa n (Aa n b (hm y)) (Aa n b (prev n i))=Aa n (hm y) (prev n i):=by have:Aa n (Aa n b (hm y)) (Aa n b (prev n i))=Aa n b (prev n i)-Aa n b (hm y):=if_pos D;lia
  have F:Aa n (Aa n b (hm x)) (Aa n b (prev n i))=Aa n (hm x) (prev n i):=by have:Aa n (Aa n b (hm x)) (Aa n b (prev n i))=Aa n b (prev n i)-Aa n b (hm x):=if_pos ⋯;lia
  unfold ahead at s ⊢;rwa[E,F] at s
 {have q:=K.ln rfl _ x (f b c) w;have z:Aa n b b=0:=(qb6 c c).mpr rfl;rw[z] at q;exact(qb6 c (p x)).mp ⋯};obtain⟨j,m,e⟩:=(K.h.2 x).mp A;exact⟨rot n b j,qU7 c m,by show g (Aa n b (rot n b j))=_;rw[qt1 c m];exact e⟩
end
theorem Kept.of_perm(K:Kept n wr hm g S)(p:S.Perm T):Kept n wr hm g T:=⟨K.1,K.2,⟨p.nodup_iff.mp K.h.1,λk=>p.mem_iff.symm.trans (K.h.2 k)⟩,K.4⟩
theorem Hi:Aa n 0 i=i:=if_pos (zBf _)
theorem qaH5(b:a<n)(c:s<=n):((a:Int)-(s:Int))%(n:Int)=(Aa n (s%n) a:Nat):=by by_cases e:s=n;{subst e;rw[Nat.mod_self,Hi,Int.sub_emod_right];exact zC8 ⋯ ⋯};rw[zCe (show s<n by lia)];unfold Aa;split;{rw[zC8 ⋯ ⋯];lia};rw[<-Int.add_emod_right,zC8 ⋯ ⋯];lia
end Row
namespace My
open PySem L2
variable{H:Hp}
noncomputable def Jm:V->Bool|.int _=>true|_=>false
noncomputable def qax7(l m:Int):V->Bool|.int i=>decide (l<=i)&&decide (i<=m)|_=>false
def numV:V->Bool:=qax7 0 1000000000000000000
theorem qaI3(h:Bi H x=some t):Fl t "int"=(Jm x||(match x with | .bl _=>true|_=>false)):=by cases x with|ref b=>unfold Bi at h;dsimp only at h;split at h<;>cases h<;>rfl|_=>cases h<;>rfl
theorem qau6(h:Bi H x=some t):Fl t "bool"=(match x with | .bl _=>true|_=>false):=by cases x with|ref b=>unfold Bi at h;dsimp only at h;split at h<;>cases h<;>rfl|_=>cases h<;>rfl
noncomputable def bagL(x y z:Int)(L:γ):HO:=.l [.int x,.int y,.int z,.ref L]
structure BagAt(H:Hp)(p:γ)(x y z:Int)(L:γ)(ns:List Int):Prop where
 at_:H p=some (bagL x y z L)
 li:H L=some (.l (ns.map V.int))
 x0:0<=x
 y0:0<=y
 y1:y<2147483647
 z0:0<=z
 nn:∀n∈ns,0<=n
def Bag(H:Hp)(p L:γ):Prop:=∃x y z a,BagAt H p x y z L a
theorem qbd9{ns:List Int}:HO.l (ns.map V.int)≠bagL x y z L:=by
 intro e;have e:ns.map V.int=[.int x,.int y,.int z,.ref L]:=by injection e
 have e:=congrArg (·[3]?) e;rw[zBd] at e;cases h:ns[3]? <;> rw[h] at e<;>cases e
theorem BagAt.ne(B:BagAt H p x y z L ns):L≠p:=ne_of B.li B.at_ qbd9
def qaW8(K:Nx):Sp:=λvs H Q _=>∃(l:γ)(ns:List Int),vs=[.ref l]/\SqL K H l (ns.map V.int)/\ns.length<=63/\∀p L H',H p=none->H L=none->Same H H'->Bag H' p L->Q (.ref p) H'
def Hj(K:Nx):Sp:=λvs H Q _=>∃(l:γ)(ns:List Int),vs=[.ref l]/\SqL K H l (ns.map V.int)/\ns.length<=63/\∀H',Q (.bl true) H'
abbrev Pr:=List (Int×Int)
def An(n:Int):Prop:=0<=n/\n<=1000000000000000000
theorem qaQ7:numV (.int n)=true↔An n:=by show (decide (0<=n)&&decide (n<=1000000000000000000))=true↔_;rw[zBi,zBc,zBc];exact Iff.rfl
structure qt3(ps:Pr):Prop where
 len:ps.length<=64
 nd:(ps.map (·.1)).Nodup
 nums:∀p∈ps,An p.1/\An p.2
noncomputable def qd2(n:Int)(ps:Pr)(k:Int):Int:=((ps.lookup k).getD k)%n
def B6(n:Int)(wr:Bool)(ps:Pr)(k r:Int):Option Int:=if wr then some ((r-qd2 n ps k)%n) else if 0<=r-qd2 n ps k then some (r-qd2 n ps k) else none
def qI4(n:Int)(wr:Bool)(ps:Pr)(r a other:Int):Bool:=match B6 n wr ps a r,B6 n wr ps other r with|none,_=>false|some _,none=>true|some x,some y=>decide (y<x)||(decide (x=y)&&decide (a<other))
theorem qaB1(h:1<=n)(ps:Pr)(k:Int):0<=qd2 n ps k/\qd2 n ps k<n:=⟨Int.emod_nonneg _ ⋯,zCh _ ⋯⟩
theorem qan9(k:Int)(ks:List Int):inV (.int k) (ks.map V.int)=decide (k∈ks):=by unfold inV;rw[List.any_map,Bool.eq_iff_iff,List.any_eq_true,zBc];constructor;{rintro⟨x,a,e⟩;rw[<-zBr.mp (e)];exact a};intro h;exact⟨k,h,zB3 k⟩
end My
namespace My
open PySem L2
open Row
variable{n:Int}{ps:Pr}{r:Nat}
def On(n:Int)(ps:Pr)(k:Int):Nat:=(qd2 n ps k).toNat
theorem Eh(h:1<=n)(k:Int):On n ps k<n.toNat:=by have:=qaB1 h ps k;unfold On;lia
theorem qP7(h:1<=n)(k:Int):((On n ps k:Nat):Int)=qd2 n ps k:=by have:=qaB1 h ps k;unfold On;lia
theorem qaw1(a:1<=n)(b:h<n.toNat)(c:r<n.toNat):((r:Int)-(h:Int))%n=(Aa n.toNat h r:Nat):=by
 rcases dor n.toNat h r with⟨h1,h2⟩|⟨h1,h2⟩;{rw[zC8 ⋯ ⋯];lia};have e:((r:Int)-(h:Int))%n=((r:Int)-(h:Int)+n)%n:=by rw[Int.add_emod_right]
 rw[e,zC8 ⋯ ⋯];have:=h2 ⋯;lia
theorem qQ4(a:1<=n)(c:r<n.toNat)(d:wr=false->On n ps k<=r):B6 n wr ps k (r:Int)=some ((Aa n.toNat (On n ps k) r:Nat):Int):=by have e:=Eh (ps:=ps) a k;have b:=qP7 (ps:=ps) a k;unfold B6;cases wr with|true=>rw[if_pos rfl,<-b,qaw1 a e c]|false=>have:=d rfl;rw[if_neg ∅,if_pos ⋯,<-b];have:=dor n.toNat (On n ps k) r;congr 1;lia
theorem qN3(a:1<=n)(b:r<n.toNat)(c:wr=false->On n ps x<=r)(d:wr=false->On n ps y<=r):qI4 n wr ps (r:Int) x y=true↔ahead n.toNat (On n ps) r x y:=by unfold qI4 ahead;rw[qQ4 a b c,qQ4 a b d];show (decide _||(decide _&&decide _))=true↔_;simp only[Bool.or_eq_true,zBi,zBc];lia
theorem qaG7(a:1<=n)(b:r<n.toNat):((r:Int)+1)%n=(Row.next n.toNat r:Nat):=by rcases nor n.toNat r with⟨h,e⟩|⟨h,e⟩;{rw[e,show ((r:Int)+1)=n by lia];simp};rw[e,zC8 ⋯ ⋯];rfl
end My
namespace LV
open PySem L2
variable{Ao:List γ}{N:List Str}{P:List V'->Prop}{Q:VK}{base:Heap}{cd:Lb}{cm z:Bool}{i j n:Nat}{kvs:List (Key×V)}{lo:Int}{mg:Str->Option V'}{op:CmpOp}{pl:Sem Bool}{v w:V}{vs:List V}{α:Type}{a':St}
inductive D where
 |non|bl (b:Bool)|int (i:Int)|str (x:Str)|ty (n:String)|adr (a:γ)
 |q (ds:List D)|l (z:Bool) (ds:List D)|dct (z:Bool) (kvs:List (Key×D))|ins (z:Bool) (C:γ) (fs:List (Str×D))
 |scr (ns:List Int)
 |exn (C:γ) (fs:List (Str×D))
 |hole (v:V)|u
mutual
def D.imm:D->Bool|.q ds=>D.imms ds|.l z _=>z|.dct z _=>z|.ins z _ _=>z|_=>true
def D.imms:List D->Bool|[]=>true|d::r=>d.imm&&D.imms r
end
mutual
def D.fz:D->D|.q ds=>.q (D.fzs ds)|.l _ ds=>.l true (D.fzs ds)|.dct _ kvs=>.dct true (D.fzk kvs)|.ins _ C fs=>.ins true C (D.fzf fs)|.exn C fs=>.exn C (D.fzf fs)|.non=>.non | .bl b=>.bl b | .int i=>.int i | .str x=>.str x | .ty n=>.ty n | .adr a=>.adr a | .scr c=>.scr c | .hole v=>.hole v | .u=>.u
def D.fzs:List D->List D|[]=>[]|d::r=>d.fz::D.fzs r
def D.fzk:List (Key×D)->List (Key×D)|[]=>[]|(k,d)::r=>(k,d.fz)::D.fzk r
def D.fzf:List (Str×D)->List (Str×D)|[]=>[]|(k,d)::r=>(k,d.fz)::D.fzf r
end
mutual
inductive Ow(F:γ->Prop)(H:Hp):V->D->List γ->Prop
 |non:Ow F H .non .non []
 |bl (b:Bool):Ow F H (.bl b) (.bl b) []
 |int (i:Int):Ow F H (.int i) (.int i) []
 |str (x:Str):Ow F H (.str x) (.str x) []
 |ty (n:String):Ow F H (.ty n) (.ty n) []
 |adr (a:γ):Ow F H (.ref a) (.adr a) []
 |q {a:γ} {vs:List V} {ds:List D} {A:List γ} (h:H a=some (.q vs)) (r:Oo F H vs ds A):Ow F H (.ref a) (.q ds) A
 |l {a:γ} {vs:List V} {ds:List D} {A:List γ} (h:H a=some (.l vs)) (r:Oo F H vs ds A):Ow F H (.ref a) (.l false ds) (a::A)
 |lstZ {a:γ} {vs:List V} {ds:List D} (h:H a=some (.l vs)) (f:F a) (r:Oo F H vs ds []):Ow F H (.ref a) (.l true ds) []
 |dct {a:γ} {kvs:List (Key×V)} {kds:List (Key×D)} {A:List γ} (h:H a=some (.dK kvs)) (e:kvs.map (·.1)=kds.map (·.1)) (r:Oo F H (kvs.map (·.2)) (kds.map (·.2)) A):Ow F H (.ref a) (.dct false kds) (a::A)
 |dctZ {a:γ} {kvs:List (Key×V)} {kds:List (Key×D)} (h:H a=some (.dK kvs)) (f:F a) (e:kvs.map (·.1)=kds.map (·.1)) (r:Oo F H (kvs.map (·.2)) (kds.map (·.2)) []):Ow F H (.ref a) (.dct true kds) []
 |ins {a C dx:γ} {fvs:List (Str×V)} {fds:List (Str×D)} {A:List γ} (h:H a=some (.ins C dx fvs)) (e:fvs.map (·.1)=fds.map (·.1)) (r:Oo F H (fvs.map (·.2)) (fds.map (·.2)) A):Ow F H (.ref a) (.ins false C fds) (a::A)
 |insZ {a C dx:γ} {fvs:List (Str×V)} {fds:List (Str×D)} (h:H a=some (.ins C dx fvs)) (f:F a) (e:fvs.map (·.1)=fds.map (·.1)) (r:Oo F H (fvs.map (·.2)) (fds.map (·.2)) []):Ow F H (.ref a) (.ins true C fds) []
 |scr {a:γ} {o:Obj} {ns:List Int} (h:H a=some (.frz o (.l (ns.map V.int)))):Ow F H (.ref a) (.scr ns) []
 |exn {a C dx:γ} {fvs:List (Str×V)} {fds:List (Str×D)} (h:H a=some (ExcO a C (some dx) false)) (g:H dx=some (XD dx fvs)) (e:fvs.map (·.1)=fds.map (·.1)) (r:Oo F H (fvs.map (·.2)) (fds.map (·.2)) []):Ow F H (.ref a) (.exn C fds) []
 |hole (v:V):Ow F H v (.hole v) []
 |u (v:V):Ow F H v .u []
inductive Oo(F:γ->Prop)(H:Hp):List V->List D->List γ->Prop
 |nil:Oo F H [] [] []
 |cons {v:V} {d:D} {A:List γ} {vs:List V} {ds:List D} {B:List γ} (h:Ow F H v d A) (t:Oo F H vs ds B):Oo F H (v::vs) (d::ds) (A++B)
end
noncomputable def Ei:HO->Bool|.l _=>true|.dK _=>true|.ins _ _ _=>true|_=>false
section
variable{F F':γ->Prop}{H H':Hp}
def Cel(H:Hp)(A:List γ):Prop:=∀b∈A,∃o,H b=some o/\Ei o=true
theorem Cel.cons(e:H a=some o)(m:Ei o=true)(h:Cel H A):Cel H (a::A):=λb c=>(zAl.mp c).elim (λq=>q ▸ ⟨_,e,m⟩) (h b)
theorem Cel.app(h:Cel H A)(g:Cel H B):Cel H (A++B):=λb a=>(zAb.mp a).elim (h b) (g b)
theorem Ow.cells{v:V}{d:D}{A:List γ}(r:Ow F H v d A):Cel H A:=by induction r using Ow.rec with|q e r i=>exact i|l e r i=>exact Cel.cons e rfl i|dct e _ r i=>exact Cel.cons e rfl i|ins e _ r i=>exact Cel.cons e rfl i|cons _ _ i j=>exact Cel.app i j|_=>nofun
theorem Oo.cells{vs:List V}{ds:List D}{A:List γ}(r:Oo F H vs ds A):Cel H A:=by induction r using Oo.rec (motive_1:=λ_ _ _ _=>True) with|cons h _ i j=>exact Cel.app h.cells j|nil=>nofun|_=>trivial
structure Kp(F:γ->Prop)(H:Hp)(W F':γ->Prop)(H':Hp):Prop where
 fr:∀b o,H b=some o->¬W b->H' b=some o
 wm:∀b,W b->∃o,H b=some o/\Ei o=true
 wf:∀b,W b->¬F b
 mF:∀b,F b->F' b
theorem Kp.q(k:Kp F H W F' H'){vs:List V}(h:H a=some (.q vs)):H' a=some (.q vs):=by refine k.fr a _ h λw=>?_;obtain⟨o,e,m⟩:=k.wm a w;rw[h] at e;cases e;cases m
theorem Kp.imm(k:Kp F H W F' H')(h:H a=some o)(n:Ei o=false):H' a=some o:=by refine k.fr a _ h λw=>?_;obtain⟨o,e,m⟩:=k.wm a w;rw[h] at e;cases e;rw[n] at m;cases m
theorem Kp.frz(k:Kp F H W F' H')(h:H a=some (.frz o u)):H' a=some (.frz o u):=by refine k.fr a _ h λw=>?_;obtain⟨o,e,m⟩:=k.wm a w;rw[h] at e;cases e;cases m
theorem Ow.keep{W:γ->Prop}(k:Kp F H W F' H'){v:V}{d:D}{A:List γ}(r:Ow F H v d A):(∀b∈A,¬W b)->Ow F' H' v d A:=by induction r using Ow.rec (motive_2:=λa c A _=>(∀b∈A,¬W b)->Oo F' H' a c A) with|q e r i=>exact λh=>.q (k.q e) (i h)|l e r i=>exact λh=>.l (k.fr _ _ e (zB2.mp h).1) (i (zB2.mp h).2)|lstZ e f r i=>exact λh=>.lstZ (k.fr _ _ e λw=>k.wf _ w f) (k.mF _ f) (i h)|dct e q r i=>exact λh=>.dct (k.fr _ _ e (zB2.mp h).1) q (i (zB2.mp h).2)|dctZ e f q r i=>exact λh=>.dctZ (k.fr _ _ e λw=>k.wf _ w f) (k.mF _ f) q (i h)|ins e q r i=>exact λh=>.ins (k.fr _ _ e (zB2.mp h).1) q (i (zB2.mp h).2)|insZ e f q r i=>exact λh=>.insZ (k.fr _ _ e λw=>k.wf _ w f) (k.mF _ f) q (i h)|scr e=>exact λ_=>.scr (k.frz e)|exn e g q r i=>exact λh=>.exn (k.imm e rfl) (k.imm g rfl) q (i h)|cons _ _ i j h=>exact Oo.cons (i (zBo.mp h).1) (j (zBo.mp h).2)|nil=>constructor|_=>intro;constructor
theorem Oo.keep{W:γ->Prop}(k:Kp F H W F' H'){vs:List V}{ds:List D}{A:List γ}(r:Oo F H vs ds A):(∀b∈A,¬W b)->Oo F' H' vs ds A:=by induction r using Oo.rec (motive_1:=λ_ _ _ _=>True) with|nil=>exact λ_=>Oo.nil|cons r _ i j=>exact λh=>Oo.cons (r.keep k (zBo.mp h).1) (j (zBo.mp h).2)|_=>trivial
theorem Kp.same(s:Same H H'):Kp F H (λ_=>False) F H':=⟨λb o e _=>s b o e,λ_ w=>w.elim,λ_ w=>w.elim,λ_ f=>f⟩
theorem Ow.same(r:Ow F H v d A)(s:Same H H'):Ow F H' v d A:=r.keep (Kp.same s) λ_ _=>id
theorem Oo.same(r:Oo F H vs ds A)(s:Same H H'):Oo F H' vs ds A:=r.keep (Kp.same s) λ_ _=>id
theorem Kp.more(m:∀b,F b->F' b):Kp F H (λ_=>False) F' H:=⟨λb o e _=>e,λ_ w=>w.elim,λ_ w=>w.elim,m⟩
mutual
theorem Ow.imm{v:V}{d:D}{A:List γ}(r:Ow F H v d A)(h:d.imm=true):A=[]:=by cases r with|q e r=>exact r.imms h|l=>cases h|dct=>cases h|ins=>cases h|_=>rfl
theorem Oo.imms{vs:List V}{ds:List D}{A:List γ}(r:Oo F H vs ds A)(h:D.imms ds=true):A=[]:=by cases r with|nil=>rfl|cons r t=>have h:=zAg.mp h;rw[r.imm h.1,t.imms h.2];rfl
end
theorem qaa2(a:List (Key×D)):(D.fzk a).map (·.1)=a.map (·.1)/\(D.fzk a).map (·.2)=D.fzs (a.map (·.2)):=by induction a with|nil=>exact⟨rfl,rfl⟩|cons p r b=>obtain⟨k,d⟩:=p;simp only[D.fzk,D.fzs,zAz,b.1,b.2,and_self]
theorem qI1(a:List (Str×D)):(D.fzf a).map (·.1)=a.map (·.1)/\(D.fzf a).map (·.2)=D.fzs (a.map (·.2)):=by induction a with|nil=>exact⟨rfl,rfl⟩|cons p r b=>obtain⟨k,d⟩:=p;simp only[D.fzf,D.fzs,zAz,b.1,b.2,and_self]
theorem Ow.fz{v:V}{d:D}{A:List γ}(r:Ow F H v d A)(m:∀b,F b->F' b):(∀b∈A,F' b)->Ow F' H v d.fz []:=by induction r using Ow.rec (motive_2:=λa c A _=>(∀b∈A,F' b)->Oo F' H a (D.fzs c) []) with|q e r i=>exact λh=>.q e (i h)|l e r i=>exact λh=>.lstZ e (zB2.mp h).1 (i (zB2.mp h).2)|lstZ e f r i=>exact λh=>.lstZ e (m _ f) (i h)|dct e q r i=>exact λh=>.dctZ e (zB2.mp h).1 (q.trans (qaa2 _).1.symm) ((qaa2 _).2 ▸ i (zB2.mp h).2)|dctZ e f q r i=>exact λh=>.dctZ e (m _ f) (q.trans (qaa2 _).1.symm) ((qaa2 _).2 ▸ i h)|ins e q r i=>exact λh=>.insZ e (zB2.mp h).1 (q.trans (qI1 _).1.symm) ((qI1 _).2 ▸ i (zB2.mp h).2)|insZ e f q r i=>exact λh=>.insZ e (m _ f) (q.trans (qI1 _).1.symm) ((qI1 _).2 ▸ i h)|scr e=>exact λ_=>.scr e|exn e g q r i=>exact λh=>.exn e g (q.trans (qI1 _).1.symm) ((qI1 _).2 ▸ i h)|nil=>exact Oo.nil|cons _ _ i j h=>exact Oo.cons (i (zBo.mp h).1) (j (zBo.mp h).2)|_=>intro;constructor
end
theorem ec:∀{us:List V'},us.length=n+1->∃a vs,us=a::vs/\vs.length=n|a::vs,h=>⟨a,vs,rfl,Nat.succ.inj h⟩
theorem ec0(h:P [])(us:List V')(e:us.length=0):P us:=List.length_eq_zero_iff.mp e ▸ h
theorem ec1(h:∀x us,us.length=n->P (x::us))(us:List V')(e:us.length=n+1):P us:=by obtain⟨x,a,rfl,b⟩:=ec e;exact h x a b
theorem ec2(h:∀us,us.length=n->P us)(us:List V')(e:us.length+1=n+1):P us:=h us (Nat.succ.inj e)
inductive Locs(F:γ->Prop)(H:Hp):List (Option V)->List D->List γ->Prop
 |nil:Locs F H [] [] []
 |no {a:List (Option V)} {ds:List D} {A:List γ} (t:Locs F H a ds A):Locs F H (none::a) (.u::ds) A
 |so {v:V} {d:D} {B:List γ} {a:List (Option V)} {ds:List D} {A:List γ} (h:Ow F H v d B) (t:Locs F H a ds A):Locs F H (some v::a) (d::ds) (B++A)
section
variable{F F':γ->Prop}{H H':Hp}
theorem Locs.cells{n:List (Option V)}(r:Locs F H n ds A):∀b∈A,∃o,H b=some o/\Ei o=true:=by induction r with|nil=>intro b h;cases h|no t c=>exact c|so h t c=>intro b a;rcases zAb.mp a with a|a;{exact h.cells b a};exact c b a
theorem Locs.keep(k:Kp F H W F' H'){n:List (Option V)}(r:Locs F H n ds A):(∀b∈A,¬W b)->Locs F' H' n ds A:=by induction r with|nil=>exact λ_=>.nil|no t a=>exact λh=>.no (a h)|so h t a=>exact λq=>.so (h.keep k λb c=>q b (zAb.mpr (.inl c))) (a λb c=>q b (zAb.mpr (.inr c)))
theorem Locs.same{n:List (Option V)}(r:Locs F H n ds A)(s:Same H H'):Locs F H' n ds A:=r.keep (Kp.same s) λ_ _=>id
theorem Locs.len{n:List (Option V)}(r:Locs F H n ds A):n.length=ds.length:=by induction r with|nil=>rfl|no t a=>simp[a]|so h t a=>simp[a]
theorem Locs.append{n:List (Option V)}(r:Locs F H n ds A)(t:Locs F H p es B):Locs F H (n++p) (ds++es) (A++B):=by induction r with|nil=>exact t|no _ a=>exact .no a|so h _ a=>rw[zAm];exact .so h a
inductive Hk(F:γ->Prop)(H:Hp):Option V->D->List γ->Prop
 |no:Hk F H none .u []
 |so {v:V} {d:D} {B:List γ} (h:Ow F H v d B):Hk F H (some v) d B
theorem Locs.cons{n:List (Option V)}(h:Hk F H o d B)(t:Locs F H n ds A):Locs F H (o::n) (d::ds) (B++A):=by cases h with|no=>exact .no t|so h=>exact .so h t
theorem Locs.split:∀{ds:List D}{n:List (Option V)}{A:List γ}{i:Nat}{d:D},Locs F H n ds A->ds[i]?=some d->∃σ1 o σ2 ds1 a A1 B A2,n=σ1++o::σ2/\ds=ds1++d::a/\σ1.length=i/\ds1.length=i/\A=A1++(B++A2)/\Locs F H σ1 ds1 A1/\Hk F H o d B/\Locs F H σ2 a A2:=by
 intro ds;induction ds with
 |nil=>intro n A i d _ h;simp at h|cons e r m=>
  intro n A i d L h;cases i with
  |zero=>
   have:e=d:=by simpa using h
   subst this;cases L with|no t=>exact⟨[],none,_,[],_,[],[],_,rfl,rfl,rfl,rfl,rfl,.nil,.no,t⟩|so q t=>exact⟨[],some _,_,[],_,[],_,_,rfl,rfl,rfl,rfl,rfl,.nil,.so q,t⟩
  |succ i=>
   have h:r[i]?=some d:=by simpa using h
   cases L with|no t=>obtain⟨σ1,o,σ2,ds1,a,A1,B,A2,b,e2,c,f,g,j,k,l⟩:=m t h;exact⟨none::σ1,o,σ2,_::ds1,a,A1,B,A2,by rw[b];rfl,by rw[e2];rfl,by simp[c],by simp[f],g,.no j,k,l⟩|@so v _ B0 _ _ A0 q t=>obtain⟨σ1,o,σ2,ds1,a,A1,B,A2,b,e2,c,f,g,j,k,l⟩:=m t h;exact⟨some v::σ1,o,σ2,_::ds1,a,B0++A1,B,A2,by rw[b];rfl,by rw[e2];rfl,by simp[c],by simp[f],by rw[g,zAm],.so q j,k,l⟩
end
theorem qt9{x:α}(h:a.length=i):(a++x::b).set i y=a++y::b:=by subst h;rw[Ms _ _ (zA2 _),Nat.sub_self];rfl
theorem qI0{x:α}(h:a.length=i):(a++x::b)[i]?=some x:=by subst h;simp
structure Ok(F:γ->Prop)(H:Hp)(A:List γ):Prop where
 sep:∀b,A.count b<=1
 fro:∀b,F b->A.count b=0
 ex:∀b,F b->∃o,H b=some o
structure Oy(F:γ->Prop)(H:Hp)(A:List γ)(F':γ->Prop)(H':Hp)(A':List γ):Prop where
 fr:∀b o,H b=some o->A.count b=0->H' b=some o
 sub:∀b o,H b=some o->A.count b=0->A'.count b=0
 mono:∀b,F b->F' b
 fnew:∀b o,H b=some o->A.count b=0->F' b->F b
section
variable{F k l:γ->Prop}{H i m:Hp}{A j A2 T:List γ}
theorem Oy.refl:Oy F H A F H A:=⟨λ_ _ e _=>e,λ_ _ _ e=>e,λ_ f=>f,λ_ _ _ _ f=>f⟩
theorem Oy.trans(s:Oy F H A k i j)(t:Oy k i j l m A2):Oy F H A l m A2:=⟨λb o e q=>t.fr b o (s.fr b o e q) (s.sub b o e q),λb o e q=>t.sub b o (s.fr b o e q) (s.sub b o e q),λb f=>t.mono b (s.mono b f),λb o e q f=>s.fnew b o e q (t.fnew b o (s.fr b o e q) (s.sub b o e q) f)⟩
theorem Oy.same(s:Same H i):Oy F H A F i A:=⟨λb o e _=>s b o e,λ_ _ _ e=>e,λ_ f=>f,λ_ _ _ _ f=>f⟩
theorem qb1{A:List γ}:b∈A↔A.count b≠0:=by rw[<-List.count_pos_iff];lia
theorem Oy.kp(s:Oy F H A k i j)(o:Ok F H A)(c:∀b∈A,∃o,H b=some o/\Ei o=true):Kp F H (λb=>A.count b≠0) k i:=⟨λb u e w=>s.fr b u e ⋯,λb w=>c b (qb1.mpr w),λb w f=>w (o.fro b f),s.mono⟩
theorem Ok.left(o:Ok F H (T++A)):Ok F H T:=⟨λb=>by have:=o.sep b;rw[zA0] at this;lia,λb f=>by have:=o.fro b f;rw[zA0] at this;lia,o.ex⟩
theorem Ok.right(o:Ok F H (T++A)):Ok F H A:=⟨λb=>by have:=o.sep b;rw[zA0] at this;lia,λb f=>by have:=o.fro b f;rw[zA0] at this;lia,o.ex⟩
theorem Ok.count(o:Ok F H A)(h:∀b,j.count b<=A.count b):Ok F H j:=⟨λb=>zAi (h b) (o.sep b),λb f=>by have:=o.fro b f;have:=h b;lia,o.ex⟩
theorem Oy.frame(s:Oy F H A k i j)(o:Ok F H (T++A))(c:∀b∈T,∃o,H b=some o/\Ei o=true)(d:Ok k i j):Ok k i (T++j)/\Oy F H (T++A) k i (T++j):=by
 have a:∀b,T.count b≠0->∃u,H b=some u/\A.count b=0:=λb h=>by obtain⟨u,e,_⟩:=c b (qb1.mpr h);have:=o.sep b;rw[zA0] at this;exact⟨u,e,⋯⟩
 refine⟨⟨λb=>?_,λb f=>?_,d.ex⟩,λb u e q=>?_,λb u e q=>?_,s.mono,λb u e q f=>?_⟩;{rw[zA0];by_cases h:T.count b=0;{have:=d.sep b;lia};obtain⟨u,e,q⟩:=a b h;have g:=s.sub b u e q;have:=o.sep b;rw[zA0] at this;lia};{rw[zA0,d.fro b f];by_cases h:T.count b=0;{lia};obtain⟨u,e,q⟩:=a b h;have:=o.fro b (s.fnew b u e q f);rw[zA0] at this;lia};{rw[zA0] at q;exact s.fr b u e ⋯};{rw[zA0] at q ⊢;have:=s.sub b u e ⋯;lia};rw[zA0] at q;exact s.fnew b u e ⋯ f
theorem Oy.count(s:Oy F H A k i j)(h:∀b,A2.count b<=j.count b):Oy F H A k i A2:=⟨s.fr,λb o e q=>by have:=s.sub b o e q;have:=h b;lia,s.mono,s.fnew⟩
theorem Oy.pre(s:Oy F H A k i j)(h:∀b,A.count b=A2.count b):Oy F H A2 k i j:=⟨λb o e q=>s.fr b o e (by rw[h];exact q),λb o e q=>s.sub b o e (by rw[h];exact q),s.mono,λb o e q f=>s.fnew b o e (by rw[h];exact q) f⟩
end
structure New(H:Hp)(B:List γ):Prop where
 one:∀b,B.count b<=1
 new:∀b o,H b=some o->B.count b=0
section
variable{F:γ->Prop}{H H':Hp}{A B:List γ}
theorem New.nil:New H []:=⟨λb=>by simp,λb o _=>by simp⟩
theorem New.ok(n:New H B)(o:Ok F H A)(c:∀b∈A,∃o,H b=some o/\Ei o=true)(s:Same H H'):Ok F H' (B++A):=by refine⟨λb=>?_,λb f=>?_,λb f=>?_⟩;{rw[zA0];have a:=n.one b;have d:=o.sep b;by_cases h:A.count b=0;{lia};obtain⟨u,e,_⟩:=c b (qb1.mpr h);have:=n.new b u e;lia};{rw[zA0,o.fro b f];obtain⟨u,e⟩:=o.ex b f;rw[n.new b u e]};obtain⟨u,e⟩:=o.ex b f;exact⟨u,s b u e⟩
theorem New.append(n:New H B)(s:Same H H1)(c:∀b∈B,∃o,H1 b=some o/\Ei o=true)(a:New H1 B1):New H (B++B1):=by refine⟨λb=>?_,λb o e=>?_⟩;{rw[zA0];have d:=n.one b;have f:=a.one b;by_cases h:B.count b=0;{lia};obtain⟨u,e,_⟩:=c b (qb1.mpr h);have:=a.new b u e;lia};rw[zA0,n.new b o e,a.new b o (s b o e)]
theorem Ok.same(o:Ok F H A)(s:Same H H'):Ok F H' A:=⟨o.sep,o.fro,λb f=>let ⟨u,e⟩:=o.ex b f;⟨u,s b u e⟩⟩
theorem New.stp(n:New H B)(s:Same H H'):Oy F H A F H' (B++A):=⟨λb o e _=>s b o e,λb o e q=>by rw[zA0,n.new b o e,q],λ_ f=>f,λ_ _ _ _ f=>f⟩
end
structure Exn where
 C:γ
 fs:List (Str×D)
def RepX(F:γ->Prop)(H:Hp)(e:γ)(x:Exn):Prop:=∃b,H e=some (ExcO e x.C b false)/\(x.fs=[]∨∃dx a,b=some dx/\H dx=some (XD dx a)/\a.map (·.1)=x.fs.map (·.1)/\Oo F H (a.map (·.2)) (x.fs.map (·.2)) [])
abbrev Ds:=List D
abbrev DK:=D->Ds->Prop
abbrev XKd:=Exn->Ds->Prop
abbrev VT:=Ds->DK->XKd->Prop
abbrev VTT:=Ds->(Bool->Ds->Prop)->XKd->Prop
abbrev VTA:=Ds->(Ds->Ds->Prop)->XKd->Prop
abbrev FV:=Ds->Option D
structure Vc where
 E:St->XK
 W:Nat->Bool
 av:List (Option V)
 gv:List (Option V)
structure Oz(c:Vc)(F:γ->Prop)(H:Hp)(a:St)(ds:Ds)(A:List γ):Prop where
 loc:Locs F H (a++c.gv) ds A
 ok:Ok F H A
 len:c.av.length=(a++c.gv).length
 ag:∀i,c.W i=true->(a++c.gv)[i]?=c.av[i]?
theorem Oz.same(S:Oz c F H a ds A)(s:Same H H'):Oz c F H' a ds A:=⟨S.loc.same s,S.ok.same s,S.len,S.ag⟩
def Xc(c:Vc)(xe:XKd)(F:γ->Prop)(H:Hp)(A:List γ):Prop:=∀x a b' e H' F' A',xe x a->RepX F' H' e x->Oz c F' H' b' a A'->Oy F H A F' H' A'->c.E b' (.ref e) none H'
theorem Xc.step(x:Xc c xe F H A)(s:Oy F H A F1 H1 A1):Xc c xe F1 H1 A1:=λy a b' e H' F' A' h r S t=>x y a b' e H' F' A' h r S (s.trans t)
def kE(c:Vc)(b:St)(F:γ->Prop)(H:Hp)(A:List γ)(Q:VK):DK:=λd a=>∀v H' F' T A',Ow F' H' v d T->Oz c F' H' b a A'->Ok F' H' (T++A')->Oy F H A F' H' (T++A')->Q v H'
inductive LiftE(c:Vc)(t:VT)(a:St)(H:Hp)(Q:VK):Prop
 |mk (F:γ->Prop) (ds:Ds) (A:List γ) (xe:XKd) (S:Oz c F H a ds A) (x:Xc c xe F H A) (q:t ds (kE c a F H A Q) xe):LiftE c t a H Q
def Bh(c:Vc)(t:VT):TE:=LiftE c t
inductive LiftV(c:Vc)(own:Bool)(f:FV)(a:St)(H:Hp)(Q:VK):Prop
 |mk (F:γ->Prop) (ds:Ds) (A:List γ) (d:D) (S:Oz c F H a ds A) (e:f ds=some d) (q:∀v H' B,Ow F H' v d B->Same H H'->(own=true->New H B)->Q v H'):LiftV c own f a H Q
def liftV(c:Vc)(own:Bool)(f:FV):TE:=LiftV c own f
inductive qaV8(c:Vc)(own:Bool)(f:Ds->Option Ds)(a:St)(H:Hp)(Q:List V->Hp->Prop):Prop
 |mk (F:γ->Prop) (ds:Ds) (A:List γ) (xs:Ds) (S:Oz c F H a ds A) (e:f ds=some xs) (q:∀vs H' B,Oo F H' vs xs B->Same H H'->(own=true->New H B)->Q vs H'):qaV8 c own f a H Q
def qaQ9(c:Vc)(own:Bool)(f:Ds->Option Ds):TA:=qaV8 c own f
inductive qaW0(c:Vc)(t:VTA)(a:St)(H:Hp)(Q:List V->Hp->Prop):Prop
 |mk (F:γ->Prop) (ds:Ds) (A:List γ) (xe:XKd) (S:Oz c F H a ds A) (x:Xc c xe F H A) (q:t ds (λxs ds'=>∀vs H' F' T A',Oo F' H' vs xs T->Oz c F' H' a ds' A'->Oy F H A F' H' A'->Q vs H') xe):qaW0 c t a H Q
def qaH9(c:Vc)(t:VTA):TA:=qaW0 c t
inductive LiftT(c:Vc)(t:VTT)(a:St)(H:Hp)(Q:Bool->Hp->Prop):Prop
 |mk (F:γ->Prop) (ds:Ds) (A:List γ) (xe:XKd) (S:Oz c F H a ds A) (x:Xc c xe F H A) (q:t ds (λb ds'=>∀H' F' A',Oz c F' H' a ds' A'->Oy F H A F' H' A'->Q b H') xe):LiftT c t a H Q
def Es(c:Vc)(t:VTT):TT:=LiftT c t
structure VE(c:Vc)(X:Cx)(e:Lb)(t:VT):Prop where
 h:PE X e (Bh c t)
 m:∀ds (Q Q':DK) (xe xe':XKd),(∀d ds',Q d ds'->Q' d ds')->(∀x ds',xe x ds'->xe' x ds')->t ds Q xe->t ds Q' xe'
structure VV(c:Vc)(X:Cx)(e:Lb)(own:Bool)(f:FV):Prop where
 h:PE X e (liftV c own f)
structure VVs(c:Vc)(X:Cx)(es:List Lb)(own:Bool)(f:Ds->Option Ds):Prop where
 h:PA X es (qaQ9 c own f)
structure VOs(c:Vc)(X:Cx)(es:List Lb)(t:VTA):Prop where
 h:PA X es (qaH9 c t)
 m:∀ds (Q Q':Ds->Ds->Prop) (xe xe':XKd),(∀d ds',Q d ds'->Q' d ds')->(∀x ds',xe x ds'->xe' x ds')->t ds Q xe->t ds Q' xe'
structure VTe(c:Vc)(X:Cx)(e:Lb)(t:VTT):Prop where
 h:PT X e (Es c t)
 m:∀ds (Q Q':Bool->Ds->Prop) (xe xe':XKd),(∀d ds',Q d ds'->Q' d ds')->(∀x ds',xe x ds'->xe' x ds')->t ds Q xe->t ds Q' xe'
theorem PE.mono(h:PE X e t)(i:∀a H Q,t' a H Q->t a H Q):PE X e t':=λDg s a H Q I q=>h Dg s a H Q I (i a H Q q)
theorem PT.mono(h:PT X e t)(i:∀a H Q,t' a H Q->t a H Q):PT X e t':=λDg s a H Q I q=>h Dg s a H Q I (i a H Q q)
theorem PW.mono(h:PW X e t)(i:∀a H Q,t' a H Q->t a H Q):PW X e t':=λw Dg s a H Q I q=>h w Dg s a H Q I (i a H Q q)
theorem PA.mono(h:PA X es t)(i:∀a H Q,t' a H Q->t a H Q):PA X es t':=λp Dg s a H Q I q=>h p Dg s a H Q I (i a H Q q)
theorem PS.mono(h:PS X st t)(i:∀D a H,t' D a H->t D a H):PS X st t':=λDg s a H D I q=>h Dg s a H D I (i D a H q)
theorem PSs.mono(h:PSs X st t)(i:∀D a H,t' D a H->t D a H):PSs X st t':=λDg s a H D I q=>h Dg s a H D I (i D a H q)
def orF{α:Type}(o:Option α)(k:α->Prop):Prop:=match o with|some a=>k a|none=>False
theorem qa5(h:∀a,k a->b a):orF o k->orF o b:=by cases o with|none=>exact id|some a=>exact h a
theorem qa7:orF o k↔∃a,o=some a/\k a:=by cases o with|none=>exact⟨λh=>h.elim,λ⟨_,e,_⟩=>by cases e⟩|some a=>exact⟨λh=>⟨a,rfl,h⟩,λ⟨b,e,h⟩=>by cases e;exact h⟩
section
variable{c:Vc}{X:Cx}{e:Lb}{F:γ->Prop}{H H':Hp}{t:St}{ds:Ds}{A:List γ}
theorem Oz.new(S:Oz c F H t ds A)(n:New H B)(s:Same H H'):Ok F H' (B++A):=n.ok S.ok S.loc.cells s
def B7(f:FV):VT:=λds Q _=>orF (f ds) λd=>Q d ds
def B8(f:FV):VT:=λds Q _=>orF (f ds) λd=>d.imm=true/\Q d ds
theorem qa4(h:VV c X e true f):VE c X e (B7 f):=by refine⟨PE.mono h.h λt H Q a=>?_,λb Q Q' g i j _=>qa5 λd=>j d b⟩;obtain⟨F,b,A,g,S,x,q⟩:=a;obtain⟨d,e,q⟩:=qa7.mp q;exact⟨F,b,A,d,S,e,λv H' B r s n=>q v H' F B A r (S.same s) (S.new (n rfl) s) ((n rfl).stp s)⟩
theorem qb4(h:VV c X e own f):VE c X e (B8 f):=by refine⟨PE.mono h.h λt H Q a=>?_,λb Q Q' g i j _=>qa5 λd=>Nu (j d b)⟩;obtain⟨F,b,A,g,S,x,q⟩:=a;obtain⟨d,e,k,q⟩:=qa7.mp q;refine⟨F,b,A,d,S,e,λv H' B r s _=>?_⟩;have:=r.imm k;subst this;exact q v H' F [] A r (S.same s) (S.ok.same s) (.same s)
theorem Gj(h:PE X e (tC v))(r:∀F H,Ow F H v d []):VV c X e true (λ_=>some d):=⟨PE.mono h λt H Q ⟨F,a,A,b,S,e,q⟩=>by cases e;exact q v H [] (r F H) (λ_ _ z=>z) λ_=>New.nil⟩
noncomputable def D.known:D->Bool|.u=>false|.hole _=>false|_=>true
def rdN(i:Nat):FV:=λds=>match ds[i]? with|some d=>if d.known=true then some d else none|none=>none
theorem qm8:rdN i ds=some d↔ds[i]?=some d/\d.known=true:=by unfold rdN;cases h:ds[i]? with|none=>simp|some x=>dsimp only;split;{rename_i hk;constructor;{intro e;cases e;exact⟨rfl,hk⟩};rintro⟨e,_⟩;exact e};rename_i hk;constructor;{intro e;cases e};rintro⟨e,a⟩;cases e;exact absurd a hk
theorem Oz.at(S:Oz c F H t ds A)(hi:i<t.length)(h:ds[i]?=some d)(a:d.known=true):∃v B,t[i]?=some (some v)/\Ow F H v d B/\∀b,B.count b<=A.count b:=by
 obtain⟨σ1,o,σ2,e,f,A1,B,A2,g,e2,j,m,k,n,l,p⟩:=S.loc.split h;cases l with
 |no=>cases a|@so v _ _ r=>
  refine⟨v,B,?_,r,λb=>by rw[k];simp only[zA0];lia⟩;have:(t++c.gv)[i]?=some (some v):=by rw[g];exact qI0 j
  rwa[zAn hi] at this
theorem qaL0(h:PE X (.Name x pos) (Fk i))(hi:∀Dg t H s,Ox X Dg t H s->i<t.length):VV c X (.Name x pos) false (rdN i):=by refine⟨λDg s t H Q I a=>?_⟩;obtain⟨F,g,A,d,S,e,q⟩:=a;refine h Dg s t H Q I ?_;obtain⟨e,b⟩:=qm8.mp e;obtain⟨v,B,f,r,_⟩:=S.at (hi Dg t H s I) e b;exact⟨v,f,q v H B r (λ_ _ z=>z) λz=>by cases z⟩
theorem qi8{X:Cx}(a:X.N[i]?=some x):∀Dg t H s,Ox X Dg t H s->i<t.length:=λDg t H s I=>by
 rw[I.len];exact(zA5.mp a).1
end
def Sub(H:Hp)(B B':List γ):Prop:=∀b,B'.count b<=B.count b∨(B'.count b<=1/\H b=none)
theorem Sub.new(s:Sub H1 B B')(n:New H B)(q:Same H H1):New H B':=by refine⟨λb=>?_,λb o e=>?_⟩;{rcases s b with h|⟨h,_⟩;{have:=n.one b;lia};exact h};rcases s b with h|⟨_,h⟩;{have:=n.new b o e;lia};rw[q b o e] at h;cases h
def OpS(nw:Bool)(r:List V->Hp->VK->Prop)(g:Ds->Option D):Prop:=∀F H vs xs B d (Q:VK),Oo F H vs xs B->g xs=some d->(∀v H' B',Ow F H' v d B'->Same H H'->(if nw=true then New H B' else Sub H B B')->Q v H')->r vs H Q
def A9(nw:Bool)(r:R2)(g:D->D->Option D):Prop:=∀F H v w x y B d (Q:VK),Oo F H [v,w] [x,y] B->g x y=some d->(∀v H' B',Ow F H' v d B'->Same H H'->(if nw=true then New H B' else Sub H B B')->Q v H')->r v w H Q
noncomputable def f2(g:D->D->Option D)(fa fb:FV):FV:=λds=>(fa ds).bind λx=>(fb ds).bind λy=>g x y
theorem qaJ9:f2 g fa fb ds=some d↔∃x y,fa ds=some x/\fb ds=some y/\g x y=some d:=by unfold f2;cases a:fa ds with|none=>simp|some x=>cases b:fb ds with|none=>simp|some y=>simp
noncomputable def f1(g:D->Option D)(fa:FV):FV:=λds=>(fa ds).bind g
theorem qav8:f1 g fa ds=some d↔∃x,fa ds=some x/\g x=some d:=by unfold f1;cases a:fa ds with|none=>simp|some x=>simp
theorem Fo(r:Ow F H v d A)(s:Ow F H w e B):Oo F H [v,w] [d,e] (A++(B++[])):=.cons r (.cons s .nil)
section
variable{c:Vc}{X:Cx}{a b:Lb}{W Z U:Bool}{fa fb:FV}{r:R2}{g:D->D->Option D}{O R:VT}
theorem op_vv(h:A9 U r g):∀N H Q,liftV c (U||(W&&Z)) (f2 g fa fb) N H Q->tOp r (liftV c W fa) (liftV c Z fb) N H Q:=by rintro N H Q ⟨F,k,A,d,S,e,q⟩;obtain⟨x,y,m,n,p⟩:=qaJ9.mp e;refine⟨F,k,A,x,S,m,λv H1 B1 l a s=>⟨F,k,A,y,S.same a,n,λw H2 B2 t i z=>?_⟩⟩;refine h F H2 v w x y _ d Q (Fo (l.same i) t) p λu H3 B3 B C f=>?_;refine q u H3 B3 B ((a.trans i).trans C) λj=>?_;cases U with|true=>rw[if_pos rfl] at f;exact⟨f.one,λb o e=>f.new b o (i b o (a b o e))⟩|false=>rw[if_neg ∅] at f;have j:=zAg.mp j;have:=(s j.1).append a l.cells (z j.2);exact f.new (by rw[zAc];exact this) (a.trans i)
def t2(g:D->D->Option D)(O R:VT):VT:=λds Q xe=>O ds (λx ds1=>R ds1 (λy a=>orF (g x y) λd=>Q d a) xe) xe
theorem qay0(j:VE c X a O)(k:VE c X b R):∀ds (Q Q':DK) (xe f:XKd),(∀d e,Q d e->Q' d e)->(∀x e,xe x e->f x e)->t2 g O R ds Q xe->t2 g O R ds Q' f:=λds Q Q' xe f l i=>j.m _ _ _ _ _ (λd n=>k.m _ _ _ _ _ (λd h=>qa5 λz=>l z h) i) i
theorem op_ee(s:VE c X a O)(i:VE c X b R)(h:A9 true r g):∀N H Q,Bh c (t2 g O R) N H Q->tOp r (Bh c O) (Bh c R) N H Q:=by
 rintro N H Q ⟨F,t,A,o,S,x,q⟩;refine⟨F,t,A,o,S,x,s.m _ _ _ _ _ (λp j q v H1 F1 T A1 y S1 B C=>?_) (λ_ _ z=>z) q⟩;have e:Oy F H A F1 H1 A1:=C.count λb=>by rw[zA0];lia
 refine⟨F1,j,A1,o,S1,x.step e,i.m _ _ _ _ _ (λD E q w H2 F2 T2 A2 G S2 L I=>?_) (λ_ _ z=>z) q⟩;obtain⟨d,J,q⟩:=qa7.mp q;have f:Oy F1 H1 A1 F2 H2 A2:=I.count λb=>by rw[zA0];lia
 have k:Ow F2 H2 v p T:=y.keep (f.kp S1.ok S1.loc.cells) λb i M=>by have:=B.sep b;rw[zA0] at this;have:=qb1.mp i;lia
 refine h F2 H2 v w p D _ d Q (Fo k G) J λu H3 B3 K l n=>?_;rw[if_pos rfl] at n;exact q u H3 F2 B3 A2 K (S2.same l) (S2.new n l) ((e.trans f).trans (n.stp l))
def t2v(g:D->D->Option D)(O:VT)(fb:FV):VT:=λds Q xe=>O ds (λx ds1=>orF ((fb ds1).bind (g x)) λd=>Q d ds1) xe
theorem qaD0(h:VE c X a O):∀ds (Q Q':DK) (xe e:XKd),(∀d b,Q d b->Q' d b)->(∀x b,xe x b->e x b)->t2v g O fb ds Q xe->t2v g O fb ds Q' e:=λds Q Q' xe e i j=>h.m _ _ _ _ _ (λd f=>qa5 λz=>i z f) j
theorem op_ev(s:VE c X a O)(h:A9 true r g):∀N H Q,Bh c (t2v g O fb) N H Q->tOp r (Bh c O) (liftV c Z fb) N H Q:=by
 rintro N H Q ⟨F,t,A,B,S,x,q⟩;refine⟨F,t,A,B,S,x,s.m _ _ _ _ _ (λC j q v H1 F1 T A1 D S1 L E=>?_) (λ_ _ z=>z) q⟩;have k:Oy F H A F1 H1 A1:=E.count λb=>by rw[zA0];lia
 obtain⟨d,l,q⟩:=qa7.mp q;obtain⟨y,G,l⟩:=zA1.mp l;refine⟨F1,j,A1,y,S1,G,λw H2 B2 I n _=>?_⟩;refine h F1 H2 v w C y _ d Q (Fo (D.same n) I) l λu H3 B3 J K p=>?_;rw[if_pos rfl] at p;have f:=n.trans K;have i:New H1 B3:=⟨p.one,λb o e=>p.new b o (n b o e)⟩;exact q u H3 F1 B3 A1 J (S1.same f) (S1.new i f) (k.trans (i.stp f))
def OpS1(U:Bool)(r:V->Hp->VK->Prop)(g:D->Option D):Prop:=∀F H v x B d (Q:VK),Ow F H v x B->g x=some d->(∀v H' B',Ow F H' v d B'->Same H H'->(if U=true then New H B' else Sub H B B')->Q v H')->r v H Q
def t1(g:D->Option D)(O:VT):VT:=λds Q xe=>O ds (λx ds1=>orF (g x) λd=>Q d ds1) xe
variable{Y:V->Hp->VK->Prop}{g1:D->Option D}
theorem op_v(h:OpS1 U Y g1):∀N H Q,liftV c (U||W) (f1 g1 fa) N H Q->liftV c W fa N H (λx H1=>Y x H1 Q):=by rintro N H Q ⟨F,g,A,d,S,e,q⟩;obtain⟨x,i,j⟩:=qav8.mp e;refine⟨F,g,A,x,S,i,λv H1 B1 Y f k=>?_⟩;refine h F H1 v x _ d Q Y j λu H3 B3 l m a=>?_;refine q u H3 B3 l (f.trans m) λn=>?_;cases U with|true=>rw[if_pos rfl] at a;exact⟨a.one,λb o e=>a.new b o (f b o e)⟩|false=>rw[if_neg ∅] at a;exact a.new (k n) f
end
theorem qZ3(d:Ok F1 H1 (T++A1))(c:Oy F H A F1 H1 (T++A1))(j:∀b∈A1,∃o,H1 b=some o/\Ei o=true)(i:Same H1 H3)(g:Sub H1 T B):Ok F1 H3 (B++A1)/\Oy F H A F1 H3 (B++A1):=by refine⟨⟨λb=>?_,λb f=>?_,λb f=>let ⟨u,e⟩:=d.ex b f;⟨u,i b u e⟩⟩,λb o e q=>i b o (c.fr b o e q),λb o e q=>?_,c.mono,c.fnew⟩;{have:=d.sep b;rw[zA0] at this ⊢;rcases g b with h|⟨h,a⟩;{lia};by_cases k:A1.count b=0;{lia};obtain⟨o,e,_⟩:=j b (qb1.mpr k);rw[e] at a;cases a};{have:=d.fro b f;rw[zA0] at this ⊢;rcases g b with h|⟨h,a⟩;{lia};obtain⟨o,e⟩:=d.ex b f;rw[e] at a;cases a};have:=c.sub b o e q;rw[zA0] at this ⊢;rcases g b with h|⟨h,a⟩;{lia};rw[c.fr b o e q] at a;cases a
section
variable{c:Vc}{X:Cx}{a b:Lb}{oa ob Z:Bool}{fa fb:FV}{r:R2}{g:D->D->Option D}{U Y:VT}
theorem qaZ0(D:VE c X a U)(e:VE c X b Y)(h:A9 false r g):∀R H Q,Bh c (t2 g U Y) R H Q->tOp r (Bh c U) (Bh c Y) R H Q:=by
 rintro R H Q ⟨F,E,A,l,S,x,q⟩;refine⟨F,E,A,l,S,x,D.m _ _ _ _ _ (λn f q v H1 F1 T A1 o S1 p s=>?_) (λ_ _ z=>z) q⟩;have i:Oy F H A F1 H1 A1:=s.count λb=>by rw[zA0];lia
 refine⟨F1,f,A1,l,S1,x.step i,e.m _ _ _ _ _ (λG I q w H2 F2 T2 A2 J S2 K t=>?_) (λ_ _ z=>z) q⟩;obtain⟨d,L,q⟩:=qa7.mp q;have j:Ow F2 H2 v n T:=o.keep (t.kp S1.ok S1.loc.cells) λb e P=>by have:=p.sep b;rw[zA0] at this;have:=qb1.mp e;lia
 obtain⟨y,B⟩:=t.frame p o.cells K;refine h F2 H2 v w n G _ d Q (Fo j J) L λu H3 B3 M C k=>?_;rw[if_neg ∅] at k;rw[<-zAm] at y B;obtain⟨N,O⟩:=qZ3 y (s.trans B) S2.loc.cells C (by rw[zAc] at k;exact k);exact q u H3 F2 B3 A2 M (S2.same C) N O
def Jn(g:D->D->Option D)(U:VT)(fb:FV):VT:=λds Q xe=>U ds (λx ds1=>orF (fb ds1) λy=>y.imm=true/\orF (g x y) λd=>Q d ds1) xe
theorem qar8(h:VE c X a U):∀ds (Q Q':DK) (xe e:XKd),(∀d b,Q d b->Q' d b)->(∀x b,xe x b->e x b)->Jn g U fb ds Q xe->Jn g U fb ds Q' e:=λds Q Q' xe e i j=>h.m _ _ _ _ _ (λd f=>qa5 λy=>Nu (qa5 λz=>i z f)) j
theorem qaY9(p:VE c X a U)(h:A9 false r g):∀R H Q,Bh c (Jn g U fb) R H Q->tOp r (Bh c U) (liftV c ob fb) R H Q:=by rintro R H Q ⟨F,s,A,t,S,x,q⟩;refine⟨F,s,A,t,S,x,p.m _ _ _ _ _ (λB i q v H1 F1 T A1 C S1 D E=>?_) (λ_ _ z=>z) q⟩;obtain⟨y,G,I,q⟩:=qa7.mp q;obtain⟨d,J,q⟩:=qa7.mp q;refine⟨F1,i,A1,y,S1,G,λw H2 B2 k j _=>?_⟩;have:=k.imm I;subst this;refine h F1 H2 v w B y _ d Q (Fo (C.same j) k) J λu H3 B3 K L l=>?_;rw[if_neg ∅,zAc,zAc] at l;have f:=j.trans L;have M:Sub H1 T B3:=λb=>(l b).imp id λ⟨N,n⟩=>⟨N,by cases e:H1 b with|none=>rfl|some o=>rw[j b o e] at n;cases n⟩;obtain⟨O,P⟩:=qZ3 D E S1.loc.cells f M;exact q u H3 F1 B3 A1 K (S1.same f) O P
theorem qa6:VVs c X [] true (λ_=>some []):=⟨PA.mono qm1 λR H Q ⟨F,a,A,b,S,e,q⟩=>by cases e;exact q [] H [] .nil (λ_ _ z=>z) λ_=>New.nil⟩
noncomputable def A5(fa:FV)(a:Ds->Option Ds):Ds->Option Ds:=λds=>(fa ds).bind λx=>(a ds).bind λxs=>some (x::xs)
theorem qav7{fa:FV}{a:Ds->Option Ds}:A5 fa a ds=some xs↔∃x r,fa ds=some x/\a ds=some r/\xs=x::r:=by unfold A5;cases b:fa ds with|none=>simp|some x=>cases c:a ds with|none=>simp|some y=>simp[eq_comm]
theorem qa3(k:VV c X e oa fa)(l:VVs c X es own f)(m:J' (e::es) X.env=(false,eval e X.env)::J' es X.env):VVs c X (e::es) (oa&&own) (A5 fa f):=by refine⟨PA.mono (qc1 k.h l.h m) λR H Q b=>?_⟩;obtain⟨F,g,A,u,S,e,q⟩:=b;obtain⟨x,r,n,e2,rfl⟩:=qav7.mp e;refine⟨F,g,A,x,S,n,λv H1 B1 i d o=>⟨F,g,A,r,S.same d,e2,λp H2 B2 s j t=>?_⟩⟩;refine q (v::p) H2 (B1++B2) (.cons (i.same j) s) (d.trans j) λa=>?_;have a:=zAg.mp a;exact(o a.1).append d i.cells (t a.2)
variable{rc:List V->Hp->VK->Prop}{W:Ds->Option D}
theorem qaQ1(h:OpS Z rc W):∀R H Q,liftV c (Z||own) (λds=>(f ds).bind W) R H Q->tCB rc (qaQ9 c own f) R H Q:=by rintro R H Q ⟨F,ds,A,d,S,e,q⟩;obtain⟨i,j,e2⟩:=zA1.mp e;refine⟨F,ds,A,i,S,j,λk H1 B1 l g m=>h F H1 k i B1 d Q l e2 λu H3 B3 n p a=>q u H3 B3 n (g.trans p) λr=>?_⟩;cases Z with|true=>rw[if_pos rfl] at a;exact⟨a.one,λb o e=>a.new b o (g b o e)⟩|false=>rw[if_neg ∅] at a;exact a.new (m r) g
def tcO(W:Ds->Option D)(t:VTA):VT:=λds Q xe=>t ds (λxs ds1=>orF (W xs) λd=>Q d ds1) xe
theorem qaC8(f:VOs c X es t):∀ds (Q Q':DK) (xe b:XKd),(∀d a,Q d a->Q' d a)->(∀x a,xe x a->b x a)->tcO W t ds Q xe->tcO W t ds Q' b:=λds Q Q' xe b g h=>f.m _ _ _ _ _ (λd e=>qa5 λz=>g z e) h
theorem opc_o(e:VOs c X es t)(h:OpS true rc W):∀R H Q,Bh c (tcO W t) R H Q->tCB rc (qaH9 c t) R H Q:=by rintro R H Q ⟨F,f,A,g,S,x,q⟩;refine⟨F,f,A,g,S,x,e.m _ _ _ _ _ (λi j q k H1 F1 T A1 l S1 n=>?_) (λ_ _ z=>z) q⟩;obtain⟨d,o,q⟩:=qa7.mp q;refine h F1 H1 k i T d Q l o λu H3 B3 p a b=>?_;rw[if_pos rfl] at b;exact q u H3 F1 B3 A1 p (S1.same a) (S1.new b a) (n.trans (b.stp a))
end
def D.kids:D->List D|.q ds=>ds|.l false ds=>ds|.dct false kvs=>kvs.map (·.2)|.ins false _ fs=>fs.map (·.2)|_=>[]
noncomputable def Ig{a:Type}:List (a×D)->Nat->D->List (a×D)|[],_,_=>[]|(k,_)::r,0,x=>(k,x)::r|p::r,n+1,x=>p::Ig r n x
theorem qT6{c:Type}:∀(l:List (c×D))(n:Nat)(x:D),(Ig l n x).map (·.1)=l.map (·.1)/\(Ig l n x).map (·.2)=(l.map (·.2)).set n x|[],_,_=>⟨rfl,rfl⟩|(k,_)::r,0,x=>⟨rfl,rfl⟩|p::r,n+1,x=>by obtain⟨a,b⟩:=qT6 r n x;simp only[Ig,zAz,a,b,List.set_cons_succ,and_self]
def D.setK:D->Nat->D->D|.q ds,n,x=>.q (ds.set n x)|.l z ds,n,x=>.l z (ds.set n x)|.dct z kvs,n,x=>.dct z (Ig kvs n x)|.ins z C fs,n,x=>.ins z C (Ig fs n x)|d,_,_=>d
def Lnk(H:Hp)(u:V)(n:Nat)(w:V):Prop:=∃a,u=.ref a/\((∃vs,H a=some (.q vs)/\vs[n]?=some w)∨(∃vs,H a=some (.l vs)/\vs[n]?=some w)∨(∃kvs,H a=some (.dK kvs)/\(kvs.map (·.2))[n]?=some w)∨∃C dx fs,H a=some (.ins C dx fs)/\(fs.map (·.2))[n]?=some w)
section
variable{F F':γ->Prop}{H H':Hp}
theorem Oo.split:∀{ds:List D}{vs:List V}{A:List γ}{i:Nat}{d:D},Oo F H vs ds A->ds[i]?=some d->∃b v c ds1 a A1 B A2,vs=b++v::c/\ds=ds1++d::a/\b.length=i/\ds1.length=i/\A=A1++(B++A2)/\Oo F H b ds1 A1/\Ow F H v d B/\Oo F H c a A2:=by
 intro ds;induction ds with
 |nil=>intro M A i d _ h;simp at h|cons e r f=>
  intro M A i d L h;cases i with
  |zero=>
   have:e=d:=by simpa using h
   subst this;cases L with|cons q t=>exact⟨[],_,_,[],_,[],_,_,rfl,rfl,rfl,rfl,rfl,.nil,q,t⟩
  |succ i=>
   have h:r[i]?=some d:=by simpa using h
   cases L with|@cons v _ B0 _ _ A0 q t=>obtain⟨σ1,o,σ2,ds1,a,A1,B,A2,g,e2,j,k,l,m,n,p⟩:=f t h;exact⟨v::σ1,o,σ2,_::ds1,a,B0++A1,B,A2,by rw[g];rfl,by rw[e2];rfl,by simp[j],by simp[k],by rw[l,zAm],.cons q m,n,p⟩
theorem Oo.append(r:Oo F H vs ds A)(t:Oo F H a es B):Oo F H (vs++a) (ds++es) (A++B):=by induction vs generalizing ds A with|nil=>cases r;exact t|cons v vs b=>cases r with|cons h c=>rw[zAm];exact .cons h (b c)
theorem Oo.kid(r:Oo F H vs ds A)(h:ds[n]?=some d):∃(w:V)(B C:List γ),vs[n]?=some w/\Ow F H w d B/\(∀b,A.count b=B.count b+C.count b)/\∀{F':γ->Prop}{H':Hp}{W:γ->Prop}(a:D)(B':List γ),Kp F H W F' H'->(∀b∈C,¬W b)->Ow F' H' w a B'->∃A':List γ,Oo F' H' vs (ds.set n a) A'/\∀b,A'.count b=B'.count b+C.count b:=by obtain⟨g,v,i,j,l,A1,B,A2,e,e2,m,o,p,q,s,t⟩:=r.split h;refine⟨v,B,A1++A2,by rw[e];exact qI0 m,s,λb=>by rw[p];simp only[zA0];lia,λ{F' H' W} a B' k f u=>⟨A1++(B'++A2),?_,λb=>by simp only[zA0];lia⟩⟩;rw[e,e2,qt9 o];exact(q.keep k λb c=>f b (zAb.mpr (.inl c))).append (.cons u (t.keep k λb c=>f b (zAb.mpr (.inr c))))
theorem Ow.kid(r:Ow F H s d0 A)(h:d0.kids[n]?=some d):∃(w:V)(B C:List γ),Lnk H s n w/\Ow F H w d B/\(∀b,A.count b=B.count b+C.count b)/\∀{F':γ->Prop}{H':Hp}{W:γ->Prop}(c:D)(B':List γ),Kp F H W F' H'->(∀b∈C,¬W b)->Ow F' H' w c B'->∃A':List γ,Ow F' H' s (d0.setK n c) A'/\∀b,A'.count b=B'.count b+C.count b:=by cases r with|@q a vs ds _ e r=>obtain⟨w,B,C,g,i,j,l⟩:=r.kid h;refine⟨w,B,C,⟨a,rfl,.inl ⟨vs,e,g⟩⟩,i,j,λ{F' H' W} c B' k f m=>?_⟩;obtain⟨A',o,q2⟩:=l c B' k f m;exact⟨A',.q (k.q e) o,q2⟩|@l a vs ds A e r=>obtain⟨w,B,C,g,i,j,l⟩:=r.kid h;refine⟨w,B,a::C,⟨a,rfl,.inr (.inl ⟨vs,e,g⟩)⟩,i,λb=>by rw[zAp,zAp,j];lia,λ{F' H' W} c B' k f m=>?_⟩;obtain⟨A',o,q2⟩:=l c B' k (λb p=>f b (zA6 _ p)) m;exact⟨a::A',.l (k.fr a _ e (f a zA9)) o,λb=>by rw[zAp,zAp,q2];lia⟩|@dct a kvs kds A e q r=>obtain⟨w,B,C,g,i,j,l⟩:=r.kid h;refine⟨w,B,a::C,⟨a,rfl,.inr (.inr (.inl ⟨kvs,e,g⟩))⟩,i,λb=>by rw[zAp,zAp,j];lia,λ{F' H' W} c B' k f m=>?_⟩;obtain⟨A',o,q2⟩:=l c B' k (λb p=>f b (zA6 _ p)) m;obtain⟨t,u⟩:=qT6 kds n c;exact⟨a::A',.dct (k.fr a _ e (f a zA9)) (q.trans t.symm) (by rw[u];exact o),λb=>by rw[zAp,zAp,q2];lia⟩|@ins a C0 dx fvs fds A e q r=>obtain⟨w,B,C,g,i,j,l⟩:=r.kid (n:=n) h;refine⟨w,B,a::C,⟨a,rfl,.inr (.inr (.inr ⟨C0,dx,fvs,e,g⟩))⟩,i,λb=>by rw[zAp,zAp,j];lia,λ{F' H' W} c B' k f m=>?_⟩;obtain⟨A',o,q2⟩:=l c B' k (λb p=>f b (zA6 _ p)) m;obtain⟨t,u⟩:=qT6 fds n c;exact⟨a::A',.ins (k.fr a _ e (f a zA9)) (q.trans t.symm) (by rw[u];exact o),λb=>by rw[zAp,zAp,q2];lia⟩|_=>cases (show (none:Option D)=some _ from h)
def D.getP:D->List Nat->Option D|d,[]=>some d|d,n::p=>match d.kids[n]? with|some e=>e.getP p|none=>none
def D.setP:D->List Nat->D->D|_,[],x=>x|d,n::p,x=>match d.kids[n]? with|some e=>d.setK n (e.setP p x)|none=>d
def Walk(H:Hp):V->List Nat->V->Prop|u,[],w=>u=w|u,n::p,w=>∃v,Lnk H u n v/\Walk H v p w
theorem Ow.path:∀{p:List Nat}{a:V}{d0 d:D}{A:List γ},Ow F H a d0 A->d0.getP p=some d->∃(w:V)(B C:List γ),Walk H a p w/\Ow F H w d B/\(∀b,A.count b=B.count b+C.count b)/\∀{F':γ->Prop}{H':Hp}{W:γ->Prop}(c:D)(B':List γ),Kp F H W F' H'->(∀b∈C,¬W b)->Ow F' H' w c B'->∃A':List γ,Ow F' H' a (d0.setP p c) A'/\∀b,A'.count b=B'.count b+C.count b:=by intro p;induction p with|nil=>intro a d0 d A r h;cases h;exact⟨a,A,[],rfl,r,λb=>by simp,λ{F' H' W} c B' k g i=>⟨B',i,λb=>by simp⟩⟩|cons n p l=>intro a d0 d A r h;unfold D.getP at h;cases f:d0.kids[n]? with|none=>rw[f] at h;cases h|some e=>rw[f] at h;obtain⟨m,B1,C1,o,q,s,t⟩:=r.kid f;obtain⟨w,B,C,u,v,x,y⟩:=l q h;refine⟨w,B,C++C1,⟨m,o,u⟩,v,λb=>by rw[s,x,zA0];lia,λ{F' H' W} c B' k g i=>?_⟩;obtain⟨A1,z,q2⟩:=y c B' k (λb j=>g b (zAb.mpr (.inl j))) i;obtain⟨A2,E,G⟩:=t (e.setP p c) A1 k (λb j=>g b (zAb.mpr (.inr j))) z;refine⟨A2,?_,λb=>by rw[G,q2,zA0];lia⟩;unfold D.setP;rw[f];exact E
def A4(ds:Ds)(i:Nat)(p:List Nat):Option D:=match ds[i]? with|some d=>d.getP p|none=>none
def Bd(ds:Ds)(i:Nat)(p:List Nat)(x:D):Ds:=match ds[i]? with|some d=>ds.set i (d.setP p x)|none=>ds
theorem qao7(h:D.getP .u p=some d):p=[]/\d=.u:=by cases p with|nil=>cases h;exact⟨rfl,rfl⟩|cons n p=>cases (show (none:Option D)=some _ from h)
theorem Locs.place(L:Locs F H M ds A)(h:A4 ds i p=some d)(j:d≠.u):∃(u w:V)(B C:List γ),M[i]?=some (some u)/\Walk H u p w/\Ow F H w d B/\(∀b,A.count b=B.count b+C.count b)/\∀{F':γ->Prop}{H':Hp}{W:γ->Prop}(c:D)(B':List γ),Kp F H W F' H'->(∀b∈C,¬W b)->Ow F' H' w c B'->∃A':List γ,Locs F' H' M (Bd ds i p c) A'/\∀b,A'.count b=B'.count b+C.count b:=by unfold A4 at h;cases e:ds[i]? with|none=>rw[e] at h;cases h|some K=>rw[e] at h;obtain⟨σ1,o,σ2,l,m,A1,B0,A2,g,e2,n,q,s,t,v,x⟩:=L.split e;cases v with|no=>exact absurd (qao7 h).2 j|@so u _ _ r=>obtain⟨w,B,C,y,z,E,G⟩:=r.path h;refine⟨u,w,B,A1++(C++A2),by rw[g];exact qI0 n,y,z,λb=>by rw[s];simp only[zA0,E];lia,λ{F' H' W} c B' k f I=>?_⟩;obtain⟨A',J,q2⟩:=G c B' k (λb a=>f b (zAb.mpr (.inr (zAb.mpr (.inl a))))) I;refine⟨A1++(A'++A2),?_,λb=>by simp only[zA0,q2];lia⟩;unfold Bd;rw[e,g];dsimp only;rw[e2,qt9 q];exact(t.keep k λb a=>f b (zAb.mpr (.inl a))).append (.so J (x.keep k λb a=>f b (zAb.mpr (.inr (zAb.mpr (.inr a))))))
theorem Lnk.fn(h:Lnk H u n v)(h':Lnk H u n w):v=w:=by obtain⟨a,rfl,h⟩:=h;obtain⟨b,e,h'⟩:=h';cases e;rcases h with⟨vs,e,h⟩|⟨vs,e,h⟩|⟨vs,e,h⟩|⟨C,dx,vs,e,h⟩<;>rcases h' with⟨vs',e',h'⟩|⟨vs',e',h'⟩|⟨vs',e',h'⟩|⟨C',dx',vs',e',h'⟩<;>rw[e] at e'<;>cases e'<;>rw[h] at h'<;>exact Nv h'
theorem Walk.fn:∀{p:List Nat}{u v w:V},Walk H u p v->Walk H u p w->v=w|[],_,_,_,h,h'=>h.symm.trans h'|n::p,_,_,_,⟨x,h1,h2⟩,⟨y,h3,h4⟩=>by cases h1.fn h3;exact Walk.fn h2 h4
theorem Lnk.same(h:Lnk H u n v)(s:Same H H'):Lnk H' u n v:=by obtain⟨a,rfl,h⟩:=h;refine⟨a,rfl,?_⟩;rcases h with⟨vs,e,h⟩|⟨vs,e,h⟩|⟨vs,e,h⟩|⟨C,dx,vs,e,h⟩;{exact .inl ⟨vs,s _ _ e,h⟩};{exact .inr (.inl ⟨vs,s _ _ e,h⟩)};{exact .inr (.inr (.inl ⟨vs,s _ _ e,h⟩))};exact .inr (.inr (.inr ⟨C,dx,vs,s _ _ e,h⟩))
theorem Walk.same:∀{p:List Nat}{u v:V},Walk H u p v->Same H H'->Walk H' u p v|[],_,_,h,_=>h|n::p,_,_,⟨x,h1,h2⟩,s=>⟨x,h1.same s,h2.same s⟩
end
section
variable{c:Vc}{X:Cx}{b:Lb}{V:Bool}{r:R2}{g:D->D->Option D}{U:VT}
def t2n(g:D->D->Option D)(i:Nat)(U:VT):VT:=λds Q xe=>(rdN i ds).isSome=true/\U ds (λy ds1=>orF ((rdN i ds1).bind λx=>g x y) λd=>Q d ds1) xe
theorem qaD1(h:VE c X b U):∀ds (Q Q':DK) (xe e:XKd),(∀d a,Q d a->Q' d a)->(∀x a,xe x a->e x a)->t2n g i U ds Q xe->t2n g i U ds Q' e:=λds Q Q' xe e j k=>Nu (h.m _ _ _ _ _ (λd f=>qa5 λz=>j z f) k)
theorem Oz.name(S:Oz c F H R ds A)(hi:i<R.length)(h:rdN i ds=some d):∃v B,R[i]?=some (some v)/\Ow F H v d B/\∀b,B.count b<=A.count b:=let ⟨e,k⟩:=qm8.mp h
 S.at hi e k
theorem op_ne(o:VE c X b U)(h:A9 true r g)(hi:i<R.length)(q:Bh c (t2n g i U) R H Q):tOp r (Fk i) (Bh c U) R H Q:=by
 obtain⟨F,p,A,s,S,x,t,q⟩:=q;obtain⟨L,e⟩:=zB1.mp t;obtain⟨v,B0,n,_,_⟩:=S.name hi e;refine⟨v,n,F,p,A,s,S,x,o.m _ _ _ _ _ (λC D q w H1 F1 T A1 E S1 M G=>?_) (λ_ _ z=>z) q⟩;have f:Oy F H A F1 H1 A1:=G.count λb=>by rw[zA0];lia
 obtain⟨d,j,q⟩:=qa7.mp q;obtain⟨y,I,j⟩:=zA1.mp j;obtain⟨N,B,a,J,_⟩:=S1.name hi I;rw[n] at a;cases a;refine h F1 H1 v w y C _ d Q (Fo J E) j λu H3 B3 K k l=>?_;rw[if_pos rfl] at l;exact q u H3 F1 B3 A1 K (S1.same k) (S1.new l k) (f.trans (l.stp k))
def Jo(g:D->D->Option D)(i:Nat)(U:VT):VT:=λds Q xe=>(rdN i ds).isSome=true/\U ds (λy ds1=>orF ((rdN i ds1).bind λx=>g x y) λd=>d.imm=true/\Q d ds1) xe
theorem qar9(h:VE c X b U):∀ds (Q Q':DK) (xe e:XKd),(∀d a,Q d a->Q' d a)->(∀x a,xe x a->e x a)->Jo g i U ds Q xe->Jo g i U ds Q' e:=λds Q Q' xe e j k=>Nu (h.m _ _ _ _ _ (λd f=>qa5 λz=>Nu (j z f)) k)
theorem qaY5{R:St}{H:Hp}(o:VE c X b U)(h:A9 V r g)(hi:i<R.length)(q:Bh c (Jo g i U) R H Q):tOp r (Fk i) (Bh c U) R H Q:=by
 obtain⟨F,p,A,s,S,x,t,q⟩:=q;obtain⟨L,e⟩:=zB1.mp t;obtain⟨v,B0,l,_,_⟩:=S.name hi e;refine⟨v,l,F,p,A,s,S,x,o.m _ _ _ _ _ (λC D q w H1 F1 T A1 E S1 M G=>?_) (λ_ _ z=>z) q⟩;have f:Oy F H A F1 H1 A1:=G.count λb=>by rw[zA0];lia
 obtain⟨d,j,I,q⟩:=qa7.mp q;obtain⟨y,J,j⟩:=zA1.mp j;obtain⟨N,B,a,K,_⟩:=S1.name hi J;rw[l] at a;cases a;refine h F1 H1 v w y C _ d Q (Fo K E) j λu H3 B3 n k O=>?_;have:=n.imm I;subst this;exact q u H3 F1 [] A1 n (S1.same k) (S1.ok.same k) (f.trans (.same k))
end
section
variable{F:γ->Prop}{H:Hp}{K:Nx}
theorem Ow.lst_inv(r:Ow F H v (.l z ds) B):∃a vs A,v=.ref a/\H a=some (.l vs)/\Oo F H vs ds A/\∀b,A.count b<=B.count b:=by cases r with|l h r=>exact⟨_,_,_,rfl,h,r,λb=>by rw[zAp];lia⟩|lstZ h f r=>exact⟨_,_,_,rfl,h,r,λb=>zA2 _⟩
theorem Ow.tup_inv(r:Ow F H v (.q ds) B):∃a vs,v=.ref a/\H a=some (.q vs)/\Oo F H vs ds B:=by cases r with|q h r=>exact⟨_,_,rfl,h,r⟩
theorem Ow.dct_inv(r:Ow F H v (.dct z c) B):∃a kvs A,v=.ref a/\H a=some (.dK kvs)/\kvs.map (·.1)=c.map (·.1)/\Oo F H (kvs.map (·.2)) (c.map (·.2)) A/\∀b,A.count b<=B.count b:=by cases r with|dct h e r=>exact⟨_,_,_,rfl,h,e,r,λb=>by rw[zAp];lia⟩|dctZ h f e r=>exact⟨_,_,_,rfl,h,e,r,λb=>zA2 _⟩
theorem Ow.ins_inv(r:Ow F H v (.ins z C c) B):∃a dx d A,v=.ref a/\H a=some (.ins C dx d)/\d.map (·.1)=c.map (·.1)/\Oo F H (d.map (·.2)) (c.map (·.2)) A/\∀b,A.count b<=B.count b:=by cases r with|ins h e r=>exact⟨_,_,_,_,rfl,h,e,r,λb=>by rw[zAp];lia⟩|insZ h f e r=>exact⟨_,_,_,_,rfl,h,e,r,λb=>zA2 _⟩
noncomputable def D.elems:D->Option Ds|.l _ ds=>some ds|.q ds=>some ds|_=>none
theorem Ow.elems(r:Ow F H v d B)(h:d.elems=some ds):∃a vs A,v=.ref a/\(SqL K H a vs∨SqT K H a vs)/\Oo F H vs ds A/\∀b,A.count b<=B.count b:=by cases d with|l z c=>cases h;obtain⟨a,vs,A,e,h,r,q⟩:=r.lst_inv;exact⟨a,vs,A,e,.inl (.inl (.inl h)),r,q⟩|q c=>cases h;obtain⟨a,vs,e,h,r⟩:=r.tup_inv;exact⟨a,vs,_,e,.inr (.inl (.inl h)),r,λ_=>zA2 _⟩|_=>cases h
theorem Oo.len(r:Oo F H vs ds A):vs.length=ds.length:=by induction vs generalizing ds A with|nil=>cases r;rfl|cons v vs a=>cases r with|cons h t=>simp[a t]
theorem qh8(a:H p=none):New H [p]:=⟨λb=>by rw[zAp];simp;split<;>lia,λb o e=>by
 have:b≠p:=λz=>by rw[z,a] at e;cases e
 simp[zAp,Ne.symm this]⟩
theorem qD4(a:H p=none)(r:Oo F H vs ds []):Ow F (upd H p (.l vs)) (.ref p) (.l false ds) [p]:=.l qb8 (r.same (Same.new a))
theorem qal8(a:H p=none)(r:Oo F H vs ds A):Ow F (upd H p (.q vs)) (.ref p) (.q ds) A:=.q qb8 (r.same (Same.new a))
theorem Oo.get(r:Oo F H vs ds A)(h:ds[n]?=some d):∃w B,vs[n]?=some w/\Ow F H w d B/\∀b,B.count b<=A.count b:=by obtain⟨w,B,C,a,c,e,_⟩:=r.kid h;exact⟨w,B,a,c,λb=>by have:=e b;lia⟩
theorem Oo.atI{ds:List D}{A:List γ}{i:Int}{d:D}(r:Oo F H vs ds A)(h:L2.atI ds i=some d):∃w B,L2.atI vs i=some w/\Ow F H w d B/\∀b,B.count b<=A.count b:=by unfold L2.atI at h ⊢;rw[r.len];cases e:ixN ds.length i with|none=>rw[e] at h;cases h|some j=>rw[e] at h;exact r.get h
theorem Oo.sub(r:Oo F H vs ds A)(n m:Nat):∃B,Oo F H ((vs.drop n).take m) ((ds.drop n).take m) B/\∀b,B.count b<=A.count b:=by induction n generalizing vs ds A with|zero=>(induction m generalizing vs ds A with|zero=>exact⟨[],.nil,λb=>by simp⟩|succ m a=>cases r with|nil=>exact⟨[],.nil,λb=>by simp⟩|cons h t=>obtain⟨B,c,q2⟩:=a t;exact⟨_,.cons h (by simpa using c),λb=>by simp only[zA0];have:=q2 b;lia⟩)|succ n a=>cases r with|nil=>exact⟨[],by simpa using Oo.nil,λb=>by simp⟩|cons h t=>obtain⟨B,c,q2⟩:=a t;exact⟨B,by simpa using c,λb=>by simp only[zA0];have:=q2 b;lia⟩
noncomputable def D.flat:D->Option V|.non=>some .non|.bl b=>some (.bl b)|.int i=>some (.int i)|.str x=>some (.str x)|_=>none
theorem Ow.flat(r:Ow F H v d B)(h:d.flat=some w):v=w/\flatV v=true:=by cases r<;>cases h<;>exact⟨rfl,rfl⟩
end
noncomputable def big:Nat:=1000000
theorem qk2:big<=Kl:=∅
section
variable{F:γ->Prop}{H:Hp}
theorem Oo.imms0(r:Oo F H vs ds A)(h:D.imms ds=true):Oo F H vs ds []:=by have:=r.imms h;subst this;exact r
theorem Oo.rep(r:Oo F H vs ds []):∀k:Nat,Oo F H (Ls k vs).flatten (Ls k ds).flatten []|0=>.nil|k+1=>by rw[zBp,zBp,zC7,zC7];exact r.append (B:=[]) (r.rep k)
end
noncomputable def gd(p:Prop)[Decidable p](d:D):Option D:=if p then some d else none
theorem qk9{p:Prop}[Decidable p](h:gd p d=some e):p/\d=e:=by unfold gd at h;split at h;{rename_i hp;exact⟨hp,Nv h⟩};cases h
theorem qi1{p:Prop}[Decidable p](h:p):gd p d=some d:=if_pos h
def Gk:D->D->Option D|.int i,.int j=>some (.int (i+j))|.str a,.str b=>gd (a.length+b.length<=big) (.str (a++b))|.l _ xs,.l _ ys=>gd (D.imms xs=true/\D.imms ys=true/\xs.length+ys.length<=big) (.l false (xs++ys))|_,_=>none
def rAddA:R2:=λx y H Q=>rI0 (λi j=>.int (i+j)) x y H Q∨(∃i j,x=.str i/\y=.str j/\i.length+j.length<=Kl/\Q (.str (i++j)) H)∨rCat x y H Q
theorem qn2:OpR X (K5 .Add) rAddA:=qaZ2.or (qal2.or qaZ1)
theorem Oo.both{F:γ->Prop}{H:Hp}{x y:D}{B:List γ}(r:Oo F H [v,w] [x,y] B):∃A A2,Ow F H v x A/\Ow F H w y A2:=by cases r with|cons a t=>cases t with|cons b _=>exact⟨_,_,a,b⟩
theorem Ow.int_inv{F:γ->Prop}{H:Hp}{i:Int}{A:List γ}(r:Ow F H v (.int i) A):v=.int i:=by cases r;rfl
theorem Ow.bl_inv{F:γ->Prop}{H:Hp}{b:Bool}{A:List γ}(r:Ow F H v (.bl b) A):v=.bl b:=by cases r;rfl
theorem Ow.str_inv{F:γ->Prop}{H:Hp}{b:Str}{A:List γ}(r:Ow F H v (.str b) A):v=.str b:=by cases r;rfl
theorem qaJ5{x y d:D}(h:Gk x y=some d):(∃i j,x=.int i/\y=.int j/\d=.int (i+j))∨(∃a b,x=.str a/\y=.str b/\a.length+b.length<=big/\d=.str (a++b))∨∃z z' xs ys,x=.l z xs/\y=.l z' ys/\(D.imms xs=true/\D.imms ys=true/\xs.length+ys.length<=big)/\d=.l false (xs++ys):=by unfold Gk at h;split at h;{exact .inl ⟨_,_,rfl,rfl,(Nv h).symm⟩};{exact .inr (.inl ⟨_,_,rfl,rfl,(qk9 h).1,(qk9 h).2.symm⟩)};{exact .inr (.inr ⟨_,_,_,_,rfl,rfl,(qk9 h).1,(qk9 h).2.symm⟩)};cases h
theorem qn1:A9 true rAddA Gk:=by intro F H v w x y B d Q r h q;obtain⟨A,A2,c,e⟩:=r.both;rcases qaJ5 h with⟨i,j,rfl,rfl,rfl⟩|⟨a,b,rfl,rfl,hl,rfl⟩|⟨z,z2,xs,ys,rfl,rfl,hl,rfl⟩;{exact .inl ⟨i,j,c.int_inv,e.int_inv,q _ H [] (.int _) (λ_ _ z=>z) New.nil⟩};{exact .inr (.inl ⟨a,b,c.str_inv,e.str_inv,zAi hl qk2,q _ H [] (.str _) (λ_ _ z=>z) New.nil⟩)};obtain⟨a,k,_,l,m,g,_⟩:=c.lst_inv;obtain⟨b,n,_,e2,o,q2,_⟩:=e.lst_inv;refine .inr (.inr ⟨a,b,k,n,l,e2,m,o,by rw[g.len,q2.len];exact zAi hl.2.2 qk2,λp f=>?_⟩);exact q _ _ [p] (qD4 f ((g.imms0 hl.1).append (q2.imms0 hl.2.1))) (Same.new f) (qh8 f)
noncomputable def small(i:Int):Bool:=decide (-(2 ^ 64)<i)&&decide (i<2 ^ 64)
theorem qY0{i:Int}(h:small i=true):-(2 ^ 64)<i/\i<2 ^ 64:=by have:=zAg.mp h;exact⟨zA8 this.1,zA8 this.2⟩
def Fp:D->D->Option D|.int i,.int j=>gd ((small i||small j)=true) (.int (i*j))|.l _ xs,.int k=>gd (D.imms xs=true/\xs.length*k.toNat<=big/\k<1000000/\-1000000<k) (.l false (Ls k.toNat xs).flatten)|_,_=>none
def Jp:R2:=λx y H Q=>rI CMul (λi j=>.int (i*j)) x y H Q∨rRep x y H Q
theorem qj3:OpR X (K5 .Mult) Jp:=qaY6.or qaY3
theorem qaJ2{x y d:D}(h:Fp x y=some d):(∃i j,x=.int i/\y=.int j/\(small i||small j)=true/\d=.int (i*j))∨∃z xs k,x=.l z xs/\y=.int k/\(D.imms xs=true/\xs.length*k.toNat<=big/\k<1000000/\-1000000<k)/\d=.l false (Ls k.toNat xs).flatten:=by unfold Fp at h;split at h;{exact .inl ⟨_,_,rfl,rfl,(qk9 h).1,(qk9 h).2.symm⟩};{exact .inr ⟨_,_,_,rfl,rfl,(qk9 h).1,(qk9 h).2.symm⟩};cases h
theorem qk0:A9 true Jp Fp:=by intro F H v w x y B d Q r h q;obtain⟨A,A2,c,e⟩:=r.both;rcases qaJ2 h with⟨i,j,rfl,rfl,hl,rfl⟩|⟨z,xs,k,rfl,rfl,hl,rfl⟩;{exact .inl ⟨i,j,c.int_inv,e.int_inv,(Bool.or_eq_true_iff.mp hl).imp qY0 qY0,q _ H [] (.int _) (λ_ _ z=>z) New.nil⟩};obtain⟨a,g,_,l,m,f,_⟩:=c.lst_inv;refine .inr ⟨a,k,g,l,e.int_inv,m,⋯,⋯,by rw[f.len];exact zAi hl.2.1 qk2,λp b=>?_⟩;exact q _ _ [p] (qD4 b ((f.imms0 hl.1).rep _)) (Same.new b) (qh8 b)
def gI(p:Int->Int->Bool)(f:Int->Int->D):D->D->Option D|.int i,.int j=>gd (p i j=true) (f i j)|_,_=>none
theorem qaT9{p:Int->Int->Bool}{f:Int->Int->D}{x y d:D}(h:gI p f x y=some d):∃i j,x=.int i/\y=.int j/\p i j=true/\d=f i j:=by unfold gI at h;split at h;{exact⟨_,_,rfl,rfl,(qk9 h).1,(qk9 h).2.symm⟩};cases h
theorem os_I(b:∀i j,p i j=true->C i j)(c:∀F H i j,Ow F H (a i j) (f i j) []):A9 true (rI C a) (gI p f):=by intro F H v w x y B d Q r h q;obtain⟨A,A2,e,g⟩:=r.both;obtain⟨i,j,rfl,rfl,k,rfl⟩:=qaT9 h;exact⟨i,j,e.int_inv,g.int_inv,b i j k,q _ H [] (c F H i j) (λ_ _ z=>z) New.nil⟩
theorem Gm(b:∀F H i j,Ow F H (a i j) (f i j) []):A9 true (rI0 a) (gI (λ_ _=>true) f):=by intro F H v w x y B d Q r h q;obtain⟨i,j,c,e,_,g⟩:=os_I (λ_ _ _=>trivial) b F H v w x y B d Q r h q;exact⟨i,j,c,e,g⟩
def gSub:=gI (λ_ _=>true) λi j=>.int (i-j)
def gDiv:=gI (λ_ j=>decide (0<j)&&decide (j<2 ^ 200)) λi j=>.int (i/j)
def Ih:=gI (λ_ j=>decide (0<j)) λi j=>.int (i%j)
def gLt:=gI (λ_ _=>true) λi j=>.bl (decide (i<j))
def gLe:=gI (λ_ _=>true) λi j=>.bl (decide (i<=j))
def gGt:=gI (λ_ _=>true) λi j=>.bl (decide (j<i))
def gGe:=gI (λ_ _=>true) λi j=>.bl (decide (j<=i))
theorem qK6:A9 true (rI0 λi j=>.int (i-j)) gSub:=Gm λ_ _ _ _=>.int _
theorem Ii:A9 true (rI CDivB λi j=>.int (i/j)) gDiv:=os_I (λi j h=>by
 have:=zAg.mp h
 exact⟨zA8 this.1,zA8 this.2⟩) λ_ _ _ _=>.int _
theorem qo2:A9 true (rI (λ_ j=>0<j) λi j=>.int (i%j)) Ih:=os_I (λi j h=>zA8 h) λ_ _ _ _=>.int _
theorem Et:A9 true (rI0 λi j=>.bl (decide (i<j))) gLt:=Gm λ_ _ _ _=>.bl _
theorem os_le:A9 true (rI0 λi j=>.bl (decide (i<=j))) gLe:=Gm λ_ _ _ _=>.bl _
theorem Bn:A9 true (rI0 λi j=>.bl (decide (j<i))) gGt:=Gm λ_ _ _ _=>.bl _
theorem Jq:A9 true (rI0 λi j=>.bl (decide (j<=i))) gGe:=Gm λ_ _ _ _=>.bl _
noncomputable def D.isN:D->Option Bool|.non=>some true|.u=>none|.hole _=>none|_=>some false
theorem Ow.isN(r:Ow F H v d B)(h:d.isN=some b):decide (v=.non)=b:=by cases r<;>cases h<;>rfl
def gIs:D->D->Option D|x,.non=>x.isN.map .bl|.bl a,.bl b=>some (.bl (a==b))|_,_=>none
def rIs:R2:=λx y H Q=>(y=.non/\Q (.bl (decide (x=.non))) H)∨(∃b c,x=.bl b/\y=.bl c/\Q (.bl (b==c)) H)
theorem qaT8{x y d:D}(h:gIs x y=some d):(y=.non/\∃b,x.isN=some b/\d=.bl b)∨∃a b,x=.bl a/\y=.bl b/\d=.bl (a==b):=by unfold gIs at h;split at h;{obtain⟨b,e,h⟩:=zA7.mp h;exact .inl ⟨rfl,b,e,h.symm⟩};{exact .inr ⟨_,_,rfl,rfl,(Nv h).symm⟩};cases h
theorem Ow.non_inv{F:γ->Prop}{H:Hp}{A:List γ}(r:Ow F H v .non A):v=.non:=zA8 (r.isN rfl)
theorem Eu:A9 true rIs gIs:=by intro F H v w x y B d Q r h q;obtain⟨A,A2,c,f⟩:=r.both;rcases qaT8 h with⟨rfl,b,e,rfl⟩|⟨a,b,rfl,rfl,rfl⟩;{refine .inl ⟨f.non_inv,?_⟩;rw[c.isN e];exact q _ H [] (.bl _) (λ_ _ z=>z) New.nil};exact .inr ⟨a,b,c.bl_inv,f.bl_inv,q _ H [] (.bl _) (λ_ _ z=>z) New.nil⟩
theorem Ev:OpR X (Km .Is) rIs:=qaY7.or qaY8
theorem qaQ3:OpR X (Km .IsNot) (λx y H Q=>∃b c,x=.bl b/\y=.bl c/\Q (.bl (b != c)) H):=by intro Dg s f H x y v u Q I a d ⟨b,c,e,e2,q⟩;subst e;subst e2;cases a;cases d;exact PyProof.Rows.isnot_bool ⟨.bl (b != c),H,I,rfl,q⟩
def gIsn:D->D->Option D|x,.non=>x.isN.map λb=>.bl (!b)|.bl a,.bl b=>some (.bl (a != b))|_,_=>none
def rIsn:R2:=λx y H Q=>(y=.non/\Q (.bl (!decide (x=.non))) H)∨(∃b c,x=.bl b/\y=.bl c/\Q (.bl (b != c)) H)
theorem qaJ3{x y d:D}(h:gIsn x y=some d):(y=.non/\∃b,x.isN=some b/\d=.bl !b)∨∃a b,x=.bl a/\y=.bl b/\d=.bl (a != b):=by unfold gIsn at h;split at h;{obtain⟨b,e,h⟩:=zA7.mp h;exact .inl ⟨rfl,b,e,h.symm⟩};{exact .inr ⟨_,_,rfl,rfl,(Nv h).symm⟩};cases h
theorem qs2:A9 true rIsn gIsn:=by intro F H v w x y B d Q r h q;obtain⟨A,A2,c,f⟩:=r.both;rcases qaJ3 h with⟨rfl,b,e,rfl⟩|⟨a,b,rfl,rfl,rfl⟩;{refine .inl ⟨f.non_inv,?_⟩;rw[c.isN e];exact q _ H [] (.bl _) (λ_ _ z=>z) New.nil};exact .inr ⟨a,b,c.bl_inv,f.bl_inv,q _ H [] (.bl _) (λ_ _ z=>z) New.nil⟩
theorem qm2:OpR X (Km .IsNot) rIsn:=qaQ2.or qaQ3
noncomputable def Dl(f:D->D->Option Bool):List D->List D->Option Bool|[],[]=>some true|x::xs,y::ys=>(f x y).bind λa=>(Dl f xs ys).bind λb=>some (a&&b)|_,_=>some false
def eqF(x y:D):Option Bool:=match x.flat,y.flat with|some v,some w=>some (eqV v w)|_,_=>none
def eqZ(x y:D):Option Bool:=eqF x y
def eqN:Nat->D->D->Option Bool|0,x,y=>eqZ x y|n+1,.l _ xs,.l _ ys=>Dl (eqN n) xs ys|n+1,.q xs,.q ys=>Dl (eqN n) xs ys|_,x,y=>eqZ x y
theorem qE4{f:D->D->Option Bool}:∀{xs ys:List D}{b:Bool},Dl f xs ys=some b->∃e:Nat->Bool,(∀i x y,xs[i]?=some x->ys[i]?=some y->f x y=some (e i))/\b=((Lr (min xs.length ys.length)).all e&&xs.length==ys.length)
 |[],[],b,h=>by cases h;exact⟨λ_=>true,λi x y h=>by simp at h,by simp⟩|[],y::ys,b,h=>by cases h;exact⟨λ_=>true,λi x y h=>by simp at h,by simp⟩|x::xs,[],b,h=>by cases h;exact⟨λ_=>true,λi x y _ h=>by simp at h,by simp⟩|x::xs,y::ys,b,h=>by
  obtain⟨a,k,h⟩:=zA1.mp h;obtain⟨o,l,h⟩:=zA1.mp h;cases h;obtain⟨e,m,q2⟩:=qE4 l;refine⟨λi=>match i with|0=>a|i+1=>e i,λi c d g j=>?_,?_⟩
  .cases i with
   |zero=>
    have n:x=c:=by simpa using g
    have e2:y=d:=by simpa using j
    subst n;subst e2;exact k
   |succ i=>exact m i c d (by simpa using g) (by simpa using j)
  rw[q2,zAq,zAq,Nat.add_min_add_right,List.range_succ_eq_map,Ly,Nh];have:(xs.length+1==ys.length+1)=(xs.length==ys.length):=by by_cases h:xs.length=ys.length;{simp[h]};simp[h]
  rw[this,<-Bool.and_assoc];rfl
section
variable{F:γ->Prop}{H:Hp}
theorem Ow.eqF(r1:Ow F H v x A)(c:Ow F H w y B)(h:LV.eqF x y=some b):flatV v=true/\flatV w=true/\eqV v w=b:=by unfold LV.eqF at h;cases a:x.flat with|none=>rw[a] at h;cases h|some d=>cases e2:y.flat with|none=>rw[a,e2] at h;cases h|some e=>rw[a,e2] at h;obtain⟨rfl,f1⟩:=r1.flat a;obtain⟨rfl,f2⟩:=c.flat e2;exact⟨f1,f2,Nv h⟩
theorem qab0(n:Nat)(x y:D):(eqN (n+1) x y=LV.eqZ x y)∨(∃z xs z' ys,x=.l z xs/\y=.l z' ys)∨∃xs ys,x=.q xs/\y=.q ys:=by cases x with|l z xs=>(cases y with|l z' ys=>exact .inr (.inl ⟨_,_,_,_,rfl,rfl⟩)|_=>exact .inl rfl)|q xs=>(cases y with|q ys=>exact .inr (.inr ⟨_,_,rfl,rfl⟩)|_=>exact .inl rfl)|_=>exact .inl rfl
theorem qW7(x y:D):eqN 0 x y=LV.eqZ x y:=rfl
theorem qab1(f:∀{v:V}{x y:D}{A B:List γ}{b:Bool},Ow F H v x A->Ow F H v y B->eqN n x y=some b->b=true):∀{vs:List V}{xs ys:List D}{A B:List γ}{b:Bool},Oo F H vs xs A->Oo F H vs ys B->Dl (eqN n) xs ys=some b->b=true:=by
 intro vs;induction vs with
 |nil=>intro xs ys A B b c d h;cases c;cases d;cases h;rfl|cons v vs e=>
  intro xs ys A B b c d h;cases c with|cons p1 t1=>cases d with|cons g t2=>
  obtain⟨a,i,h⟩:=zA1.mp h;obtain⟨k,j,h⟩:=zA1.mp h;cases h;rw[f p1 g i,e t1 t2 j];rfl
theorem qap4:∀{n:Nat}{v:V}{x y:D}{A B:List γ}{b:Bool},Ow F H v x A->Ow F H v y B->eqN n x y=some b->b=true:=by intro n;induction n with|zero=>intro v x y A B b c d h;rw[qW7] at h;obtain⟨f1,f2,rfl⟩:=c.eqF d h;exact qE2 f1|succ n k=>intro v x y A B b c d h;rcases qab0 n x y with e|⟨z,l,q,m,rfl,rfl⟩|⟨l,m,rfl,rfl⟩;{rw[e] at h;obtain⟨f1,f2,rfl⟩:=c.eqF d h;exact qE2 f1};{obtain⟨a,o,_,rfl,g,i,_⟩:=c.lst_inv;obtain⟨p,j,_,e,f,q2,_⟩:=d.lst_inv;cases e;rw[g] at f;cases f;exact qab1 k i q2 h};obtain⟨a,o,rfl,g,i⟩:=c.tup_inv;obtain⟨p,j,e,f,q2⟩:=d.tup_inv;cases e;rw[g] at f;cases f;exact qab1 k i q2 h
theorem Oo.getV(r:Oo F H vs ds A)(h:vs[n]?=some w):∃d B,ds[n]?=some d/\Ow F H w d B:=by have c:=r.len;have e:=(zA5.mp h).1;obtain⟨f,B,a,b,_⟩:=r.get (n:=n) (d:=ds[n]'⋯) (by simp);rw[h] at a;cases a;exact⟨_,B,by simp,b⟩
theorem qaa8(r1:Ow F H v x A)(a:Ow F H w y B)(h:LV.eqZ x y=some b):EqD H n v w b:=by obtain⟨f1,f2,rfl⟩:=r1.eqF a h;exact .flat f1 f2
theorem qaa9:∀{n:Nat}{v w:V}{x y:D}{A B:List γ}{b:Bool},Ow F H v x A->Ow F H w y B->eqN n x y=some b->EqD H n v w b:=by
 intro n;induction n with
 |zero=>intro v w x y A B b c d h;rw[qW7] at h;exact qaa8 c d h|succ n I=>
  intro v w x y A B b c d h;rcases qab0 n x y with e|⟨z,J,L,K,rfl,rfl⟩|⟨J,K,rfl,rfl⟩;{rw[e] at h;exact qaa8 c d h}
  .obtain⟨a,m,_,rfl,k,g,_⟩:=c.lst_inv;obtain⟨o,r,_,rfl,l,q2,_⟩:=d.lst_inv;by_cases f:a=o;{subst f;cases qap4 (n:=n+1) c d h;exact .same a};obtain⟨e,s,rfl⟩:=qE4 h;rw[<-g.len,<-q2.len];by_cases j:m.length=r.length;{rw[j,Nat.min_self,zB3,Bool.and_true,<-j];refine .lsts f k l j λi p q t e2=>?_;obtain⟨x,_,u,C⟩:=g.getV t;obtain⟨y,_,E,G⟩:=q2.getV e2;exact I C G (s i x y u E)};have:(m.length==r.length)=false:=by simpa using j
   rw[this,Bool.and_false];exact .lens f k l j
  obtain⟨a,m,rfl,k,g⟩:=c.tup_inv;obtain⟨o,r,rfl,l,q2⟩:=d.tup_inv;by_cases f:a=o;{subst f;cases qap4 (n:=n+1) c d h;exact .same a};obtain⟨e,s,rfl⟩:=qE4 h;rw[<-g.len,<-q2.len];refine .tups f k l λi p q t e2=>?_;obtain⟨x,_,u,C⟩:=g.getV t;obtain⟨y,_,E,G⟩:=q2.getV e2;exact I C G (s i x y u E)
end
def eqT:D->D->Option Bool|.l _ xs,.l _ ys=>Dl (eqN 20) xs ys|.q xs,.q ys=>Dl (eqN 20) xs ys|x,y=>eqF x y
theorem Ow.rc(r1:Ow F H v x A)(j:Ow F H w y B)(h:eqT x y=some b):RcD H v w b:=by
 unfold eqT at h;split at h
 .obtain⟨a,k,_,rfl,f,c,_⟩:=r1.lst_inv;obtain⟨u,l,_,rfl,g,q2,_⟩:=j.lst_inv;obtain⟨e,m,rfl⟩:=qE4 h;rw[<-c.len,<-q2.len];by_cases d:k.length=l.length;{rw[d,Nat.min_self,zB3,Bool.and_true,<-d];refine .lsts f g d λi p q n e2=>?_;obtain⟨x,_,o,r⟩:=c.getV n;obtain⟨y,_,s,t⟩:=q2.getV e2;exact qaa9 r t (m i x y o s)};have:(k.length==l.length)=false:=by simpa using d
  rw[this,Bool.and_false];exact .lens f g d
 {obtain⟨a,k,rfl,f,c⟩:=r1.tup_inv;obtain⟨u,l,rfl,g,q2⟩:=j.tup_inv;obtain⟨e,m,rfl⟩:=qE4 h;rw[<-c.len,<-q2.len];refine .tups f g λi p q n e2=>?_;obtain⟨x,_,o,r⟩:=c.getV n;obtain⟨y,_,s,t⟩:=q2.getV e2;exact qaa9 r t (m i x y o s)};obtain⟨f1,f2,rfl⟩:=r1.eqF j h;exact .flat f1 f2
def gEq(x y:D):Option D:=(eqT x y).map .bl
def gNe(x y:D):Option D:=(eqT x y).map λb=>.bl (!b)
theorem Bp:A9 true rEqD gEq:=by intro F H v w x y B d Q r h q;obtain⟨A,A2,a,c⟩:=r.both;obtain⟨b,e,rfl⟩:=zA7.mp h;exact⟨b,a.rc c e,q _ H [] (.bl _) (λ_ _ z=>z) New.nil⟩
theorem Bo:A9 true rNeD gNe:=by intro F H v w x y B d Q r h q;obtain⟨A,A2,a,c⟩:=r.both;obtain⟨b,e,rfl⟩:=zA7.mp h;exact⟨b,a.rc c e,q _ H [] (.bl _) (λ_ _ z=>z) New.nil⟩
def flats:List D->Option (List V)|[]=>some []|d::r=>d.flat.bind λv=>(flats r).bind λvs=>some (v::vs)
theorem Oo.flats:∀{vs a:List V}{ds:List D}{A:List γ},Oo F H vs ds A->LV.flats ds=some a->vs=a/\vs.all L2.flatV=true|_,_,_,_,.nil,h=>by cases h;exact⟨rfl,rfl⟩|_,_,_,_,.cons r t,h=>by obtain⟨v,b,h⟩:=zA1.mp h;obtain⟨vs,c,h⟩:=zA1.mp h;cases h;obtain⟨rfl,f⟩:=r.flat b;obtain⟨rfl,g⟩:=t.flats c;exact⟨rfl,by rw[Ly,f,g];rfl⟩
def gInB(neg:Bool)(x y:D):Option D:=x.flat.bind λv=>y.elems.bind λys=>(flats ys).bind λa=>some (.bl (if neg then !inV v a else inV v a))
theorem Fy:A9 true (rIn K neg) (gInB neg):=by intro F H v w x y B d Q r h q;obtain⟨A,A2,b,c⟩:=r.both;obtain⟨n,e,h⟩:=zA1.mp h;obtain⟨o,i,h⟩:=zA1.mp h;obtain⟨p,j,h⟩:=zA1.mp h;cases h;obtain⟨rfl,f⟩:=b.flat e;obtain⟨a,k,A3,rfl,l,m,_⟩:=c.elems (K:=K) i;obtain⟨rfl,g⟩:=m.flats j;exact⟨a,k,rfl,l,f,g,q _ H [] (.bl _) (λ_ _ z=>z) New.nil⟩
def gIx(x y:D):Option D:=match y with|.int i=>x.elems.bind λys=>atI ys i|_=>none
theorem qaT6{x y d:D}(h:gIx x y=some d):∃i ys,y=.int i/\x.elems=some ys/\atI ys i=some d:=by cases y with|int i=>obtain⟨ys,a,h⟩:=zA1.mp h;exact⟨i,ys,rfl,a,h⟩|_=>cases h
theorem Aq:A9 false (rIx K) gIx:=by
 intro F H v w x y B d Q r h q;cases r with|@cons _ _ A _ _ _ l t=>cases t with|@cons _ _ A2 _ _ _ m _=>
 obtain⟨i,u,rfl,n,h⟩:=qaT6 h;obtain rfl:=m.int_inv;obtain⟨a,j,A3,rfl,c,o,p⟩:=l.elems (K:=K) n;obtain⟨f,B',k,g,s⟩:=o.atI h;have e:=q f H B' g (λ_ _ z=>z) (by rw[if_neg ∅];exact λb=>.inl (by rw[zA0];have:=s b;have:=p b;lia));rcases c with c|c;{exact .inl ⟨a,j,i,f,rfl,rfl,c,k,e⟩};exact .inr (.inl ⟨a,j,i,f,rfl,rfl,c,k,e⟩)
section
variable{F:γ->Prop}{H:Hp}
theorem Oo.one_inv(r:Oo F H vs [x] B):∃v,vs=[v]/\Ow F H v x B:=by cases r with|cons h t=>cases t;exact⟨_,rfl,by rw[zAc];exact h⟩
theorem Oo.two_inv(r:Oo F H vs [x,y] B):∃v w A C,vs=[v,w]/\Ow F H v x A/\Ow F H w y C/\∀b,B.count b=A.count b+C.count b:=by cases r with|cons h t=>cases t with|cons a t=>cases t;exact⟨_,_,_,_,rfl,h,a,λb=>by simp[zA0]⟩
end
noncomputable def fx1(g:D->Option D):Ds->Option D|[x]=>g x|_=>none
noncomputable def fx2(g:D->D->Option D):Ds->Option D|[x,y]=>g x y|_=>none
def CS1(nw:Bool)(r:List V->Hp->VK->Prop)(g:D->Option D):Prop:=∀F H v x B d (Q:VK),Ow F H v x B->g x=some d->(∀v H' B',Ow F H' v d B'->Same H H'->(if nw=true then New H B' else Sub H B B')->Q v H')->r [v] H Q
theorem CS1.ops(h:CS1 nw r g):OpS nw r (fx1 g):=by intro F H c a B d Q r e q;match a,e with|[x],e=>obtain⟨v,rfl,b⟩:=r.one_inv;exact h F H v x B d Q b e q
def E5(x:D):Option D:=match x with|.str z=>gd (z.length<=big) (.int z.length)|.dct _ kvs=>some (.int kvs.length)|x=>x.elems.map λys=>.int ys.length
def rLenA(K:Nx):List V->Hp->VK->Prop:=λxs H Q=>(∃p ys,xs=[.ref p]/\(SqL K H p ys∨SqT K H p ys)/\Q (.int ys.length) H)∨(∃z,xs=[.str z]/\z.length<=Kl/\Q (.int z.length) H)∨(∃a kvs,xs=[V.ref a]/\H a=some (.dK kvs)/\Q (.int kvs.length) H)
theorem qq2:CallR X (.builtin "len") (rLenA X.K):=qX2.or (qX1.or qax2)
theorem qaR4{x d:D}(h:E5 x=some d):(∃z,x=.str z/\z.length<=big/\d=.int z.length)∨(∃z kvs,x=.dct z kvs/\d=.int kvs.length)∨∃ys,x.elems=some ys/\d=.int ys.length:=by unfold E5 at h;split at h;{exact .inl ⟨_,rfl,(qk9 h).1,(qk9 h).2.symm⟩};{exact .inr (.inl ⟨_,_,rfl,(Nv h).symm⟩)};obtain⟨ys,e,h⟩:=zA7.mp h;exact .inr (.inr ⟨ys,e,h.symm⟩)
theorem qq1:CS1 true (rLenA K) E5:=by
 intro F H v x B d Q r h q;rcases qaR4 h with⟨z,rfl,hl,rfl⟩|⟨z,kds,rfl,rfl⟩|⟨ys,e,rfl⟩;{exact .inr (.inl ⟨z,by rw[r.str_inv],zAi hl qk2,q _ H [] (.int _) (λ_ _ z=>z) New.nil⟩)}
 .obtain⟨a,b,A,rfl,c,e,f,_⟩:=r.dct_inv;refine .inr (.inr ⟨a,b,rfl,c,?_⟩);have:b.length=kds.length:=by have:=congrArg Lv e;simpa using this
  rw[this];exact q _ H [] (.int _) (λ_ _ z=>z) New.nil
 obtain⟨a,g,A,rfl,c,f,_⟩:=r.elems e;refine .inl ⟨a,g,rfl,c,?_⟩;rw[f.len];exact q _ H [] (.int _) (λ_ _ z=>z) New.nil
noncomputable def gAbs:D->Option D|.int i=>some (.int (if i<0 then -i else i))|_=>none
noncomputable def Jr:D->Option D|.int i=>some (.int i)|.bl b=>some (.int (if b then 1 else 0))|_=>none
theorem qaw5:CS1 true (λxs H Q=>(∃i,xs=[.int i]/\Q (.int i) H)∨∃k,xs=[.bl k]/\Q (.int (if k then 1 else 0)) H) Jr:=by intro F H v x B d Q r h q;cases x with|int i=>cases h;cases r;exact .inl ⟨i,rfl,q _ H [] (.int _) (λ_ _ z=>z) New.nil⟩|bl i=>cases h;cases r;exact .inr ⟨i,rfl,q _ H [] (.int _) (λ_ _ z=>z) New.nil⟩|_=>cases h
def Hl(x:D):Option D:=x.elems.bind λys=>gd (D.imms ys=true) (.l false ys)
theorem qQ5:CS1 true (λxs H Q=>∃p ys,xs=[.ref p]/\(SqL K H p ys∨SqT K H p ys)/\∀l,H l=none->Q (.ref l) (upd H l (.l ys))) Hl:=by intro F H v x B d Q r h q;obtain⟨ys,e,h⟩:=zA1.mp h;obtain⟨c,rfl⟩:=qk9 h;obtain⟨a,f,A,rfl,g,i,_⟩:=r.elems e;exact⟨a,f,rfl,g,λp b=>q _ _ [p] (qD4 b (i.imms0 c)) (Same.new b) (qh8 b)⟩
noncomputable def D.intO:D->Option Int|.int k=>some k|_=>none
def pairK:D->Option (Key×D)|.q [a,x]=>a.intO.bind λk=>if x.imm=true then some (.inl k,x) else none|_=>none
def Ij:List D->Option (List (Key×D))|[]=>some []|d::r=>(pairK d).bind λp=>(Ij r).bind λps=>some (p::ps)
noncomputable def Fa(kvs:List (Key×D))(k:Key)(v:D):List (Key×D):=if (kvs.any λa=>decide (a.1=k))=true then kvs.map (λa=>if a.1=k then (a.1,v) else a) else kvs++[(k,v)]
def qy3(kvs more:List (Key×D)):List (Key×D):=more.foldl (λacc a=>Fa acc a.1 a.2) kvs
abbrev KP(F:γ->Prop)(H:Hp)(kvs:List (Key×V))(a:List (Key×D)):Prop:=Paired (λ(p:Key×V)(q:Key×D)=>p.1=q.1/\Ow F H p.2 q.2 []) kvs a
section
variable{F:γ->Prop}{H:Hp}
theorem KP.maps(h:KP F H kvs b):kvs.map (·.1)=b.map (·.1)/\Oo F H (kvs.map (·.2)) (b.map (·.2)) []:=by induction h with|nil=>exact⟨rfl,.nil⟩|cons a _ c=>exact⟨by rw[zAz,zAz,a.1,c.1],.cons a.2 c.2⟩
theorem KP.any(h:KP F H kvs b)(k:Key):(kvs.any λc=>decide (c.1=k))=b.any λc=>decide (c.1=k):=by induction h with|nil=>rfl|cons a _ d=>rw[zCa,zCa,a.1,d]
theorem KP.append(h:KP F H kvs b)(h':KP F H kvs' kds'):KP F H (kvs++kvs') (b++kds'):=by induction h with|nil=>exact h'|cons a _ c=>exact .cons a c
theorem KP.mapk(h:KP F H kvs c)(r:Ow F H v d []):KP F H (kvs.map λb=>if b.1=k then (b.1,v) else b) (c.map λb=>if b.1=k then (b.1,d) else b):=by induction h with|nil=>exact .nil|@cons p q _ _ a _ ih=>refine .cons ?_ ih;show (if p.1=k then (p.1,v) else p).1=(if q.1=k then (q.1,d) else q).1/\Ow F H (if p.1=k then (p.1,v) else p).2 (if q.1=k then (q.1,d) else q).2 [];rw[<-a.1];split;{exact⟨rfl,r⟩};exact a
theorem KP.put(h:KP F H kvs a)(r:Ow F H v d []):KP F H (putK kvs k v) (Fa a k d):=by unfold putK Fa;rw[h.any k];split;{exact h.mapk r};exact h.append (.cons ⟨rfl,r⟩ .nil)
theorem KP.merge(h:KP F H more mored):∀{kvs:List (Key×V)}{b:List (Key×D)},KP F H kvs b->KP F H (qG1 kvs more) (qy3 b mored):=by induction h with|nil=>exact λh=>h|@cons p q _ _ a _ ih=>intro kvs b h;have:=ih (h.put (k:=p.1) a.2);rw[a.1] at this;show KP F H (qG1 (putK kvs p.1 p.2) _) (qy3 (Fa b q.1 q.2) _);rw[a.1];exact this
theorem qaI6{x:D}{i:Int}(h:x.intO=some i):x=.int i:=by cases x with|int k=>cases h;rfl|_=>cases h
theorem qaF7(r:Oo F H vs ds A)(h:Ij ds=some ps):∃kvs,qaC3 H vs kvs/\KP F H kvs ps:=by induction ds generalizing vs A ps with|nil=>cases r;cases h;exact⟨[],.nil,.nil⟩|cons d ds g=>cases r with|cons j t=>obtain⟨p,b,h⟩:=zA1.mp h;obtain⟨ps,l,h⟩:=zA1.mp h;cases h;obtain⟨kvs,m,q2⟩:=g t l;unfold pairK at b;split at b;{rename_i k x;obtain⟨i,n,b⟩:=zA1.mp b;obtain rfl:=qaI6 n;split at b;{rename_i hm;cases b;obtain⟨a,s,rfl,o,e⟩:=j.tup_inv;obtain⟨u,q,A1,A2,rfl,f,c,_⟩:=e.two_inv;obtain rfl:=f.int_inv;have:=c.imm hm;subst this;exact⟨(.inl i,q)::kvs,.cons ⟨a,rfl,o⟩ m,.cons ⟨rfl,c⟩ q2⟩};cases b};cases b
theorem qaQ8(b:H p=none)(r:KP F H kvs a):Ow F (upd H p (.dK kvs)) (.ref p) (.dct false a) [p]:=.dct qb8 r.maps.1 (r.maps.2.same (Same.new b))
end
def Hm(x:D):Option D:=match x with|.l _ ys=>(Ij ys).map λps=>.dct false (qy3 [] ps)|_=>none
theorem qaB9:CS1 true qaN5 Hm:=by intro F H v x B d Q r h q;cases x with|l z k=>obtain⟨l,e,rfl⟩:=zA7.mp h;obtain⟨a,f,A,rfl,g,i,_⟩:=r.lst_inv;obtain⟨b,j,q2⟩:=qaF7 i e;exact⟨a,f,b,rfl,g,j,λp c=>q _ _ [p] (qaQ8 c (q2.merge .nil)) (Same.new c) (qh8 c)⟩|_=>cases h
noncomputable def D.kind:D->Option String|.non=>some "NoneType" | .bl _=>some "bool" | .int _=>some "int" | .str _=>some "str" | .l _ _=>some "list" | .q _=>some "tuple" | .dct _ _=>some "dict"|_=>none
theorem Ow.kind(r:Ow F H v d B)(h:d.kind=some t):Bi H v=some t:=by cases r with|q e _=>cases h;exact qaI2 e|l e _=>cases h;exact qan2 e|lstZ e _ _=>cases h;exact qan2 e|dct e _ _=>cases h;exact qaA7 e|dctZ e _ _ _=>cases h;exact qaA7 e|_=>cases h<;>rfl
noncomputable def Ik(n:String):Bool:=n=="bool" || n=="int" || n=="str" || n=="list" || n=="tuple" || n=="dict"
def gIsi(x y:D):Option D:=match y with|.ty n=>if Ik n=true then x.kind.map λt=>.bl (Fl t n) else none|_=>none
def CS2(nw:Bool)(r:List V->Hp->VK->Prop)(g:D->D->Option D):Prop:=∀F H v w x y A B d (Q:VK),Ow F H v x A->Ow F H w y B->g x y=some d->(∀v H' B',Ow F H' v d B'->Same H H'->(if nw=true then New H B' else Sub H (A++B) B')->Q v H')->r [v,w] H Q
theorem CS2.ops(h:CS2 nw r g):OpS nw r (fx2 g):=by intro F H l c B d Q r e q;match c,e with|[x,y],e=>obtain⟨v,w,A,C,rfl,f,i,j⟩:=r.two_inv;refine h F H v w x y A C d Q f i e λu H' B' k s a=>q u H' B' k s ?_;cases nw with|true=>exact a|false=>rw[if_neg ∅] at a ⊢;exact λb=>(a b).imp (λz=>by rw[zA0] at z;have:=j b;lia) id
theorem qM9:CS2 true rIsi gIsi:=by intro F H v w x y A B d Q b c e q;cases y with|ty n=>cases c;have e:(if Ik n=true then x.kind.map λt=>D.bl (Fl t n) else none)=some d:=e;by_cases a:Ik n=true;{rw[if_pos a] at e;obtain⟨t,f,rfl⟩:=zA7.mp e;refine⟨v,n,t,rfl,b.kind f,?_,q _ H [] (.bl _) (λ_ _ z=>z) New.nil⟩;simp only[Ik,Bool.or_eq_true,zBr] at a;simp only[zAl,zCf,or_false];rcases a with ((((h|h)|h)|h)|h)|h;{exact .inl h};{exact .inr (.inl h)};{exact .inr (.inr (.inl h))};{exact .inr (.inr (.inr (.inl h)))};{exact .inr (.inr (.inr (.inr (.inl h))))};exact .inr (.inr (.inr (.inr (.inr h))))};rw[if_neg a] at e;cases e|_=>cases e
def D.isC(C:γ)(x:D):Option D:=match x with|.ins _ C' _=>if C'=C then some (.bl true) else none|x=>x.kind.map λ_=>.bl false
def G1(C:γ)(x y:D):Option D:=match y with|.adr a=>if a=C then x.isC C else none|_=>none
theorem qaS2{C:γ}{x y d:D}(h:G1 C x y=some d):y=.adr C/\((∃z fs,x=.ins z C fs/\d=.bl true)∨∃t,x.kind=some t/\d=.bl false):=by
 cases y with
 |adr a=>
  have h:(if a=C then x.isC C else none)=some d:=h;by_cases b:a=C
  .rw[if_pos b] at h;subst b;refine⟨rfl,?_⟩;have k:(x.kind.map λ_=>D.bl false)=some d->∃t,x.kind=some t/\d=.bl false:=λe=>by obtain⟨t,c,e⟩:=zA7.mp e;exact⟨t,c,e.symm⟩
   cases x with|ins z C' fs=>have h:(if C'=a then some (D.bl true) else none)=some d:=h;by_cases b:C'=a;{rw[if_pos b] at h;exact .inl ⟨z,fs,by rw[b],(Nv h).symm⟩};rw[if_neg b] at h;cases h|_=>exact .inr (k h)
  rw[if_neg b] at h;cases h
 |_=>cases h
theorem qaK3:CS2 true (rIsO C) (G1 C):=by intro F H v w x y A B d Q b c e q;obtain⟨rfl,h⟩:=qaS2 e;cases c;rcases h with⟨z,fs,rfl,rfl⟩|⟨t,ht,rfl⟩;{obtain⟨p,f,a,_,rfl,h,_,_,_⟩:=b.ins_inv;exact⟨_,rfl,.inl ⟨p,f,a,rfl,h,q _ H [] (.bl _) (λ_ _ z=>z) New.nil⟩⟩};exact⟨_,rfl,.inr ⟨t,b.kind ht,q _ H [] (.bl _) (λ_ _ z=>z) New.nil⟩⟩
def gMax2:=gI (λ_ _=>true) λi j=>.int (if j>i then j else i)
theorem cs_I2{f:Int->Int->Int}:CS2 true (λxs H Q=>∃i j,xs=[.int i,.int j]/\Q (.int (f i j)) H) (gI (λ_ _=>true) λi j=>.int (f i j)):=by intro F H v w x y A B d Q a b e q;obtain⟨i,j,rfl,rfl,_,rfl⟩:=qaT9 e;exact⟨i,j,by rw[a.int_inv,b.int_inv],q _ H [] (.int _) (λ_ _ z=>z) New.nil⟩
theorem qaB8:CS2 true (λxs H Q=>∃i j,xs=[.int i,.int j]/\Q (.int (if j>i then j else i)) H) gMax2:=cs_I2
noncomputable def bools:List D->Option (List Bool)|[]=>some []|.bl b::r=>(bools r).map λbs=>b::bs|_=>none
theorem Oo.bools:∀{vs:List V}{ds:List D}{A:List γ}{bs:List Bool},Oo F H vs ds A->LV.bools ds=some bs->vs=bs.map V.bl:=by intro vs ds;induction ds generalizing vs with|nil=>intro A bs r h;cases r;cases h;rfl|cons d ds a=>intro A bs r h;cases r with|cons c t=>cases d with|bl b=>obtain⟨e,f,rfl⟩:=zA7.mp h;cases c;rw[a t f];rfl|_=>cases h
def gAll(x:D):Option D:=match x with|.l _ ys=>(bools ys).map λbs=>.bl (bs.all id)|_=>none
theorem qaU7:CS1 true (λxs H Q=>∃(a:γ)(bs:List Bool),xs=[.ref a]/\SqL K H a (bs.map V.bl)/\Q (.bl (bs.all id)) H) gAll:=by intro F H v x B d Q r h q;cases x with|l z f=>obtain⟨bs,b,rfl⟩:=zA7.mp h;obtain⟨a,g,A,rfl,c,e,_⟩:=r.lst_inv;cases e.bools b;exact⟨a,bs,rfl,.inl (.inl c),q _ H [] (.bl _) (λ_ _ z=>z) New.nil⟩|_=>cases h
noncomputable def intsD:List D->Option (List Int)|[]=>some []|.int i::r=>(intsD r).map λis=>i::is|_=>none
theorem Oo.intsD:∀{vs:List V}{ds:List D}{A:List γ}{bs:List Int},Oo F H vs ds A->LV.intsD ds=some bs->vs=bs.map V.int:=by intro vs ds;induction ds generalizing vs with|nil=>intro A bs r h;cases r;cases h;rfl|cons d ds a=>intro A bs r h;cases r with|cons c t=>cases d with|int b=>obtain⟨e,f,rfl⟩:=zA7.mp h;cases c;rw[a t f];rfl|_=>cases h
def B9(xs:List D)(lo hi:Option Int):List D:=(xs.drop (HT.sIx xs.length 0 lo)).take (HT.sIx xs.length xs.length hi-HT.sIx xs.length 0 lo)
def gSl(x:D)(lo hi:Option Int):Option D:=match x with|.l _ ys=>gd (D.imms (B9 ys lo hi)=true) (.l false (B9 ys lo hi))|.scr a=>some (.l false ((a.drop (HT.sIx a.length 0 lo)).take (HT.sIx a.length a.length hi-HT.sIx a.length 0 lo) |>.map .int))|.q ys=>gd (D.imms (B9 ys lo hi)=true/\(B9 ys lo hi).length<ys.length) (.q (B9 ys lo hi))|_=>none
theorem qK3{F:γ->Prop}{H:Hp}:∀ns:List Int,Oo F H (ns.map V.int) (ns.map D.int) []|[]=>.nil|n::r=>.cons (A:=[]) (B:=[]) (.int n) (qK3 r)
theorem os_sl{lo:Option Int}(r:Ow F H v x B)(h:gSl x lo hi=some d)(f:∀ys,x≠.q ys)(q:∀v H' B',Ow F H' v d B'->Same H H'->New H B'->Q v H'):rSlL K v lo hi H Q:=by cases x with|l z ys=>obtain⟨g,rfl⟩:=qk9 h;obtain⟨a,i,A,rfl,j,c,_⟩:=r.lst_inv;refine⟨a,i,rfl,.inl (.inl j),λp b=>q _ _ [p] (qD4 b ?_) (Same.new b) (qh8 b)⟩;obtain⟨B',k,l⟩:=c.sub (HT.sIx ys.length 0 lo) (HT.sIx ys.length ys.length hi-HT.sIx ys.length 0 lo);unfold Gh;rw[c.len];exact k.imms0 g|scr m=>(cases h;cases r with|scr e=>refine⟨_,_,rfl,.inl (.inr ⟨_,e⟩),λp b=>q _ _ [p] (qD4 b ?_) (Same.new b) (qh8 b)⟩;unfold Gh;rw[<-Nd,<-Mj,zAa];exact qK3 _)|q ys=>exact absurd rfl (f ys)|_=>cases h
def D.fld(C:γ)(f:Str):D->Option D|.ins _ C' fs=>if C'=C then fs.lookup f else none|_=>none
theorem qam7:∀{c:List (Str×V)}{a:List (Str×D)}{A:List γ}{f:Str}{d:D},c.map (·.1)=a.map (·.1)->Oo F H (c.map (·.2)) (a.map (·.2)) A->a.lookup f=some d->∃v B,c.lookup f=some v/\Ow F H v d B/\∀b,B.count b<=A.count b:=by
 intro c;induction c with
 |nil=>intro a A f d e r h;cases a with|nil=>cases h|cons _ _=>simp at e
 |cons p c i=>
  intro a A f d e r h;cases a with
  |nil=>simp at e|cons q a=>
   obtain⟨k,v⟩:=p;obtain⟨j,s⟩:=q;have l:k=j:=by simp at e;exact e.1
   have e2:c.map (·.1)=a.map (·.1):=by simp at e;simpa using e.2
   subst l;cases r with|@cons _ _ A1 _ _ A2 r1 t=>rw[zAu] at h ⊢;cases g:f==k with|true=>rw[g] at h;cases h;exact⟨v,A1,rfl,r1,λb=>by rw[zA0];lia⟩|false=>rw[g] at h;obtain⟨w,B,m,n,o⟩:=i e2 t h;exact⟨w,B,m,n,λb=>by rw[zA0];have:=o b;lia⟩
theorem Js(c:Cls K C)(n:qg1 K C f):OpS1 false (λx H Q=>∃a C dx fs v,x=.ref a/\H a=some (.ins C dx fs)/\Cls K C/\qg1 K C f/\fs.lookup f=some v/\Q v H) (D.fld C f):=by intro F H v x B d Q r h q;cases x with|ins z C' fs=>have i:(if C'=C then fs.lookup f else none)=some d:=h;by_cases j:C'=C;{rw[if_pos j] at i;subst j;obtain⟨a,dx,k,A,rfl,l,e,m,g⟩:=r.ins_inv;obtain⟨w,B',o,p,s⟩:=qam7 e m i;refine⟨a,C',dx,k,w,rfl,l,c,n,o,q w H B' p (λ_ _ z=>z) ?_⟩;rw[if_neg ∅];exact λb=>.inl (by have:=s b;have:=g b;lia)};rw[if_neg j] at i;cases i|_=>cases h
noncomputable def D.key:D->Option Key|.int i=>some (.inl i)|.str x=>some (.inr x)|_=>none
noncomputable def Dv(a:List (Key×D))(k:Key):Option D:=(a.find? λb=>decide (b.1=k)).map (·.2)
theorem Ow.key(r:Ow F H v x B)(h:x.key=some k):v=kV k:=by cases r<;>cases h<;>rfl
theorem qaL3:∀{kvs:List (Key×V)}{a:List (Key×D)}{A:List γ}(k:Key),kvs.map (·.1)=a.map (·.1)->Oo F H (kvs.map (·.2)) (a.map (·.2)) A->(Dv a k=none/\E2 kvs k=none)∨∃v d B,Dv a k=some d/\E2 kvs k=some v/\Ow F H v d B/\∀b,B.count b<=A.count b:=by
 intro kvs;induction kvs with
 |nil=>intro a A k e r;cases a with|nil=>exact .inl ⟨rfl,rfl⟩|cons _ _=>simp at e
 |cons p kvs g=>
  intro a A k e r;cases a with
  |nil=>simp at e|cons q a=>
   obtain⟨f,v⟩:=p;obtain⟨i,d⟩:=q;have j:f=i:=by simp at e;exact e.1
   have e2:kvs.map (·.1)=a.map (·.1):=by simp at e;simpa using e.2
   subst j;cases r with
   |@cons _ _ A1 _ _ A2 r1 t=>
    by_cases c:f=k;{exact .inr ⟨v,d,A1,by simp[Dv,c],qR7 c,r1,λb=>by rw[zA0];lia⟩};have l:Dv ((f,d)::a) k=Dv a k:=by simp[Dv,zBy,c]
    rw[l,qR8 c];rcases g k e2 t with h|⟨w,m,B,n,o,s,u⟩;{exact .inl h};exact .inr ⟨w,m,B,n,o,s,λb=>by rw[zA0];have:=u b;lia⟩
section
variable{c:Vc}{X:Cx}{a b e:Lb}{M G own J:Bool}{fa fb f:FV}{r:R2}{g:D->D->Option D}{w y t:VT}{pos:Pos}
theorem vnm(i:Nat)(b:X.N[i]?=some x:=by rfl)(d:Vis X.env.scope x:=by first|exact Oj rfl|exact Oi (Oj rfl)|exact Oi (Oi rfl))(e:N' x:=by decide)(a:(x==("__classdict__" : Str))=false:=by decide):VV c X (.Name x pos) false (rdN i):=qaL0 (qm0 b d e a) (qi8 b)
noncomputable def kC(d:D):FV:=λ_=>some d
theorem Ae{i:Int}:VV c X (.Constant (.int i) j pos) true (kC (.int i)):=Gj qO4 λ_ _=>.int _
theorem vbl{i:Bool}:VV c X (.Constant (.bool i) j pos) true (kC (.bl i)):=Gj pe_bl λ_ _=>.bl _
theorem Ba:VV c X (.Constant .none j pos) true (kC .non):=Gj qaP3 λ_ _=>.non
theorem Fq{i:Str}:VV c X (.Constant (.str i) j pos) true (kC (.str i)):=Gj qaX8 λ_ _=>.str _
theorem vgi{x:Str}{n:Int}{k:Tok}(hm:X.mg x=some (.int n k))(a:Gl X x:=by rfl)(b:N' x:=by decide):VV c X (.Name x pos) true (kC (.int n)):=Gj (qaz6 hm a b) λ_ _=>.int _
theorem vcls(C:γ)(hm:X.mg x=some (.ref C))(a:Gl X x:=by rfl)(b:N' x:=by decide):VV c X (.Name x pos) true (kC (.adr C)):=Gj (qaX9 C hm a b) λ_ _=>.adr _
theorem vty(n:String)(hm:X.mg x=none)(a:Gl X x:=by rfl)(b:Kq x=some (.type n):=by rfl)(d:x ≠ "__name__" := by decide)(e:N' x:=by decide):VV c X (.Name x pos) true (kC (.ty n)):=Gj (qaF5 n hm a b d e) λ_ _=>.ty _
theorem vpow{i j:Int}(k:Int)(a:i ^ j.toNat=k:=by decide)(b:0<=j:=by decide)(h1:j<=1000000:=by decide)(h2:i.natAbs<2 ^ 64:=by decide):VV c X (.BinOp (.Constant (.int i) m p) .Pow (.Constant (.int j) n q) pos) true (kC (.int k)):=Gj (qaP1 k a b h1 h2) λ_ _=>.int _
def P2(X:Cx)(e a b:Lb)(r:R2):Prop:=∀w y,PE X a w->PE X b y->PE X e (tOp r w y)
def T2(X:Cx)(e a b:Lb)(r:R2):Prop:=∀w y,PE X a w->PE X b y->PT X e (tTest (tOp r w y))
theorem Ah{op:Operator}(c:OpR X (K5 op) r):P2 X (.BinOp a op b pos) a b r:=λ_ _ d e=>pe_op c d e
theorem Aw(c:OpR X (Km op) r)(hm:behindInMarks op b=false):P2 X (.Compare a [op] [b] pos) a b r:=λ_ _ d e=>qaP4 c d e hm
theorem Am(c:OpR X (Km op) r)(hm:behindInMarks op b=false):T2 X (.Compare a [op] [b] pos) a b r:=λ_ _ d e=>qaz1 c d e hm
theorem Ax(c:IxR X r)(d:qac8 b:=by exact λ_ _=>rfl):P2 X (.Subscript a b pos) a b r:=λ_ _ e f=>Ji c e f d
theorem v2(p:P2 X e a b r)(h:A9 J r g)(d:VV c X a M fa)(f:VV c X b G fb):VV c X e (J||(M&&G)) (f2 g fa fb):=⟨PE.mono (p _ _ d.h f.h) (op_vv h)⟩
theorem e2(p:P2 X e a b r)(h:A9 true r g)(d:VE c X a w)(f:VE c X b y):VE c X e (t2 g w y):=⟨PE.mono (p _ _ d.h f.h) (op_ee d f h),qay0 d f⟩
theorem e2v(p:P2 X e a b r)(h:A9 true r g)(d:VE c X a w)(f:VV c X b G fb):VE c X e (t2v g w fb):=⟨PE.mono (p _ _ d.h f.h) (op_ev d h),qaD0 d⟩
theorem e2P(p:P2 X e a b r)(h:A9 false r g)(d:VE c X a w)(f:VE c X b y):VE c X e (t2 g w y):=⟨PE.mono (p _ _ d.h f.h) (qaZ0 d f h),qay0 d f⟩
theorem e2vP(p:P2 X e a b r)(h:A9 false r g)(d:VE c X a w)(f:VV c X b G fb):VE c X e (Jn g w fb):=⟨PE.mono (p _ _ d.h f.h) (qaY9 d h),qar8 d⟩
theorem e2n(i:Nat)(p:P2 X e (.Name x p0) b r)(h:A9 true r g)(a:VE c X b y)(f:X.N[i]?=some x:=by rfl)(j:Vis X.env.scope x:=by first|exact Oj rfl|exact Oi (Oj rfl)|exact Oi (Oi rfl))(k:N' x:=by decide)(d:(x==("__classdict__" : Str))=false:=by decide):VE c X e (t2n g i y):=⟨λDg s o H Q I q=>p _ _ (qm0 f j k d) a.h Dg s o H Q I (op_ne a h (qi8 f Dg o H s I) q),qaD1 a⟩
theorem e2nP(i:Nat){x:Str}{p0:Pos}(p:P2 X e (.Name x p0) b r)(h:A9 J r g)(a:VE c X b y)(f:X.N[i]?=some x:=by rfl)(j:Vis X.env.scope x:=by first|exact Oj rfl|exact Oi (Oj rfl)|exact Oi (Oi rfl))(k:N' x:=by decide)(d:(x==("__classdict__" : Str))=false:=by decide):VE c X e (Jo g i y):=⟨λDg s o H Q I q=>p _ _ (qm0 f j k d) a.h Dg s o H Q I (qaY5 a h (qi8 f Dg o H s I) q),qar9 a⟩
noncomputable def D.asB:D->Option Bool|.bl b=>some b|_=>none
theorem Ow.asB(r:Ow F H v d B)(h:d.asB=some k):v=.bl k:=by cases r<;>cases h<;>rfl
def ttV(f:FV):VTT:=λds Q _=>orF ((f ds).bind D.asB) λb=>Q b ds
def ttE(t:VT):VTT:=λds Q xe=>t ds (λd a=>orF d.asB λb=>Q b a) xe
theorem qaL8:∀o H Q,Es c (ttV f) o H Q->liftV c own f o H (λx H'=>∃k,x=.bl k/\Q k H'):=by rintro o H Q ⟨F,a,A,h,S,x,q⟩;obtain⟨b,e,q⟩:=qa7.mp q;obtain⟨d,g,e2⟩:=zA1.mp e;exact⟨F,a,A,d,S,g,λv H' B r s _=>⟨b,r.asB e2,q H' F A (S.same s) (.same s)⟩⟩
theorem qaC7(h:VE c X e t):∀o H Q,Es c (ttE t) o H Q->Bh c t o H (λx H'=>∃k,x=.bl k/\Q k H'):=by rintro o H Q ⟨F,a,A,f,S,x,q⟩;refine⟨F,a,A,f,S,x,h.m _ _ _ _ _ (λd g q v H1 F1 T A1 i S1 l j=>?_) (λ_ _ z=>z) q⟩;obtain⟨b,e,q⟩:=qa7.mp q;exact⟨b,i.asB e,q H1 F1 A1 S1 (j.count λb=>by rw[zA0];lia)⟩
theorem qag8:∀ds (Q Q':Bool->Ds->Prop) (xe b:XKd),(∀d a,Q d a->Q' d a)->(∀x a,xe x a->b x a)->ttV f ds Q xe->ttV f ds Q' b:=λds Q Q' xe b c _=>qa5 λd=>c d ds
theorem qR9(h:VE c X e t):∀ds (Q Q':Bool->Ds->Prop) (xe b:XKd),(∀d a,Q d a->Q' d a)->(∀x a,xe x a->b x a)->ttE t ds Q xe->ttE t ds Q' b:=λds Q Q' xe b f g=>h.m _ _ _ _ _ (λd a=>qa5 λz=>f z a) g
theorem tv(h:VV c X e own f)(a:∀whole,isTrue e X.env whole=(do let v<-whole;standAt e.pos;holding [v] (truthy v)):=by intro _;rfl):VTe c X e (ttV f):=⟨PT.mono (qaE5 h.h a) qaL8,qag8⟩
theorem te(h:VE c X e t)(a:∀whole,isTrue e X.env whole=(do let v<-whole;standAt e.pos;holding [v] (truthy v)):=by intro _;rfl):VTe c X e (ttE t):=⟨PT.mono (qaE5 h.h a) (qaC7 h),qR9 h⟩
theorem q2(p:T2 X e a b r)(h:A9 J r g)(d:VV c X a M fa)(f:VV c X b G fb):VTe c X e (ttV (f2 g fa fb)):=⟨PT.mono (p _ _ d.h f.h) λo H Q q=>op_vv h o H _ (qaL8 o H Q q),qag8⟩
theorem q2e(p:P2 X e a b r)(i:T2 X e a b r)(h:A9 true r g)(d:VE c X a w)(f:VE c X b y):VTe c X e (ttE (t2 g w y)):=⟨PT.mono (i _ _ d.h f.h) λo H Q q=>op_ee d f h o H _ (qaC7 (e2 p h d f) o H Q q),qR9 (e2 p h d f)⟩
theorem q2v(p:P2 X e a b r)(i:T2 X e a b r)(h:A9 true r g)(d:VE c X a w)(f:VV c X b G fb):VTe c X e (ttE (t2v g w fb)):=⟨PT.mono (i _ _ d.h f.h) λo H Q q=>op_ev d h o H _ (qaC7 (e2v p h d f) o H Q q),qR9 (e2v p h d f)⟩
variable{E L:VTT}{rest:List Lb}
def ttNot(t:VTT):VTT:=λds Q xe=>t ds (λb a=>Q (!b) a) xe
theorem Bj(h:VTe c X a E):VTe c X (.UnaryOp .Not a pos) (ttNot E):=by refine⟨PT.mono (qaO0 h.h) λo H Q ⟨F,e,A,f,S,x,q⟩=>⟨F,e,A,f,S,x,q⟩,λe Q Q' f g i j=>h.m _ _ _ _ _ (λb d=>i _ d) j⟩
structure VTw(c:Vc)(X:Cx)(e:Lb)(t:VTT):Prop where
 h:PW X e (Es c t)
 m:∀ds (Q Q':Bool->Ds->Prop) (xe xe':XKd),(∀d ds',Q d ds'->Q' d ds')->(∀x ds',xe x ds'->xe' x ds')->t ds Q xe->t ds Q' xe'
theorem VTw.te(h:VTw c X e E):VTe c X e E:=⟨h.h.pt,h.m⟩
theorem Ew(h:VTe c X a E):VTw c X (.BoolOp .And [a] pos) E:=⟨qaN9 h.h,h.m⟩
theorem G2(h:VTe c X a E):VTw c X (.BoolOp .Or [a] pos) E:=⟨qaX1 h.h,h.m⟩
def ttAnd(t u:VTT):VTT:=λds Q xe=>t ds (λk ds1=>if k=true then u ds1 Q xe else Q false ds1) xe
def ttOr(t u:VTT):VTT:=λds Q xe=>t ds (λk ds1=>if k=true then Q true ds1 else u ds1 Q xe) xe
theorem qZ2{k:Bool->St->Hp->(Bool->Hp->Prop)->Prop}{K:Bool->Ds->(Bool->Ds->Prop)->XKd->Prop}(h:VTe c X a E)(i:∀(b:Bool) F ds A xe o H (Q:Bool->Hp->Prop),Oz c F H o ds A->Xc c xe F H A->K b ds (λf e=>∀H' F' A',Oz c F' H' o e A'->Oy F H A F' H' A'->Q f H') xe->k b o H Q)(hm:∀(b:Bool) ds (Q Q':Bool->Ds->Prop) (xe:XKd),(∀d e,Q d e->Q' d e)->K b ds Q xe->K b ds Q' xe):∀o H Q,Es c (λds Q xe=>E ds (λb ds1=>K b ds1 Q xe) xe) o H Q->Es c E o H (λb H1=>k b o H1 Q):=by rintro o H Q ⟨F,ds,A,xe,S,x,q⟩;exact⟨F,ds,A,xe,S,x,h.m _ _ _ _ _ (λb ds1 q H1 F1 A1 S1 g=>(i b F1 ds1 A1 xe o H1 Q S1 (x.step g) (hm b ds1 _ _ xe (λf e q H' F' A' S' j=>q H' F' A' S' (g.trans j)) q))) (λ_ _ z=>z) q⟩
theorem Gn(e:VTe c X a E)(f:VTw c X (.BoolOp .And (b::rest) pos) L):VTw c X (.BoolOp .And (a::b::rest) pos) (ttAnd E L):=by refine⟨PW.mono (qaX2 e.h f.h) ?_,λg Q Q' i l d j=>e.m _ _ _ _ _ (λk n q=>?_) j⟩;{refine qZ2 e ?_ ?_;{intro b F g A i o H Q S x q;cases b with|true=>rw[if_pos rfl] at q ⊢;exact⟨F,g,A,i,S,x,q⟩|false=>rw[if_neg ∅] at q ⊢;exact q H F A S Oy.refl};intro b g Q Q' i d;cases b with|true=>rw[if_pos rfl,if_pos rfl];exact f.m _ _ _ _ _ d λ_ _ z=>z|false=>rw[if_neg ∅,if_neg ∅];exact d _ _};cases k with|true=>rw[if_pos rfl] at q ⊢;exact f.m _ _ _ _ _ d j q|false=>rw[if_neg ∅] at q ⊢;exact d _ _ q
theorem tor(e:VTe c X a E)(f:VTw c X (.BoolOp .Or (b::rest) pos) L):VTw c X (.BoolOp .Or (a::b::rest) pos) (ttOr E L):=by refine⟨PW.mono (pw_or e.h f.h) ?_,λg Q Q' i l d j=>e.m _ _ _ _ _ (λk n q=>?_) j⟩;{refine qZ2 e ?_ ?_;{intro b F g A i o H Q S x q;cases b with|false=>rw[if_neg ∅] at q ⊢;exact⟨F,g,A,i,S,x,q⟩|true=>rw[if_pos rfl] at q ⊢;exact q H F A S Oy.refl};intro b g Q Q' i d;cases b with|false=>rw[if_neg ∅,if_neg ∅];exact f.m _ _ _ _ _ d λ_ _ z=>z|true=>rw[if_pos rfl,if_pos rfl];exact d _ _};cases k with|false=>rw[if_neg ∅] at q ⊢;exact f.m _ _ _ _ _ d j q|true=>rw[if_pos rfl] at q ⊢;exact d _ _ q
end
section
variable{c:Vc}{X:Cx}{a b e:Lb}{oa ob own nw:Bool}{fa fb f:FV}{ta tb t:VT}{Y:Pos}{rest:List Lb}
def tSeqE(ta:VT)(k:D->VT):VT:=λds Q xe=>ta ds (λx ds1=>k x ds1 Q xe) xe
theorem qaH8{k:V->St->Hp->VK->Prop}(i:VE c X a ta)(hm:∀x ds (Q Q':DK) (xe f:XKd),(∀d e,Q d e->Q' d e)->(∀x e,xe x e->f x e)->K x ds Q xe->K x ds Q' f)(j:∀F H W v x T,Ow F H v x T->∀Q,(∃ds A xe,Oz c F H W ds A/\Xc c xe F H A/\K x ds (λd e=>∀v H' F' T A',Ow F' H' v d T->Oz c F' H' W e A'->Ok F' H' (T++A')->Oy F H A F' H' (T++A')->Q v H') xe)->k v W H Q):∀W H Q,Bh c (tSeqE ta K) W H Q->Bh c ta W H (λx H1=>k x W H1 Q):=by
 rintro W H Q ⟨F,ds,A,xe,S,x,q⟩;refine⟨F,ds,A,xe,S,x,i.m _ _ _ _ _ (λd g q v H1 F1 T A1 l S1 p n=>?_) (λ_ _ z=>z) q⟩;have h:Oy F H A F1 H1 A1:=n.count λb=>by rw[zA0];lia
 exact j F1 H1 W v d T l Q ⟨g,A1,xe,S1,x.step h,hm d g _ _ _ _ (λt e q w H' F' T' A' r S' o s=>q w H' F' T' A' r S' o (h.trans s)) (λ_ _ z=>z) q⟩
def Hn(ta tb:VT):VT:=tSeqE ta λx ds Q xe=>orF x.asB λk=>if k=true then tb ds Q xe else Q (.bl false) ds
theorem qP6{p q a b:Prop}(h1:p->a)(h2:q->b):(if k=true then p else q)->(if k=true then a else b):=by cases k with|true=>rw[if_pos rfl,if_pos rfl];exact h1|false=>rw[if_neg ∅,if_neg ∅];exact h2
theorem qaq8(g:VE c X e tb):∀(x:D) ds (Q Q':DK) (xe b:XKd),(∀d a,Q d a->Q' d a)->(∀x a,xe x a->b x a)->(orF x.asB λk=>if k=true then tb ds Q xe else Q (.bl false) ds)->(orF x.asB λk=>if k=true then tb ds Q' b else Q' (.bl false) ds):=λx ds Q Q' xe b f h=>qa5 λk=>qP6 (g.m _ _ _ _ _ f h) (f _ _)
theorem G3{op:PySem.BoolOp}(h:VE c X a ta):VE c X (.BoolOp op [a] Y) ta:=⟨qat3 h.h,h.m⟩
theorem Fb(e:VE c X a ta)(f:VE c X (.BoolOp .And (b::rest) Y) tb):VE c X (.BoolOp .And (a::b::rest) Y) (Hn ta tb):=by refine⟨PE.mono (qat6 e.h f.h) ?_,λl Q Q' g i o n=>e.m _ _ _ _ _ (λd j=>qaq8 f d j Q Q' g i o n) n⟩;refine qaH8 e (qaq8 f) ?_;rintro F H W v x T r Q ⟨l,A,g,S,p,q⟩;obtain⟨k,s,q⟩:=qa7.mp q;refine⟨k,r.asB s,?_⟩;cases k with|true=>rw[if_pos rfl] at q ⊢;exact⟨F,l,A,g,S,p,q⟩|false=>rw[if_neg ∅] at q ⊢;exact q _ H F [] A (.bl _) S S.ok Oy.refl
variable{qc:VTT}
def tIfE(qc:VTT)(ta tb:VT):VT:=λds Q xe=>qc ds (λk ds1=>if k=true then ta ds1 Q xe else tb ds1 Q xe) xe
theorem eif(i:VTe c X cd qc)(j:VE c X a ta)(l:VE c X b tb):VE c X (.IfExp cd a b Y) (tIfE qc ta tb):=by refine⟨PE.mono (qak3 i.h j.h l.h) ?_,λt Q Q' f w u n=>i.m _ _ _ _ _ (λk e=>qP6 (j.m _ _ _ _ _ u n) (l.m _ _ _ _ _ u n)) n⟩;rintro W H Q ⟨F,t,A,f,S,x,q⟩;refine⟨F,t,A,f,S,x,i.m _ _ _ _ _ (λk e q H1 F1 A1 S1 g=>?_) (λ_ _ z=>z) q⟩;cases k with|true=>rw[if_pos rfl] at q ⊢;exact⟨F1,e,A1,f,S1,x.step g,j.m _ _ _ _ _ (λd p q v H' F' T A' r S' o s=>q v H' F' T A' r S' o (g.trans s)) (λ_ _ z=>z) q⟩|false=>rw[if_neg ∅] at q ⊢;exact⟨F1,e,A1,f,S1,x.step g,l.m _ _ _ _ _ (λd p q v H' F' T A' r S' o s=>q v H' F' T A' r S' o (g.trans s)) (λ_ _ z=>z) q⟩
def fAnd(fa fb:FV):FV:=λds=>(fa ds).bind λx=>x.asB.bind λk=>if k=true then fb ds else some (.bl false)
def fOr(fa fb:FV):FV:=λds=>(fa ds).bind λx=>x.asB.bind λk=>if k=true then some (.bl true) else fb ds
def fNot(fa:FV):FV:=λds=>(fa ds).bind λx=>x.asB.map λk=>.bl (!k)
theorem G4{op:PySem.BoolOp}(h:VV c X a oa fa):VV c X (.BoolOp op [a] Y) oa fa:=⟨qat3 h.h⟩
theorem Jt(m:VV c X a oa fa)(n:VV c X (.BoolOp .And (b::rest) Y) ob fb):VV c X (.BoolOp .And (a::b::rest) Y) ob (fAnd fa fb):=by refine⟨PE.mono (qat6 m.h n.h) λW H Q g=>?_⟩;obtain⟨F,i,A,d,S,e,q⟩:=g;obtain⟨x,p,e⟩:=zA1.mp e;obtain⟨k,r,e⟩:=zA1.mp e;refine⟨F,i,A,x,S,p,λv H1 B1 s f y=>⟨k,s.asB r,?_⟩⟩;cases k with|true=>rw[if_pos rfl] at e ⊢;exact⟨F,i,A,d,S.same f,e,λw H2 B2 t u j=>q w H2 B2 t (f.trans u) λl=>⟨(j l).one,λb o e=>(j l).new b o (f b o e)⟩⟩|false=>rw[if_neg ∅] at e ⊢;cases e;exact q _ H1 [] (.bl _) f λ_=>New.nil
theorem vor(m:VV c X a oa fa)(n:VV c X (.BoolOp .Or (b::rest) Y) ob fb):VV c X (.BoolOp .Or (a::b::rest) Y) ob (fOr fa fb):=by refine⟨PE.mono (pe_or m.h n.h) λW H Q g=>?_⟩;obtain⟨F,i,A,d,S,e,q⟩:=g;obtain⟨x,p,e⟩:=zA1.mp e;obtain⟨k,r,e⟩:=zA1.mp e;refine⟨F,i,A,x,S,p,λv H1 B1 s f y=>⟨k,s.asB r,?_⟩⟩;cases k with|false=>rw[if_neg ∅] at e ⊢;exact⟨F,i,A,d,S.same f,e,λw H2 B2 t u j=>q w H2 B2 t (f.trans u) λl=>⟨(j l).one,λb o e=>(j l).new b o (f b o e)⟩⟩|true=>rw[if_pos rfl] at e ⊢;cases e;exact q _ H1 [] (.bl _) f λ_=>New.nil
theorem vnot(f:VV c X a oa fa):VV c X (.UnaryOp .Not a Y) true (fNot fa):=by refine⟨PE.mono (qaP2 f.h) λW H Q b=>?_⟩;obtain⟨F,g,A,d,S,e,q⟩:=b;obtain⟨x,i,e⟩:=zA1.mp e;obtain⟨k,j,rfl⟩:=zA7.mp e;exact⟨F,g,A,x,S,i,λv H1 B1 l m n=>⟨k,l.asB j,q _ H1 [] (.bl _) m λ_=>New.nil⟩⟩
noncomputable def gNeg:D->Option D|.int i=>some (.int (-i))|_=>none
theorem qaY0:OpS1 true (rU λi=>.int (-i)) gNeg:=by intro F H v x B d Q r h q;cases x with|int i=>cases h;cases r;exact⟨i,rfl,q _ H [] (.int _) (λ_ _ z=>z) New.nil⟩|_=>cases h
theorem vneg(b:VV c X a oa fa):VV c X (.UnaryOp .USub a Y) true (f1 gNeg fa):=⟨PE.mono (pe_un qaW4 b.h) (op_v qaY0)⟩
theorem A8{f:Str}(b:X.K=K)(d:VV c X a oa fa)(e:Cls K C)(n:qg1 K C f)(g:Ks a f X.env (eval a X.env)=eval a X.env:=by rfl):VV c X (.Attribute a f Y) oa (f1 (D.fld C f) fa):=by subst b;exact⟨PE.mono (qV0 d.h g) (op_v (Js e n))⟩
variable{rc:List V->Hp->VK->Prop}{gc:Ds->Option D}{x:Str}{p:Pos}{Z:List Lb}{fs:Ds->Option Ds}{tos:VTA}
def A6(gc:Ds->Option D)(fs:Ds->Option Ds):FV:=λds=>(fs ds).bind gc
theorem vbi{id:String}(d:CallR X (.builtin id) rc)(h:OpS nw rc gc)(hm:X.mg x=none)(f:VVs c X (e::Z) own fs)(g:Gl X x:=by rfl)(i:Kq x=some (.builtin id):=by rfl)(j:x ≠ "__name__" := by decide)(a:N' x:=by decide)(k:J' (e::Z) X.env=(false,eval e X.env)::J' Z X.env:=by rfl)(b:((backTo Y (J' Z X.env)).any λx=>x.1)=false:=by rfl):VV c X (.Call (.Name x p) (e::Z) [] Y) (nw||own) (A6 gc fs):=⟨PE.mono (cbi d hm f.h g i j a k b) (qaQ1 h)⟩
theorem Fc{id:String}(d:CallR X (.type id) rc)(h:OpS nw rc gc)(hm:X.mg x=none)(f:VVs c X (e::Z) own fs)(g:Gl X x:=by rfl)(i:Kq x=some (.type id):=by rfl)(j:x ≠ "__name__" := by decide)(a:N' x:=by decide)(k:J' (e::Z) X.env=(false,eval e X.env)::J' Z X.env:=by rfl)(b:((backTo Y (J' Z X.env)).any λx=>x.1)=false:=by rfl):VV c X (.Call (.Name x p) (e::Z) [] Y) (nw||own) (A6 gc fs):=⟨PE.mono (cty d hm f.h g i j a k b) (qaQ1 h)⟩
theorem ebi{id:String}(f:CallR X (.builtin id) rc)(h:OpS true rc gc)(hm:X.mg x=none)(a:VOs c X (e::Z) tos)(g:Gl X x:=by rfl)(i:Kq x=some (.builtin id):=by rfl)(j:x ≠ "__name__" := by decide)(b:N' x:=by decide)(k:J' (e::Z) X.env=(false,eval e X.env)::J' Z X.env:=by rfl)(d:((backTo Y (J' Z X.env)).any λx=>x.1)=false:=by rfl):VE c X (.Call (.Name x p) (e::Z) [] Y) (tcO gc tos):=⟨PE.mono (cbi f hm a.h g i j b k d) (opc_o a h),qaC8 a⟩
def gLst(xs:Ds):Option D:=gd (D.imms xs=true/\xs.length<=big) (.l false xs)
def gTup(xs:Ds):Option D:=gd (D.imms xs=true/\xs.length<=big) (.q xs)
theorem Bq(k:VVs c X Z own fs):VV c X (.List Z Y) true (A6 gLst fs):=by refine⟨PE.mono (qat4 k.h) λW H Q f=>?_⟩;obtain⟨F,l,A,d,S,e,q⟩:=f;obtain⟨m,n,e2⟩:=zA1.mp e;obtain⟨g,rfl⟩:=qk9 e2;refine⟨F,l,A,m,S,n,λr H1 B1 i j s=>⟨by rw[i.len];exact zAi g.2 qk2,λp a=>?_⟩⟩;exact q _ _ [p] (qD4 a (i.imms0 g.1)) (j.trans (Same.new a)) λ_=>⟨(qh8 a).one,λb o e=>(qh8 a).new b o (j b o e)⟩
theorem E6(i:VVs c X Z own fs):VV c X (.Tuple Z k Y) true (A6 gTup fs):=by refine⟨PE.mono (qaP0 i.h) λW H Q a=>?_⟩;obtain⟨F,j,A,d,S,e,q⟩:=a;obtain⟨l,m,e2⟩:=zA1.mp e;obtain⟨b,rfl⟩:=qk9 e2;refine⟨F,j,A,l,S,m,λo H1 B1 f n r=>⟨by rw[f.len];exact zAi b.2 qk2,λp g=>?_⟩⟩;exact q _ _ [] (qal8 g (f.imms0 b.1)) (n.trans (Same.new g)) λ_=>New.nil
def FO:=Ds->Option (Option Int)
inductive qaV9(c:Vc)(f:FO)(W:St)(H:Hp)(Q:Option Int->Hp->Prop):Prop
 |mk (F:γ->Prop) (ds:Ds) (A:List γ) (i:Option Int) (S:Oz c F H W ds A) (e:f ds=some i) (q:∀H',Same H H'->Q i H'):qaV9 c f W H Q
def qba2(c:Vc)(f:FO):TO:=qaV9 c f
structure VPO(c:Vc)(X:Cx)(e:Option Lb)(f:FO):Prop where
 h:PO X e (qba2 c f)
theorem PO.mono{X:Cx}{e:Option Lb}{t t':TO}(h:PO X e t)(i:∀W H Q,t' W H Q->t W H Q):PO X e t':=λDg s W H Q I q=>h Dg s W H Q I (i W H Q q)
noncomputable def foN:FO:=λ_=>some none
noncomputable def D.asI:D->Option Int|.int i=>some i|_=>none
theorem Ow.asI(r:Ow F H v d B)(h:d.asI=some k):v=.int k:=by cases r<;>cases h<;>rfl
def foS(f:FV):FO:=λds=>(f ds).bind λd=>d.asI.map some
theorem Go:VPO c X none foN:=⟨PO.mono qaj9 λW H Q ⟨F,a,A,i,S,e,q⟩=>by cases e;exact q H λ_ _ z=>z⟩
theorem Gq(h:VV c X e own f):VPO c X (some e) (foS f):=by refine⟨PO.mono (qaj8 h.h) λW H Q a=>?_⟩;obtain⟨F,b,A,i,S,e,q⟩:=a;obtain⟨d,g,e2⟩:=zA1.mp e;obtain⟨j,k,rfl⟩:=zA7.mp e2;exact⟨F,b,A,d,S,g,λv H' B r s _=>⟨j,r.asI k,q H' s⟩⟩
noncomputable def noT:D->Bool|.q _=>false|_=>true
def fsl(fa:FV)(lo hi:FO):FV:=λds=>(fa ds).bind λx=>(lo ds).bind λl=>(hi ds).bind λh=>if noT x=true then gSl x l h else none
theorem vsl{lo:Option Lb}{n p:FO}(t:VV c X a oa fa)(u:VPO c X lo n)(y:VPO c X hi p):VV c X (.Subscript a (.Slice lo hi none p2) Y) true (fsl fa n p):=by refine⟨PE.mono (qU9 qah9 t.h u.h y.h) λW H Q g=>?_⟩;obtain⟨F,i,A,d,S,e,q⟩:=g;obtain⟨x,B,e⟩:=zA1.mp e;obtain⟨l,e2,e⟩:=zA1.mp e;obtain⟨h,C,e⟩:=zA1.mp e;by_cases j:noT x=true;{rw[if_pos j] at e;refine⟨F,i,A,x,S,B,λv H1 B1 D k _=>⟨F,i,A,l,S.same k,e2,λH2 m=>⟨F,i,A,h,(S.same k).same m,C,λH3 r=>?_⟩⟩⟩;have f:=(k.trans m).trans r;refine os_sl ((D.same m).same r) e (λI z=>by subst z;cases j) λw H' B' E G s=>q w H' B' E (f.trans G) λ_=>⟨s.one,λb o e=>s.new b o (f b o e)⟩};rw[if_neg j] at e;cases e
def fget(fa a b:FV):FV:=λds=>(fa ds).bind λx=>(a ds).bind λy=>(b ds).bind λz=>match x with|.dct _ kvs=>y.key.bind λk=>gd (((Dv kvs k).getD z).imm=true) ((Dv kvs k).getD z)|_=>none
theorem vget{z:Lb}{D:Bool}{t:FV}(G:X.A.units+1<cLine)(I:VV c X a oa fa)(J:VV c X k D s)(K:VV c X z E t)(m:M2 X a "get" apos k z cpos):VV c X (.Call (.Attribute a "get" apos) [k,z] [] cpos) true (fget fa s t):=by refine⟨PE.mono (qaF4 G I.h J.h K.h m) λW H Q j=>?_⟩;obtain⟨F,l,A,d,S,e,q⟩:=j;obtain⟨x,L,e⟩:=zA1.mp e;obtain⟨y,e2,e⟩:=zA1.mp e;obtain⟨w,M,e⟩:=zA1.mp e;cases x with|dct z N=>obtain⟨n,O,e⟩:=zA1.mp e;obtain⟨g,rfl⟩:=qk9 e;refine⟨F,l,A,_,S,L,λv H1 B1 P o _=>?_⟩;obtain⟨a,b,A2,rfl,B,R,T,_⟩:=P.dct_inv;refine⟨a,rfl,.inl ⟨b,.inl B⟩,F,l,A,y,S.same o,e2,λu H2 B2 U i _=>⟨F,l,A,w,(S.same o).same i,M,λV H3 B3 C p _=>?_⟩⟩;have r:=p _ _ (i _ _ B);refine⟨E2 b n,.inl ⟨b,n,.inl r,(U.key O),rfl⟩,?_⟩;have f:=(o.trans i).trans p;rcases qaL3 n R T with⟨n1,n2⟩|⟨vv,dd,BB,n1,n2,n3,n4⟩;{rw[n1] at g q;rw[n2];have:=C.imm g;subst this;exact q _ H3 [] C f λ_=>New.nil};rw[n1] at g q;rw[n2];have:=n3.imm g;subst this;exact q _ H3 [] ((n3.same i).same p) f λ_=>New.nil|_=>cases e
end
section
variable{c:Vc}{X:Cx}{a b e:Lb}{pos:Pos}{F F':γ->Prop}{H H':Hp}{σ:St}{ds:Ds}{A:List γ}
theorem Oz.put1(S:Oz c F H σ ds A)(h:ds[i]?=some d)(f:d≠.u):∃(v:V)(B C:List γ),(σ++c.gv)[i]?=some (some v)/\Ow F H v d B/\(∀b,A.count b=B.count b+C.count b)/\∀{F':γ->Prop}{H':Hp}{W:γ->Prop}(a:D)(B':List γ),Kp F H W F' H'->(∀b∈C,¬W b)->Ow F' H' v a B'->∃A':List γ,Locs F' H' (σ++c.gv) (ds.set i a) A'/\∀b,A'.count b=B'.count b+C.count b:=by
 have g:A4 ds i []=some d:=by unfold A4;rw[h];rfl
 obtain⟨u,w,B,C,j,l,m,n,o⟩:=S.loc.place g f;cases l;refine⟨u,B,C,j,m,n,λ{F' H' W} a B' k p r=>?_⟩;obtain⟨A',e,q2⟩:=o a B' k p r;refine⟨A',?_,q2⟩;unfold Bd at e;rw[h] at e;exact e
theorem qo6{d:D}(h:d.known=true):d≠.u:=λz=>by subst z;cases h
def tMv(i:Nat):VT:=λds Q _=>orF (rdN i ds) λd=>Q d (ds.set i .u)
theorem emv(i:Nat)(k:X.N[i]?=some x:=by rfl)(m:Vis X.env.scope x:=by first|exact Oj rfl|exact Oi (Oj rfl)|exact Oi (Oi rfl))(n:N' x:=by decide)(a:(x==("__classdict__" : Str))=false:=by decide):VE c X (.Name x pos) (tMv i):=by refine⟨λDg s σ H Q I g=>?_,λp Q Q' r t u _=>qa5 λd=>u _ _⟩;obtain⟨F,p,A,r,S,x,q⟩:=g;refine qm0 k m n a Dg s σ H Q I ?_;obtain⟨d,h,q⟩:=qa7.mp q;obtain⟨h,w⟩:=qm8.mp h;obtain⟨v,B,C,l,y,j,D⟩:=S.put1 h (qo6 w);rw[zAn (qi8 k Dg σ H s I)] at l;obtain⟨A',E,q2⟩:=D .u [] (Kp.same (λ_ _ z=>z)) (λ_ _ z=>z) (.u v);refine⟨v,l,q v H F B A' y ⟨E,S.ok.count λb=>by rw[q2,j];simp,S.len,S.ag⟩ (S.ok.count λb=>by rw[zA0,q2,j];simp) ?_⟩;exact⟨λ_ _ e _=>e,λb o e z=>by rw[zA0,q2];have:=j b;simp;lia,λ_ f=>f,λ_ _ _ _ f=>f⟩
theorem share{B C:List γ}(o:Ok F H A)(a:∀b,A.count b=B.count b+C.count b)(d:∀b∈B,∃o,H b=some o/\Ei o=true)(c:∀b,A'.count b=C.count b):Ok (λb=>F b∨b∈B) H A'/\Oy F H A (λb=>F b∨b∈B) H A':=by refine⟨⟨λb=>by rw[c];have:=o.sep b;have:=a b;lia,λb f=>?_,λb f=>?_⟩,λ_ _ e _=>e,λb o e z=>by rw[c];have:=a b;lia,λb f=>.inl f,λb u e z f=>?_⟩;{rw[c];rcases f with f|f;{have:=o.fro b f;have:=a b;lia};have:=qb1.mp f;have:=o.sep b;have:=a b;lia};{rcases f with f|f;{exact o.ex b f};exact let ⟨u,e,_⟩:=d b f;⟨u,e⟩};rcases f with f|f;{exact f};have:=qb1.mp f;have:=a b;lia
abbrev PF:=Ds->Option (Nat×List Nat)
inductive LiftP(c:Vc)(pf:PF)(σ:St)(H:Hp)(Q:VK):Prop
 |mk (F:γ->Prop) (ds:Ds) (A:List γ) (i:Nat) (p:List Nat) (d:D) (S:Oz c F H σ ds A) (e:pf ds=some (i,p)) (g:A4 ds i p=some d) (n:d≠.u) (q:∀u w H',(σ++c.gv)[i]?=some (some u)->Walk H' u p w->Same H H'->Q w H'):LiftP c pf σ H Q
def Gr(c:Vc)(pf:PF):TE:=LiftP c pf
structure VP(c:Vc)(X:Cx)(e:Lb)(pf:PF):Prop where
 h:PE X e (Gr c pf)
theorem vpn(i:Nat)(h:X.N[i]?=some x:=by rfl)(l:Vis X.env.scope x:=by first|exact Oj rfl|exact Oi (Oj rfl)|exact Oi (Oi rfl))(m:N' x:=by decide)(b:(x==("__classdict__" : Str))=false:=by decide):VP c X (.Name x pos) (λ_=>some (i,[])):=by refine⟨λDg s σ H Q I f=>?_⟩;obtain⟨F,r,A,j,p,d,S,e,n,g,q⟩:=f;refine qm0 h l m b Dg s σ H Q I ?_;cases e;obtain⟨u,w,B,C,k,o,t,v,y⟩:=S.loc.place n g;cases o;have a:=k;rw[zAn (qi8 h Dg σ H s I)] at a;exact⟨u,a,q u u H k rfl λ_ _ z=>z⟩
theorem qQ1:∀{p:List Nat}{d x:D}{q:List Nat},d.getP (p++q)=some x->∃e,d.getP p=some e/\e.getP q=some x|[],d,x,q,h=>⟨d,rfl,h⟩|n::p,d,x,q,h=>by have h:D.getP d (n::(p++q))=some x:=h;unfold D.getP at h;cases a:d.kids[n]? with|none=>rw[a] at h;cases h|some y=>rw[a] at h;obtain⟨e,b,c⟩:=qQ1 h;exact⟨e,by unfold D.getP;rw[a];exact b,c⟩
theorem qQ2(h:A4 ds i (p++q)=some x):∃e,A4 ds i p=some e/\e.getP q=some x:=by unfold A4 at h ⊢;cases a:ds[i]? with|none=>rw[a] at h;cases h|some d=>rw[a] at h;exact qQ1 h
theorem Walk.snoc:∀{p:List Nat}{u v w:V}{n:Nat},Walk H u p v->Lnk H v n w->Walk H u (p++[n]) w|[],_,_,w,n,h,l=>by cases h;exact⟨w,l,rfl⟩|m::p,_,_,_,_,⟨x,h1,h2⟩,l=>⟨x,h1,h2.snoc l⟩
theorem qaR8{d e:D}(h:d.getP [n]=some e):d≠.u:=λz=>by subst z;cases (show (none:Option D)=some _ from h)
theorem Oz.place(S:Oz c F H σ ds A)(h:A4 ds i p=some d)(f:d≠.u)(g:(σ++c.gv)[i]?=some (some u))(j:Walk H u p w):∃(B C:List γ),Ow F H w d B/\(∀b,A.count b=B.count b+C.count b)/\∀{F':γ->Prop}{H':Hp}{W:γ->Prop}(a:D)(B':List γ),Kp F H W F' H'->(∀b∈C,¬W b)->Ow F' H' w a B'->∃A':List γ,Locs F' H' (σ++c.gv) (Bd ds i p a) A'/\∀b,A'.count b=B'.count b+C.count b:=by obtain⟨o,q,B,C,e,k,l,m,n⟩:=S.loc.place h f;rw[g] at e;cases e;cases j.fn k;exact⟨B,C,l,m,n⟩
def D.fidx(C:γ)(f:Str):D->Option Nat|.ins _ C' fs=>if C'=C then fs.findIdx? (λq=>f==q.1) else none|_=>none
theorem qI3{α:Type}:∀{fs:List (Str×α)}{f:Str}{n:Nat},fs.findIdx? (λq=>f==q.1)=some n->∃v,fs.lookup f=some v/\(fs.map (·.2))[n]?=some v|[],f,n,h=>by simp at h|(k,v)::r,f,n,h=>by rw[zCg] at h;rw[zAu];cases a:f==k with|true=>simp[a] at h;subst h;exact⟨v,rfl,rfl⟩|false=>simp[a] at h;obtain⟨m,b,rfl⟩:=h;obtain⟨w,c,d⟩:=qI3 b;exact⟨w,c,by simpa using d⟩
theorem qaa5{α β:Type}:∀{fs:List (Str×α)}{a:List (Str×β)}{f:Str},fs.map (·.1)=a.map (·.1)->fs.findIdx? (λq=>f==q.1)=a.findIdx? (λq=>f==q.1)
 |[],[],_,_=>rfl|[],_::_,_,h=>by simp at h|_::_,[],_,h=>by simp at h|(k,_)::r,(k',_)::r',f,h=>by
  have b:k=k':=by simp at h;exact h.1
  have c:r.map (·.1)=r'.map (·.1):=by simp at h;simpa using h.2
  subst b;rw[zCg,zCg,qaa5 c]
def pfFld(C:γ)(f:Str)(pf:PF):PF:=λds=>(pf ds).bind λq=>(A4 ds q.1 q.2).bind λd=>(d.fidx C f).map λn=>(q.1,q.2++[n])
theorem Bl(G:X.K=K)(l:VP c X a pf)(I:Cls K C)(J:qg1 K C f)(L:Ks a f X.env (eval a X.env)=eval a X.env:=by rfl):VP c X (.Attribute a f pos) (pfFld C f pf):=by subst G;refine⟨PE.mono (qV0 l.h L) λσ H Q m=>?_⟩;obtain⟨F,M,A,i,p,d,S,e,N,Z,q⟩:=m;obtain⟨⟨j,O⟩,P,e⟩:=zA1.mp e;obtain⟨t,e2,e⟩:=zA1.mp e;obtain⟨n,x,e⟩:=zA7.mp e;cases e;obtain⟨R,g1,g2⟩:=qQ2 N;rw[e2] at g1;cases g1;have b:=qaR8 g2;refine⟨F,M,A,j,O,t,S,P,e2,b,λu w H' y D s=>?_⟩;obtain⟨B,C0,r,_,_⟩:=(S.same s).place e2 b y D;cases t with|ins z C' T=>have g:(if C'=C then T.findIdx? (λq=>f==q.1) else none)=some n:=x;by_cases o:C'=C;{rw[if_pos o] at g;obtain⟨a,E,k,_,rfl,l,U,rs,_⟩:=r.ins_inv;rw[<-qaa5 U] at g;obtain⟨v,V,Y⟩:=qI3 g;subst o;exact⟨a,C',E,k,v,rfl,l,I,J,V,q u v H' y (D.snoc ⟨a,rfl,.inr (.inr (.inr ⟨C',E,k,l,Y⟩))⟩) s⟩};rw[if_neg o] at g;cases g|_=>cases x
def pfIx(pf:PF)(fb:FV):PF:=λds=>(pf ds).bind λq=>(A4 ds q.1 q.2).bind λd=>d.elems.bind λys=>(fb ds).bind λy=>y.asI.bind λk=>(ixN ys.length k).map λn=>(q.1,q.2++[n])
theorem Fs(f:VP c X a pf)(N:VV c X b ob fb)(O:qac8 b:=by exact λ_ _=>rfl):VP c X (.Subscript a b pos) (pfIx pf fb):=by refine⟨PE.mono (Ji qb5 f.h N.h O) λσ H Q C=>?_⟩;obtain⟨F,J,A,i,p,d,S,e,P,hd,q⟩:=C;obtain⟨⟨j,R⟩,T,e⟩:=zA1.mp e;obtain⟨K,e2,e⟩:=zA1.mp e;obtain⟨ys,D,e⟩:=zA1.mp e;obtain⟨y,U,e⟩:=zA1.mp e;obtain⟨k,V,e⟩:=zA1.mp e;obtain⟨n,E,e⟩:=zA7.mp e;cases e;obtain⟨W,g1,g2⟩:=qQ2 P;rw[e2] at g1;cases g1;have o:=qaR8 g2;refine⟨F,J,A,j,R,K,S,T,e2,o,λu w H1 G Y s=>?_⟩;refine⟨F,J,A,y,S.same s,U,λv2 H2 B2 Z L _=>?_⟩;have g:=s.trans L;have l:=Y.same L;obtain⟨B,C0,r,_,_⟩:=(S.same g).place e2 o G l;cases Z.asI V;have M:=(qZ6 E).2.1;cases K with|l z I=>cases D;obtain⟨a,m,A3,rfl,f,t,_⟩:=r.lst_inv;obtain⟨vn,v⟩:∃x,m[n]?=some x:=⟨_,zBl (by rw[t.len];exact M)⟩;refine .inl ⟨a,m,k,_,rfl,rfl,.inl (.inl f),?_,q u _ H2 G (l.snoc ⟨a,rfl,.inr (.inl ⟨m,f,v⟩)⟩) g⟩;unfold atI;rw[t.len,E];exact v|q I=>cases D;obtain⟨a,m,rfl,f,t⟩:=r.tup_inv;obtain⟨vn,v⟩:∃x,m[n]?=some x:=⟨_,zBl (by rw[t.len];exact M)⟩;refine .inr (.inl ⟨a,m,k,_,rfl,rfl,.inl (.inl f),?_,q u _ H2 G (l.snoc ⟨a,rfl,.inl ⟨m,f,v⟩⟩) g⟩);unfold atI;rw[t.len,E];exact v|_=>cases D
end
inductive Pl where
 |no
 |sl (i:Nat)
 |pl (i:Nat) (p:List Nat) (w:V)
abbrev VTB:=Ds->(Ds->List Pl->Ds->Prop)->XKd->Prop
inductive Ft(a:List (Option V)):List V->List Pl->Prop
 |nil:Ft a [] []
 |no {v:V} {vs:List V} {ps:List Pl} (t:Ft a vs ps):Ft a (v::vs) (.no::ps)
 |sl {v:V} {vs:List V} {ps:List Pl} {i:Nat} (h:a[i]?=some (some v)) (t:Ft a vs ps):Ft a (v::vs) (.sl i::ps)
 |so {v:V} {vs:List V} {ps:List Pl} {i:Nat} {p:List Nat} (t:Ft a vs ps):Ft a (v::vs) (.pl i p v::ps)
inductive LiftA(c:Vc)(t:VTB)(a:St)(H:Hp)(Q:List V->Hp->Prop):Prop
 |mk (F:γ->Prop) (ds:Ds) (A:List γ) (xe:XKd) (S:Oz c F H a ds A) (x:Xc c xe F H A) (q:t ds (λxs pls ds'=>∀vs H' F' T A',Oo F' H' vs xs T->Ft (a++c.gv) vs pls->Oz c F' H' a ds' A'->Ok F' H' (T++A')->Oy F H A F' H' (T++A')->Q vs H') xe):LiftA c t a H Q
def Fd(c:Vc)(t:VTB):TA:=LiftA c t
structure VAs(c:Vc)(X:Cx)(es:List Lb)(t:VTB):Prop where
 h:PA X es (Fd c t)
 m:∀ds (Q Q':Ds->List Pl->Ds->Prop) (xe xe':XKd),(∀d p ds',Q d p ds'->Q' d p ds')->(∀x ds',xe x ds'->xe' x ds')->t ds Q xe->t ds Q' xe'
section
variable{c:Vc}{X:Cx}{e:Lb}{es:List Lb}{ta:VT}{tr:VTB}{pf:PF}{F F':γ->Prop}{H H':Hp}{σ:St}{ds:Ds}{A:List γ}
def A7:VTB:=λds Q _=>Q [] [] ds
theorem Ad:VAs c X [] A7:=⟨PA.mono qm1 λσ H Q ⟨F,a,A,b,S,x,q⟩=>q [] H F [] A .nil .nil S S.ok Oy.refl,λa Q Q' b d e _=>e _ _ _⟩
def tbV(ta:VT)(tr:VTB):VTB:=λds Q xe=>ta ds (λx ds1=>tr ds1 (λxs ps a=>Q (x::xs) (.no::ps) a) xe) xe
theorem vaV(f:VE c X e ta)(g:VAs c X es tr)(w:J' (e::es) X.env=(false,eval e X.env)::J' es X.env:=by rfl):VAs c X (e::es) (tbV ta tr):=by
 refine⟨PA.mono (qc1 f.h g.h w) λσ H Q i=>?_,λo Q Q' j y B p=>f.m _ _ _ _ _ (λd a=>g.m _ _ _ _ _ (λC D k=>B _ _ _) p) p⟩;obtain⟨F,o,A,j,S,x,q⟩:=i;refine⟨F,o,A,j,S,x,f.m _ _ _ _ _ (λE a q v H1 F1 T A1 r S1 s t=>?_) (λ_ _ z=>z) q⟩;have l:Oy F H A F1 H1 A1:=t.count λb=>by rw[zA0];lia
 refine⟨F1,a,A1,j,S1,x.step l,g.m _ _ _ _ _ (λC D k q G H2 F2 T2 A2 I J S2 K u=>?_) (λ_ _ z=>z) q⟩;have n:Ow F2 H2 v E T:=r.keep (u.kp S1.ok S1.loc.cells) λb L O=>by have:=s.sep b;rw[zA0] at this;have:=qb1.mp L;lia
 obtain⟨M,N⟩:=u.frame s r.cells K;exact q (v::G) H2 F2 (T++T2) A2 (.cons n I) (.no J) S2 (by rw[zAm];exact M) (by rw[zAm];exact t.trans N)
def tbB(pf:PF)(tr:VTB):VTB:=λds Q xe=>orF (pf ds) λq=>orF (A4 ds q.1 q.2) λd=>d.known=true/\∀w,tr (Bd ds q.1 q.2 (.hole w)) (λxs ps a=>Q (d::xs) (.pl q.1 q.2 w::ps) a) xe
theorem vaB(I:VP c X e pf)(a:VAs c X es tr)(J:J' (e::es) X.env=(false,eval e X.env)::J' es X.env:=by rfl):VAs c X (e::es) (tbB pf tr):=by
 refine⟨PA.mono (qc1 I.h a.h J) λσ H Q g=>?_,λj Q Q' v K L M=>qa5 λz=>qa5 λd=>Nu λh w=>a.m _ _ _ _ _ (λN O k=>L _ _ _) M (h w)⟩;obtain⟨F,j,A,v,S,x,q⟩:=g;obtain⟨⟨i,p⟩,P,q⟩:=qa7.mp q;obtain⟨d,e2,y,q⟩:=qa7.mp q;refine⟨F,j,A,i,p,d,S,P,e2,qo6 y,λu w H1 R T s=>?_⟩;obtain⟨B,C,r,D,U⟩:=(S.same s).place e2 (qo6 y) R T;obtain⟨A1,V,q2⟩:=U (.hole w) [] (Kp.same λ_ _ z=>z) (λ_ _ z=>z) (.hole w);have l:Ok F H1 (B++A1):=(S.same s).ok.count λb=>by rw[zA0,q2,D];simp
 have E:Oy F H A F H1 (B++A1):=⟨λb o e _=>s b o e,λb o e z=>by rw[zA0,q2];have:=D b;simp;lia,λ_ f=>f,λ_ _ _ _ f=>f⟩;have S1:Oz c F H1 σ (Bd j i p (.hole w)) A1:=⟨V,l.right,S.len,S.ag⟩;have n:Oy F H A F H1 A1:=E.count λb=>by rw[zA0];lia
 refine⟨F,_,A1,v,S1,x.step n,a.m _ _ _ _ _ (λN O k q W H2 F2 T2 A2 Y Z S2 o2 G=>?_) (λ_ _ z=>z) (q w)⟩;have t:=r.keep (G.kp S1.ok S1.loc.cells) λb hb hc=>by have:=l.sep b;rw[zA0] at this;have:=qb1.mp hb;lia
 obtain⟨o3,s3⟩:=G.frame l r.cells o2;exact q (w::W) H2 F2 (B++T2) A2 (.cons t Y) (.so Z) S2 (by rw[zAm];exact o3) (by rw[zAm];exact E.trans s3)
def tbN(i:Nat)(tr:VTB):VTB:=λds Q xe=>(rdN i ds).isSome=true/\tr ds (λxs ps ds1=>orF (rdN i ds1) λd=>Q (d::xs) (.sl i::ps) (ds1.set i .u)) xe
theorem vaN(i:Nat)(e:VAs c X es tr)(E:J' (.Name x p::es) X.env=(false,eval (.Name x p) X.env)::J' es X.env:=by rfl)(t:X.N[i]?=some x:=by rfl)(G:Vis X.env.scope x:=by first|exact Oj rfl|exact Oi (Oj rfl)|exact Oi (Oi rfl))(J:N' x:=by decide)(f:(x==("__classdict__" : Str))=false:=by decide):VAs c X (.Name x p::es) (tbN i tr):=by
 refine⟨λpos Dg s σ H Q I g=>?_,λu Q Q' w K L M=>Nu (e.m _ _ _ _ _ (λO P j=>qa5 λd=>L _ _ _) M)⟩;obtain⟨F,u,A,w,S,x,k,q⟩:=g;refine qc1 (qm0 t G J f) e.h E pos Dg s σ H Q I ?_;have y:=qi8 t Dg σ H s I;obtain⟨d0,R⟩:=zB1.mp k;obtain⟨v,B0,a,_,_⟩:=S.name y R;refine⟨v,a,F,u,A,w,S,x,e.m _ _ _ _ _ (λO P j q T H2 F2 T2 A2 U V S2 D W=>?_) (λ_ _ z=>z) q⟩;obtain⟨d,l,q⟩:=qa7.mp q;obtain⟨l,Y⟩:=qm8.mp l;obtain⟨v',B,C,n,Z,h3,h4⟩:=S2.put1 l (qo6 Y);have o:=n;rw[zAn y,a] at n;cases n;obtain⟨A3,q1,q2⟩:=h4 .u [] (Kp.same λ_ _ z=>z) (λ_ _ z=>z) (.u v);have r:∀b,((B++T2)++A3).count b<=(T2++A2).count b:=λb=>by simp only[zA0,q2,h3];simp;lia
 exact q (v::T) H2 F2 (B++T2) A3 (.cons Z U) (.sl o V) ⟨q1,(D.count r).right,S.len,S.ag⟩ (D.count r) (W.count r)
def Al:List Pl->Ds->Ds->Option Ds
 |[],_,ds=>some ds|.no::ps,_::ys,ds=>Al ps ys ds|.sl i::ps,y::ys,ds=>Al ps ys (ds.set i y)|.pl i p v::ps,y::ys,ds=>match A4 ds i p with|some (.hole w)=>if w=v then Al ps ys (Bd ds i p y) else none|_=>none
 |_::_,[],_=>none
theorem qJ2{ds:Ds}(L:Locs F H τ ds C)(hi:τ[i]?=some (some v))(r:Ow F H v y B):∃A':List γ,Locs F H τ (ds.set i y) A'/\∀b,A'.count b<=B.count b+C.count b:=by
 have s:=L.len;have g:=(zA5.mp hi).1;obtain⟨d,h⟩:∃d,ds[i]?=some d:=⟨_,zBl ⋯⟩;obtain⟨σ1,o,σ2,a,c,A1,B0,A2,e,e2,j,k,m,n,t,p⟩:=L.split h;have f:τ[i]?=some o:=by rw[e];exact qI0 j
 rw[hi] at f;cases f;have q:ds.set i y=a++y::c:=by have:=congrArg (λl=>l.set i y) e2;rw[this,qt9 k]
 exact⟨A1++(B++A2),by rw[e,q];exact n.append (.so r p),λb=>by rw[m];simp only[zA0];lia⟩
theorem qy7{ds:Ds}{σ:List (Option V)}(e:Ft σ vs pls)(r:Oo F H (vs++more) ys B)(L:Locs F H σ ds C)(h:Al pls ys ds=some a):∃A':List γ,Locs F H σ a A'/\∀b,A'.count b<=B.count b+C.count b:=by
 induction e generalizing ys ds B C with
 |nil=>
  have h:some ds=some a:=by cases ys<;>exact h
  cases h;exact⟨C,L,λb=>⋯⟩
 |no e c=>cases r with|@cons _ _ A1 _ _ B1 r1 t=>obtain⟨A',d,q2⟩:=c t L h;exact⟨A',d,λb=>by rw[zA0];have:=q2 b;lia⟩
 |sl k e c=>cases r with|@cons _ _ A1 _ _ B1 r1 t=>obtain⟨A2,d,q2⟩:=qJ2 L k r1;obtain⟨A',f,g⟩:=c t d h;exact⟨A',f,λb=>by rw[zA0];have:=g b;have:=q2 b;lia⟩
 |@so v _ _ i p e c=>
  cases r with
  |@cons _ y A1 _ _ B1 r1 t=>
   unfold Al at h;split at h
   .rename_i w hg;by_cases j:w=v
    .rw[if_pos j] at h;subst j;obtain⟨u,o,B2,C2,q,s,l,m,n⟩:=L.place hg (by intro z;cases z);cases l;obtain⟨A2,d,q2⟩:=n y A1 (Kp.same (F:=F) λ_ _ z=>z) (λ_ _ z=>z) r1;obtain⟨A',f,g⟩:=c t d h;refine⟨A',f,λb=>?_⟩;have:=g b;have:=q2 b;have:=m b;simp only[Mi,zA0] at *
     lia
    rw[if_neg j] at h;cases h
   cases h
abbrev VSp:=Ds->DK->XKd->Prop
inductive LiftF(s:VSp)(vs:List V)(H:Hp)(Q:VK)(E:XK):Prop
 |mk (F:γ->Prop) (ds:Ds) (A:List γ) (r:Oo F H vs ds A) (o:Ok F H A) (q:s ds (λd ys=>∀v H' F' T A',Ow F' H' v d T->Oo F' H' vs ys A'->Ok F' H' (T++A')->Oy F H A F' H' (T++A')->Q v H')
   (λx ys=>∀e H' F' A',RepX F' H' e x->Oo F' H' vs ys A'->Ok F' H' A'->Oy F H A F' H' A'->E (.ref e) none H')):LiftF s vs H Q E
def F4(s:VSp):Sp:=LiftF s
def Br(s:VSp):Prop:=∀ds (Q Q':DK) (xe xe':XKd),(∀d a,Q d a->Q' d a)->(∀x a,xe x a->xe' x a)->s ds Q xe->s ds Q' xe'
def qn3(s:VSp)(dv:Ds)(tr:VTB):VT:=λds Q xe=>tr ds (λxs ps ds1=>s (xs++dv) (λd ys=>orF (Al ps ys ds1) λa=>Q d a) (λx ys=>orF (Al ps ys ds1) λa=>xe x a)) xe
theorem qax0(f:Br s)(g:VAs c X es tr):∀ds (Q Q':DK) (xe b:XKd),(∀d a,Q d a->Q' d a)->(∀x a,xe x a->b x a)->qn3 s dv tr ds Q xe->qn3 s dv tr ds Q' b:=λds Q Q' xe b h e=>g.m _ _ _ _ _ (λk l i=>f _ _ _ _ _ (λd j=>qa5 λz=>h _ _) (λx j=>qa5 λz=>e _ _)) e
def G5(dvs:List V)(dv:Ds):Prop:=∀F H,Oo F H dvs dv []
theorem qo8:G5 [] []:=λ_ _=>.nil
theorem qaw4:G5 [.non] [.non]:=λ_ _=>.cons .non .nil
theorem qaV0(C:G5 dvs dv)(D:Br s)(G:VAs c X es tr):∀σ H Q,Bh c (qn3 s dv tr) σ H Q->Jg (F4 s) dvs c.E (Fd c tr) σ H Q:=by
 rintro σ H Q ⟨F,I,A,J,S,x,q⟩;refine⟨F,I,A,J,S,x,G.m _ _ _ _ _ (λK R L q U H1 F1 T A1 M u S1 a w=>?_) (λ_ _ z=>z) q⟩;have rall:=M.append (C F1 H1);rw[zAc] at rall;refine⟨F1,K++dv,T,rall,a.left,D _ _ _ _ _ (λd N q v H2 F2 T2 A2 O j k h=>?_) (λy N q e H2 F2 A2 P j k h=>?_) q⟩
 .obtain⟨i,l,q⟩:=qa7.mp q;have f:Ok F1 H1 (A1++T):=a.count λb=>by simp only[zA0];lia
  obtain⟨n,o⟩:=h.frame f S1.loc.cells k;have L1:=S1.loc.keep (h.kp a.left rall.cells) λb p g=>by have:=a.sep b;rw[zA0] at this;have:=qb1.mp p;lia
  obtain⟨A3,r,q2⟩:=qy7 u j L1 l;have g:∀b,(T2++A3).count b<=(A1++(T2++A2)).count b:=λb=>by simp only[zA0];have:=q2 b;lia
  have B:=n.count g;have t:=(w.trans (o.pre λb=>by simp only[zA0];lia)).count g;exact q v H2 F2 T2 A3 O ⟨r,B.right,S.len,S.ag⟩ B t
 obtain⟨i,l,q⟩:=qa7.mp q;have f:Ok F1 H1 (A1++T):=a.count λb=>by simp only[zA0];lia
 obtain⟨n,o⟩:=h.frame f S1.loc.cells k;have L1:=S1.loc.keep (h.kp a.left rall.cells) λb p g=>by have:=a.sep b;rw[zA0] at this;have:=qb1.mp p;lia
 obtain⟨A3,r,q2⟩:=qy7 u j L1 l;have g:∀b,A3.count b<=(A1++A2).count b:=λb=>by simp only[zA0];have:=q2 b;lia
 have t:Oy F H A F2 H2 A3:=(w.trans (o.pre λb=>by simp only[zA0];lia)).count g;exact x y i σ e H2 F2 A3 q P ⟨r,(n.count g),S.len,S.ag⟩ t
end
structure Ej(cm:Bool)(P:K8)(w:La)(K:Nx)(mg:Str->Option V')(base:Heap)(k:Nat)(f:γ)(fd:ε)(ps:List Str)(s:VSp):Prop where
 ok:Dx cm P w K mg base (CX1 P w) k f fd ps (F4 s)
 m:Br s
abbrev VFn:=Ej true
section
variable{c:Vc}{X:Cx}{a e o:Lb}{es:List Lb}{tr:VTB}{pf:PF}{F F1:γ->Prop}{H H1:Hp}{σ:St}{ds ds1:Ds}{A A1 T:List γ}{pos p apos:Pos}{x qual m:Str}{st:Lc}{f C:γ}{fd:ε}{ps:List Str}{k:Nat}{s:VSp}{dvs:List V}{dv:Ds}
theorem Aj(D:Df X.K X.mg x qual st f fd ps)(G:Ej cm X.prog X.w X.K X.mg X.base k f fd ps s)(i:Lands X c.E)(j:O0 cm k X.A)(a:VAs c X (e::es) tr)(l:Gl X x:=by rfl)(d:N' x:=by decide)(n:J' (e::es) X.env=(false,eval e X.env)::J' es X.env:=by rfl)(g:(backTo pos (J' es X.env)).any (·.1)=false:=by rfl):VE c X (.Call (.Name x p) (e::es) [] pos) (qn3 s [] tr):=⟨PE.mono (qaz7 G.ok j l D.m D.F.kp D.b .nil i.passes a.h d n g) (qaV0 qo8 G.m a),qax0 G.m a⟩
theorem qaq2{K:DK}(B:G5 dvs dv)(C:Br s)(S:Oz c F H σ ds A)(x:Xc c xe F H A)(r1:Oo F1 H1 vs xs T)(u:Ft (σ++c.gv) vs pls)(S1:Oz c F1 H1 σ ds1 A1)(f:Ok F1 H1 (T++A1))(w:Oy F H A F1 H1 (T++A1))(D:∀d i,K d i->∀v H' F' T A',Ow F' H' v d T->Oz c F' H' σ i A'->Ok F' H' (T++A')->Oy F H A F' H' (T++A')->Q v H')(q:s (xs++dv) (λd ys=>orF (Al pls ys ds1) λa=>K d a) (λx ys=>orF (Al pls ys ds1) λa=>xe x a)):F4 s (vs++dvs) H1 Q (c.E σ):=by
 have rall:=r1.append (B F1 H1);rw[zAc] at rall;refine⟨F1,xs++dv,T,rall,f.left,C _ _ _ _ _ (λd ys q v H2 F2 T2 A2 G k l j=>?_) (λy ys q e H2 F2 A2 I k l j=>?_) q⟩
 .obtain⟨a,m,q⟩:=qa7.mp q;have g:Ok F1 H1 (A1++T):=f.count λb=>by simp only[zA0];lia
  obtain⟨n,o⟩:=j.frame g S1.loc.cells l;have L1:=S1.loc.keep (j.kp f.left rall.cells) λb p h=>by have:=f.sep b;rw[zA0] at this;have:=qb1.mp p;lia
  obtain⟨A3,r,q2⟩:=qy7 u k L1 m;have h:∀b,(T2++A3).count b<=(A1++(T2++A2)).count b:=λb=>by simp only[zA0];have:=q2 b;lia
  have z:Ok F2 H2 (T2++A3):=n.count h;have t:=(w.trans (o.pre λb=>by simp only[zA0];lia)).count h;exact D d a q v H2 F2 T2 A3 G ⟨r,z.right,S.len,S.ag⟩ z t
 obtain⟨a,m,q⟩:=qa7.mp q;have g:Ok F1 H1 (A1++T):=f.count λb=>by simp only[zA0];lia
 obtain⟨n,o⟩:=j.frame g S1.loc.cells l;have L1:=S1.loc.keep (j.kp f.left rall.cells) λb p h=>by have:=f.sep b;rw[zA0] at this;have:=qb1.mp p;lia
 obtain⟨A3,r,q2⟩:=qy7 u k L1 m;have h:∀b,A3.count b<=(A1++A2).count b:=λb=>by simp only[zA0];have:=q2 b;lia
 have t:Oy F H A F2 H2 A3:=(w.trans (o.pre λb=>by simp only[zA0];lia)).count h;exact x y a σ e H2 F2 A3 q I ⟨r,(n.count h),S.len,S.ag⟩ t
def D.isM(C:γ)(m:Str):D->Bool|.ins _ C' fs=>decide (C'=C)&&(fs.lookup m).isNone|_=>false
theorem qH7{α β:Type}:∀{fs:List (Str×α)}{a:List (Str×β)}{f:Str},fs.map (·.1)=a.map (·.1)->(fs.lookup f).isNone=(a.lookup f).isNone
 |[],[],_,_=>rfl|[],_::_,_,h=>by simp at h|_::_,[],_,h=>by simp at h|(k,_)::r,(k',_)::r',f,h=>by
  have b:k=k':=by simp at h;exact h.1
  have c:r.map (·.1)=r'.map (·.1):=by simp at h;simpa using h.2
  subst b;rw[zAu,zAu];cases f==k with|true=>rfl|false=>exact qH7 c
theorem Ow.isM(r:Ow F H v d B)(h:d.isM C m=true):∃a dx fs,v=.ref a/\H a=some (.ins C dx fs)/\fs.lookup m=none:=by cases d with|ins z C' f=>have h:=zAg.mp h;obtain⟨a,dx,b,A,rfl,g,e,i,_⟩:=r.ins_inv;have:=zA8 h.1;subst this;refine⟨a,dx,b,rfl,g,?_⟩;have c:=h.2;rw[<-qH7 e] at c;exact Option.isNone_iff_eq_none.mp c|_=>cases h
def qS1(C:γ)(m:Str)(s:VSp)(dv:Ds)(pf:PF)(tr:VTB):VT:=λds Q xe=>orF (pf ds) λq=>orF (A4 ds q.1 q.2) λd=>d.isM C m=true/\∀w,tr (Bd ds q.1 q.2 (.hole w)) (λxs ps ds1=>s (d::(xs++dv)) (λr ys=>orF (Al (Pl.pl q.1 q.2 w::ps) ys ds1) λa=>Q r a) (λx ys=>orF (Al (Pl.pl q.1 q.2 w::ps) ys ds1) λa=>xe x a)) xe
theorem qY9(f:Br s)(g:VAs c X es tr):∀ds (Q Q':DK) (xe b:XKd),(∀d a,Q d a->Q' d a)->(∀x a,xe x a->b x a)->qS1 C m s dv pf tr ds Q xe->qS1 C m s dv pf tr ds Q' b:=λds Q Q' xe b i e=>qa5 λz=>qa5 λd=>Nu λh w=>g.m _ _ _ _ _ (λl n j=>f _ _ _ _ _ (λd k=>qa5 λz=>i _ _) (λx k=>qa5 λz=>e _ _)) e (h w)
theorem qaA3(M:G5 dvs dv)(N:Br s)(O:VAs c X es tr):∀σ H Q,Bh c (qS1 C m s dv pf tr) σ H Q->Hf C m (F4 s) dvs c.E (Gr c pf) (Fd c tr) σ H Q:=by
 rintro σ H Q ⟨F,y,A,P,S,x,q⟩;obtain⟨⟨i,p⟩,R,q⟩:=qa7.mp q;obtain⟨d,e2,D,q⟩:=qa7.mp q;have g:d≠.u:=λz=>by subst z;cases D
 refine⟨F,y,A,i,p,d,S,R,e2,g,λu w H1 T U j=>?_⟩;obtain⟨B,C0,r,G,V⟩:=(S.same j).place e2 g T U;obtain⟨a,W,Y,rfl,k,l⟩:=r.isM D;refine⟨a,W,Y,rfl,k,l,?_⟩;obtain⟨A1,Z,q2⟩:=V (.hole (.ref a)) [] (Kp.same (F:=F) λ_ _ z=>z) (λ_ _ z=>z) (.hole _);have n:Ok F H1 (B++A1):=(S.same j).ok.count λb=>by rw[zA0,q2,G];simp
 have I:Oy F H A F H1 (B++A1):=⟨λb o e _=>j b o e,λb o e z=>by rw[zA0,q2];have:=G b;simp;lia,λ_ f=>f,λ_ _ _ _ f=>f⟩;have S1:Oz c F H1 σ (Bd y i p (.hole (.ref a))) A1:=⟨Z,n.right,S.len,S.ag⟩;have t:Oy F H A F H1 A1:=I.count λb=>by rw[zA0];lia
 refine⟨F,_,A1,P,S1,x.step t,O.m _ _ _ _ _ (λJ ps a0 q K H2 F2 T2 A2 r2 pk S2 o2 L=>?_) (λ_ _ z=>z) (q (.ref a))⟩;have v:Ow F2 H2 (.ref a) d B:=r.keep (L.kp S1.ok S1.loc.cells) λb hb hc=>by have:=n.sep b;rw[zA0] at this;have:=qb1.mp hb;lia
 obtain⟨o3,s3⟩:=L.frame n r.cells o2;exact qaq2 (vs:=.ref a::K) (xs:=d::J) M N S x (.cons v r2) (.so pk) S2 (by rw[zAm];exact o3) (by rw[zAm];exact I.trans s3) (λd a1 h=>h) q
def qE6(C:γ)(m:Str)(s:VSp)(dv:Ds)(i:Nat)(tr:VTB):VT:=λds Q xe=>(orF (rdN i ds) λd=>d.isM C m=true)/\tr ds (λxs ps ds1=>orF (rdN i ds1) λd=>s (d::(xs++dv)) (λr ys=>orF (Al (.sl i::ps) ys (ds1.set i .u)) λa=>Q r a) (λx ys=>orF (Al (.sl i::ps) ys (ds1.set i .u)) λa=>xe x a)) xe
theorem qP2(f:Br s)(g:VAs c X es tr):∀ds (Q Q':DK) (xe b:XKd),(∀d a,Q d a->Q' d a)->(∀x a,xe x a->b x a)->qE6 C m s dv i tr ds Q xe->qE6 C m s dv i tr ds Q' b:=λds Q Q' xe b h e=>Nu (g.m _ _ _ _ _ (λl n j=>qa5 λd=>f _ _ _ _ _ (λd k=>qa5 λz=>h _ _) (λx k=>qa5 λz=>e _ _)) e)
theorem qam1{σ:St}{H:Hp}(t:G5 dvs dv)(u:Br s)(w:VAs c X es tr)(hi:i<σ.length)(q:Bh c (qE6 C m s dv i tr) σ H Q):Hf C m (F4 s) dvs c.E (Fk i) (Fd c tr) σ H Q:=by
 obtain⟨F,y,A,D,S,x,f,q⟩:=q;obtain⟨W,G,f⟩:=qa7.mp f;obtain⟨v,B0,e,I,_⟩:=S.name hi G;obtain⟨a,J,K,rfl,g,j⟩:=I.isM f;refine⟨.ref a,e,a,J,K,rfl,g,j,F,y,A,D,S,x,w.m _ _ _ _ _ (λY Z L q vs H2 F2 T2 A2 M N S2 r O=>?_) (λ_ _ z=>z) q⟩;obtain⟨d,k,q⟩:=qa7.mp q;obtain⟨k,l⟩:=qm8.mp k;obtain⟨v',B,C0,n,P,R,T⟩:=S2.put1 k (qo6 l);have o:=n;rw[zAn hi,e] at n;cases n;obtain⟨A3,U,q2⟩:=T .u [] (Kp.same λ_ _ z=>z) (λ_ _ z=>z) (.u _);have p:∀b,((B++T2)++A3).count b<=(T2++A2).count b:=λb=>by simp only[zA0,q2,R];simp;lia
 exact qaq2 t u S x (.cons P M) (.sl o N) ⟨U,(r.count p).right,S.len,S.ag⟩ (r.count p) (O.count p) (λd V h=>h) q
theorem qj0(i:Nat){xn:Str}{p0:Pos}(D:Md X.K C m qual st f fd ps)(n:Cls X.K C)(G:Ej cm X.prog X.w X.K X.mg X.base k f fd ps s)(o:Lands X c.E)(p:O0 cm k X.A)(a:VAs c X (e::es) tr)(l:X.N[i]?=some xn:=by rfl)(r:Vis X.env.scope xn:=by first|exact Oj rfl|exact Oi (Oj rfl)|exact Oi (Oi rfl))(t:N' xn:=by decide)(d:(xn==("__classdict__" : Str))=false:=by decide)(g:J' (e::es) X.env=(false,eval e X.env)::J' es X.env:=by rfl)(j:(backTo pos (J' es X.env)).any (·.1)=false:=by rfl)(u:eval (.Call (.Attribute (.Name xn p0) m apos) (e::es) [] pos) X.env=(do
     let ov<-eval (.Name xn p0) X.env
     standAt apos.atName
     let (f,first)<-holding [ov] (getMethod ov m pl)
     callWith pos f first (backTo pos (J' (e::es) X.env)) (backToKw pos (Kw [] X.env))):=by rfl):VE c X (.Call (.Attribute (.Name xn p0) m apos) (e::es) [] pos) (qE6 C m s [] i tr):=⟨λDg s σ H Q I q=>qak1 (qm0 l r t d) n D.me G.ok p D.b .nil o.passes a.h g j u Dg s σ H Q I (qam1 qo8 G.m a (qi8 l Dg σ H s I) q),qP2 G.m a⟩
theorem qe9(i:Nat){xn:Str}{p0:Pos}(D:Md X.K C m qual st f fd ps)(j:Cls X.K C)(G:Ej cm X.prog X.w X.K X.mg X.base k f fd ps s)(l:Lands X c.E)(n:O0 cm k X.A)(g:X.N[i]?=some xn:=by rfl)(d:Vis X.env.scope xn:=by first|exact Oj rfl|exact Oi (Oj rfl)|exact Oi (Oi rfl))(o:N' xn:=by decide)(e:(xn==("__classdict__" : Str))=false:=by decide)(p:eval (.Call (.Attribute (.Name xn p0) m apos) [] [] pos) X.env=(do
     let ov<-eval (.Name xn p0) X.env
     standAt apos.atName
     let (f,first)<-holding [ov] (getMethod ov m pl)
     callWith pos f first (backTo pos (J' [] X.env)) (backToKw pos (Kw [] X.env))):=by rfl):VE c X (.Call (.Attribute (.Name xn p0) m apos) [] [] pos) (qE6 C m s [] i A7):=⟨λDg h σ H Q I q=>qK5 (qm0 g d o e) j D.me G.ok n D.b .nil l.passes p Dg h σ H Q I (by
   obtain⟨v,d,a,r,t,u,x,y,F2,z,A2,B,S2,F,q2⟩:=qam1 (X:=X) qo8 G.m Ad (qi8 g Dg σ H h I) q;exact⟨v,d,a,r,t,u,x,y,q2 [] H F2 [] A2 .nil .nil S2 S2.ok Oy.refl⟩),qP2 (c:=c) G.m (X:=X) Ad⟩
theorem Ju(D:Md X.K C m qual st f fd ps)(i:Cls X.K C)(G:Ej cm X.prog X.w X.K X.mg X.base k f fd ps s)(j:Lands X c.E)(l:O0 cm k X.A)(n:VP c X o pf)(a:VAs c X (e::es) tr)(d:J' (e::es) X.env=(false,eval e X.env)::J' es X.env:=by rfl)(g:(backTo pos (J' es X.env)).any (·.1)=false:=by rfl)(p:eval (.Call (.Attribute o m apos) (e::es) [] pos) X.env=(do
     let ov<-eval o X.env
     standAt apos.atName
     let (f,first)<-holding [ov] (getMethod ov m pl)
     callWith pos f first (backTo pos (J' (e::es) X.env)) (backToKw pos (Kw [] X.env))):=by rfl):VE c X (.Call (.Attribute o m apos) (e::es) [] pos) (qS1 C m s [] pf tr):=⟨PE.mono (qak1 n.h i D.me G.ok l D.b .nil j.passes a.h d g p) (qaA3 qo8 G.m a),qY9 G.m a⟩
theorem Jv(D:Md X.K C m qual st f fd ps)(g:Cls X.K C)(G:Ej cm X.prog X.w X.K X.mg X.base k f fd ps s)(j:Lands X c.E)(l:O0 cm k X.A)(n:VP c X o pf)(r:eval (.Call (.Attribute o m apos) [] [] pos) X.env=(do
     let ov<-eval o X.env
     standAt apos.atName
     let (f,first)<-holding [ov] (getMethod ov m pl)
     callWith pos f first (backTo pos (J' [] X.env)) (backToKw pos (Kw [] X.env))):=by rfl):VE c X (.Call (.Attribute o m apos) [] [] pos) (qS1 C m s [] pf A7):=⟨PE.mono (qK5 n.h g D.me G.ok l D.b .nil j.passes r) λσ H Q q=>by
   obtain⟨F,t,A,i,p,d,S,v,e2,e,q⟩:=qaA3 (X:=X) qo8 G.m Ad σ H Q q;refine⟨F,t,A,i,p,d,S,v,e2,e,λu w H1 x y z=>?_⟩;obtain⟨a,B,I,J,L,M,F2,N,A2,O,S2,P,q2⟩:=q u w H1 x y z;exact⟨a,B,I,J,L,M,q2 [] H1 F2 [] A2 .nil .nil S2 S2.ok Oy.refl⟩,qY9 (c:=c) G.m (X:=X) Ad⟩
def qS2(C:γ)(s:VSp)(dv:Ds)(tr:VTB):VT:=λds Q xe=>tr ds (λxs ps ds1=>s (.ins false C []::(xs++dv)) (λd ys=>d.isN=some true/\orF ys.head? λself=>orF (Al ps ys.tail ds1) λa=>Q self a) (λx ys=>orF (Al ps ys.tail ds1) λa=>xe x a)) xe
theorem qL5(f:Br s)(g:VAs c X es tr):∀ds (Q Q':DK) (xe b:XKd),(∀d a,Q d a->Q' d a)->(∀x a,xe x a->b x a)->qS2 C s dv tr ds Q xe->qS2 C s dv tr ds Q' b:=λds Q Q' xe b h e=>g.m _ _ _ _ _ (λk l i=>f _ _ _ _ _ (λd j=>Nu (qa5 λz=>qa5 λw=>h _ _)) (λx j=>qa5 λz=>e _ _)) e
theorem qam5(N:G5 dvs dv)(O:Br s)(P:VAs c X es tr):∀σ H Q,Bh c (qS2 C s dv tr) σ H Q->tMake C (F4 s) dvs c.E (Fd c tr) σ H Q:=by
 rintro σ H Q ⟨F,R,A,U,S,x,q⟩;refine⟨F,R,A,U,S,x,P.m _ _ _ _ _ (λV ps h q W H1 F1 T A1 K L S1 Y Z=>?_) (λ_ _ z=>z) q⟩;intro y dy n o p;have same:Same H1 (upd (upd H1 dy (.own y)) y (.ins C dy [])):=(Same.new o).trans (Same.new (by rw[qd1 (Ne.symm p)];exact n));have rall:Oo F1 (upd (upd H1 dy (.own y)) y (.ins C dy [])) (.ref y::(W++dvs)) (.ins false C []::(V++dv)) ([y]++(T++[])) :=
  .cons (.ins qb8 rfl .nil) ((K.append (N F1 H1)).same same)
 rw[zAc] at rall;have i:=(qh8 n).ok Y (λb a=>by rcases zAb.mp a with a|a;{exact K.cells b a};exact S1.loc.cells b a) same;have r:Ok F1 (upd (upd H1 dy (.own y)) y (.ins C dy [])) ([y]++T):=i.count λb=>by simp only[zA0];lia
 have M:=Z.trans ((qh8 n).stp same);have S1':=S1.same same;refine⟨F1,_,[y]++T,rall,r,O _ _ _ _ _ (λd ys q v H2 F2 T2 A2 r2 t u j=>?_) (λex ys q e H2 F2 A2 rx t u j=>?_) q⟩
 .obtain⟨hn,q⟩:=q;have hv:v=.non:=by cases d with|non=>cases r2;rfl|_=>cases hn
  refine⟨hv,?_⟩;obtain⟨self,eh,q⟩:=qa7.mp q;obtain⟨k,w,B⟩:=qa7.mp q;have g:Ok F1 _ (A1++([y]++T)):=i.count λb=>by simp only[zA0];lia
  obtain⟨D,G⟩:=j.frame g S1'.loc.cells u;have L1:Locs F2 H2 (σ++c.gv) h A1:=S1'.loc.keep (j.kp r rall.cells) λb a f=>by have:=i.sep b;simp only[zA0] at this f;have:=qb1.mp a;lia
  cases t with
  |@cons _ d0 Aself _ ys' B' rself rrest=>
   cases eh;obtain⟨A3,I,q2⟩:=qy7 L rrest L1 w;have f:∀b,(Aself++A3).count b<=(A1++(T2++(Aself++B'))).count b:=λb=>by simp only[zA0];have:=q2 b;lia
   have l:=D.count f;have J:Oy F H A F2 H2 (Aself++A3):=(M.trans (G.pre λb=>by simp only[zA0];lia)).count f;exact B (.ref y) H2 F2 Aself A3 rself ⟨I,l.right,S.len,S.ag⟩ l J
 obtain⟨k,w,B⟩:=qa7.mp q;have g:Ok F1 _ (A1++([y]++T)):=i.count λb=>by simp only[zA0];lia
 obtain⟨D,G⟩:=j.frame g S1'.loc.cells u;have L1:Locs F2 H2 (σ++c.gv) h A1:=S1'.loc.keep (j.kp r rall.cells) λb a f=>by have:=i.sep b;simp only[zA0] at this f;have:=qb1.mp a;lia
 cases t with
 |@cons _ d0 Aself _ ys' B' rself rrest=>
  obtain⟨A3,I,q2⟩:=qy7 L rrest L1 w;have f:∀b,A3.count b<=(A1++(Aself++B')).count b:=λb=>by simp only[zA0];have:=q2 b;lia
  have l:=D.count f;have J:Oy F H A F2 H2 A3:=(M.trans (G.pre λb=>by simp only[zA0];lia)).count f;exact x ex k σ e H2 F2 A3 B rx ⟨I,l,S.len,S.ag⟩ J
theorem Ho(i:Cl X.K X.mg x C)(M:Mk X.K C f)(D:Md X.K C m qual st f fd ps)(G:Ej cm X.prog X.w X.K X.mg X.base k f fd ps s)(j:Lands X c.E)(l:O0 cm (k+1) X.A)(a:VAs c X (e::es) tr)(n:Gl X x:=by rfl)(d:N' x:=by decide)(o:J' (e::es) X.env=(false,eval e X.env)::J' es X.env:=by rfl)(g:(backTo pos (J' es X.env)).any (·.1)=false:=by rfl):VE c X (.Call (.Name x p) (e::es) [] pos) (qS2 C s [] tr):=⟨PE.mono (qak2 M G.ok l n i.m D.b .nil j.passes a.h d o g) (qam5 qo8 G.m a),qL5 G.m a⟩
theorem qbc9{ndv:List V'}(i:Cl X.K X.mg x C)(M:Mk X.K C f)(b:Binds X.K fd ps [.none])(G:Ej cm X.prog X.w X.K X.mg X.base k f fd ps s)(j:Lands X c.E)(l:O0 cm (k+1) X.A)(a:VAs c X (e::es) tr)(n:Gl X x:=by rfl)(d:N' x:=by decide)(o:J' (e::es) X.env=(false,eval e X.env)::J' es X.env:=by rfl)(g:(backTo pos (J' es X.env)).any (·.1)=false:=by rfl):VE c X (.Call (.Name x p) (e::es) [] pos) (qS2 C s [.non] tr):=⟨PE.mono (qak2 M G.ok l n i.m b (dvs:=[.non]) (.cons rfl .nil) j.passes a.h d o g) (qam5 qaw4 G.m a),qL5 G.m a⟩
def tLstV(tr:VTB):VT:=λds Q xe=>tr ds (λxs ps ds1=>xs.length<=big/\Q (.l false xs) ds1) xe
def tTupV(tr:VTB):VT:=λds Q xe=>tr ds (λxs ps ds1=>xs.length<=big/\Q (.q xs) ds1) xe
theorem Il(d:VAs c X es tr):VE c X (.List es pos) (tLstV tr):=by refine⟨PE.mono (qat4 d.h) λσ H Q e=>?_,λj Q Q' k l n o=>d.m _ _ _ _ _ (λp r f=>Nu (n _ _)) o⟩;obtain⟨F,j,A,k,S,x,q⟩:=e;refine⟨F,j,A,k,S,x,d.m _ _ _ _ _ (λp r f q s H1 F1 T A1 g B S1 t v=>⟨by rw[g.len];exact zAi q.1 qk2,λy i=>?_⟩) (λ_ _ z=>z) q⟩;have same:=Same.new (u:=.l s) i;have w:=(qh8 i).ok t (λb a=>by rcases zAb.mp a with a|a;{exact g.cells b a};exact S1.loc.cells b a) same;exact q.2 (.ref y) _ F1 (y::T) A1 (.l qb8 (g.same same)) (S1.same same) w (v.trans ((qh8 i).stp same))
theorem Jw(a:VAs c X es tr):VE c X (.Tuple es n pos) (tTupV tr):=by refine⟨PE.mono (qaP0 a.h) λσ H Q b=>?_,λe Q Q' f j k l=>a.m _ _ _ _ _ (λo p d=>Nu (k _ _)) l⟩;obtain⟨F,e,A,f,S,x,q⟩:=b;refine⟨F,e,A,f,S,x,a.m _ _ _ _ _ (λo p d q r H1 F1 T A1 g v S1 s t=>⟨by rw[g.len];exact zAi q.1 qk2,λy i=>?_⟩) (λ_ _ z=>z) q⟩;have same:=Same.new (u:=.q r) i;exact q.2 (.ref y) _ F1 T A1 (qal8 i g) (S1.same same) (s.same same) (t.trans (.same same))
end
structure VEnds where
 nx:Ds->Prop
 rt:DK
 bk:Ds->Prop
 ct:Ds->Prop
 xe:XKd
abbrev VTS:=VEnds->Ds->Prop
structure VEnds.Le(e e':VEnds):Prop where
 nx:∀ds,e.nx ds->e'.nx ds
 rt:∀d ds,e.rt d ds->e'.rt d ds
 bk:∀ds,e.bk ds->e'.bk ds
 ct:∀ds,e.ct ds->e'.ct ds
 xe:∀x ds,e.xe x ds->e'.xe x ds
structure Lk(c:Vc)(E:Ee)(F:γ->Prop)(H:Hp)(A:List γ)(e:VEnds):Prop where
 nx:∀ds' a' H' F' A',e.nx ds'->Oz c F' H' a' ds' A'->Oy F H A F' H' A'->E.nx a' H'
 rt:∀d ds' v a' H' F' T A',e.rt d ds'->Ow F' H' v d T->Oz c F' H' a' ds' A'->Ok F' H' (T++A')->Oy F H A F' H' (T++A')->E.rt v H'
 bk:∀ds' a' H' F' A',e.bk ds'->Oz c F' H' a' ds' A'->Oy F H A F' H' A'->E.bk a' H'
 ct:∀ds' a' H' F' A',e.ct ds'->Oz c F' H' a' ds' A'->Oy F H A F' H' A'->E.ct a' H'
 xe:Xc c e.xe F H A
theorem Lk.step(l:Lk c E F H A e)(s:Oy F H A F1 H1 A1):Lk c E F1 H1 A1 e:=⟨λa b' H' F' A' h S t=>l.nx a b' H' F' A' h S (s.trans t),λd a v b' H' F' T A' h r S o t=>l.rt d a v b' H' F' T A' h r S o (s.trans t),λa b' H' F' A' h S t=>l.bk a b' H' F' A' h S (s.trans t),λa b' H' F' A' h S t=>l.ct a b' H' F' A' h S (s.trans t),l.xe.step s⟩
inductive LiftS(c:Vc)(t:VTS)(E:Ee)(a:St)(H:Hp):Prop
 |mk (F:γ->Prop) (ds:Ds) (A:List γ) (e:VEnds) (S:Oz c F H a ds A) (l:Lk c E F H A e) (q:t e ds):LiftS c t E a H
def Ek(c:Vc)(t:VTS):TS:=LiftS c t
structure VS(c:Vc)(X:Cx)(st:Lc)(t:VTS):Prop where
 h:PS X st (Ek c t)
 m:∀(e e':VEnds) ds,e.Le e'->t e ds->t e' ds
structure VSs(c:Vc)(X:Cx)(st:List Lc)(t:VTS):Prop where
 h:PSs X st (Ek c t)
 m:∀(e e':VEnds) ds,e.Le e'->t e ds->t e' ds
section
variable{c:Vc}{X:Cx}{a b e:Lb}{J:Lc}{rest:List Lc}{t u:VTS}{te:VT}{pos:Pos}
def G6:VTS:=λe ds=>e.nx ds
def Gf(t u:VTS):VTS:=λe ds=>t {e with nx:=u e} ds
theorem Av:VSs c X [] G6:=⟨PSs.mono qaz2 λE G H ⟨F,a,A,e,S,l,q⟩=>l.nx a G H F A q S Oy.refl,λe b a h=>h.nx a⟩
theorem Ab(h1:VS c X J t)(h2:VSs c X rest u):VSs c X (J::rest) (Gf t u):=by exact⟨PSs.mono (qC4 h1.h h2.h) λE G H ⟨F,a,A,e,S,l,q⟩=>(⟨F,a,A,{e with nx:=u e},S,⟨λb G' H' F' A' q S' s=>⟨F',b,A',e,S',l.step s,q⟩,l.rt,l.bk,l.ct,l.xe⟩,q⟩),λe d a h=>h1.m _ _ _ ⟨λa=>h2.m _ _ _ h,h.rt,h.bk,h.ct,h.xe⟩⟩
theorem Ag(h1:VS c X J t):VSs c X [J] t:=⟨qy1 h1.h,h1.m⟩
def sRet(te:VT):VTS:=λe ds=>te ds e.rt e.xe
theorem Ap(h:VE c X e te):VS c X (.Return (some e) pos) (sRet te):=by refine⟨PS.mono (qU8 h.h) λE G H ⟨F,b,A,e,S,l,q⟩=>⟨F,b,A,e.xe,S,l.xe,h.m _ _ _ _ _ (λd a q v H' F' T A' r S' o s=>l.rt d a v G H' F' T A' q r S' o s) (λ_ _ z=>z) q⟩,λe g b f=>h.m _ _ _ _ _ f.rt f.xe⟩
def sExpr(te:VT):VTS:=λe ds=>te ds (λ_ a=>e.nx a) e.xe
theorem Bb(h:VE c X e te)(i:swapsWith e none pos.line X.env=pure false:=by rfl):VS c X (.Expr e pos) (sExpr te):=by refine⟨PS.mono (qaO1 h.h i) λE G H ⟨F,f,A,e,S,l,q⟩=>⟨F,f,A,e.xe,S,l.xe,h.m _ _ _ _ _ (λd a q v H' F' T A' r S' o s=>l.nx a G H' F' A' q S' (s.count λb=>by rw[zA0];lia)) (λ_ _ z=>z) q⟩,λe j f g=>h.m _ _ _ _ _ (λ_=>g.nx) g.xe⟩
def sIf(qc:VTT)(t u:VTS):VTS:=λe ds=>qc ds (λk a=>if k=true then t e a else u e a) e.xe
theorem sif(b:VTe c X cd qc)(g:VSs c X x t)(i:VSs c X y u):VS c X (.If cd x y pos) (sIf qc t u):=by refine⟨PS.mono (ps_if b.h g.h i.h) λE G H d=>?_,λe n j f=>b.m _ _ _ _ _ (λk a=>qP6 (g.m _ _ _ f) (i.m _ _ _ f)) f.xe⟩;obtain⟨F,j,A,e,S,l,q⟩:=d;refine⟨F,j,A,e.xe,S,l.xe,b.m _ _ _ _ _ (λk a q H' F' A' S' s=>?_) (λ_ _ z=>z) q⟩;cases k with|true=>rw[if_pos rfl] at q ⊢;exact⟨F',a,A',e,S',l.step s,q⟩|false=>rw[if_neg ∅] at q ⊢;exact⟨F',a,A',e,S',l.step s,q⟩
def qaW9:VTS:=λ_ _=>False
theorem qk3:VS c X J qaW9:=⟨λ_ _ _ _ _ _ ⟨_,_,_,_,_,_,q⟩=>q.elim,λ_ _ _ _ q=>q.elim⟩
abbrev VTG:=D->Ds->(Ds->Prop)->Prop
inductive LiftG(c:Vc)(g:VTG)(v:V)(G:St)(H:Hp)(Q:St->Hp->Prop):Prop
 |mk (F:γ->Prop) (ds:Ds) (A T:List γ) (d:D) (r:Ow F H v d T) (S:Oz c F H G ds A) (o:Ok F H (T++A)) (q:g d ds (λds'=>∀G' H' F' A',Oz c F' H' G' ds' A'->Oy F H (T++A) F' H' A'->Q G' H')):LiftG c g v G H Q
def F5(c:Vc)(g:VTG):TG:=LiftG c g
structure VG(c:Vc)(X:Cx)(e:Lb)(g:VTG):Prop where
 h:PG X e (F5 c g)
 m:∀d ds (Q Q':Ds->Prop),(∀ds',Q ds'->Q' ds')->g d ds Q->g d ds Q'
theorem PG.mono(h:PG X e g)(i:∀v G H Q,g' v G H Q->g v G H Q):PG X e g':=λDg s G H v u Q I r q=>h Dg s G H v u Q I r (i v G H Q q)
theorem Oz.store(S:Oz c F H G ds A)(m:c.W i=false)(hi:i<G.length)(r:Ow F H v d T)(o:Ok F H (T++A)):∃A',Oz c F H (G.set i (some v)) (ds.set i d) A'/\Oy F H (T++A) F H A':=by
 have n:=S.loc.len;rw[zAd] at n;obtain⟨σ1,x,σ2,e,f,A1,B,A2,p,e2,q,s,t,u,y,w⟩:=S.loc.split (i:=i) (d:=ds[i]'⋯) (by simp);have hσ:G.set i (some v)++c.gv=σ1++some v::σ2:=by rw[<-Mu _ _ hi,p,qt9 q]
 have g:ds.set i d=e++d::f:=by have:=congrArg (λl=>l.set i d) e2;rw[this,qt9 s]
 have a:∀b,(A1++(T++A2)).count b<=(T++A).count b:=λb=>by rw[t];simp only[zA0];lia
 refine⟨A1++(T++A2),⟨by rw[hσ,g];exact u.append (.so r w),o.count a,?_,λj h=>?_⟩,Oy.refl.count a⟩;{rw[S.len,zAd,zAd,zBk]};have k:i≠j:=λz=>by subst z;rw[m] at h;cases h
 rw[<-S.ag j h,<-Mu _ _ hi,zBj k]
def gNm(i:Nat):VTG:=λd ds Q=>Q (ds.set i d)
theorem Bf(i:Nat)(b:X.N.Nodup)(e:c.W i=false:=by rfl)(hi:X.N[i]?=some x:=by rfl)(f:Loc X.env.scope x:=by first|exact Oj rfl|exact Oi rfl)(g:X.fn x=true∨X.env.scope.names.lookup x=some .local:=by first|exact .inl rfl|exact .inr rfl|assumption):VG c X (.Name x pos) (gNm i):=by refine⟨λDg s G H v h Q I j a=>?_,λd k Q Q' l=>l _⟩;obtain⟨F,k,A,T,d,r,S,o,q⟩:=a;refine qO3 b hi f g Dg s G H v h Q I j ?_;obtain⟨A',S',m⟩:=S.store e (qi8 hi Dg G H s I) r o;exact q _ H F A' S' m
def Eo(te:VT)(g:VTG):VTS:=λe ds=>te ds (λd a=>g d a e.nx) e.xe
theorem qbe2(h:VE c X e te)(f:VG c X tg g):∀E G H,Ek c (Eo te g) E G H->Ia (Bh c te) (F5 c g) E G H:=by rintro E G H ⟨F,i,A,j,S,l,q⟩;exact⟨F,i,A,j.xe,S,l.xe,h.m _ _ _ _ _ (λd a q v H' F' T A' r S' o s=>(⟨F',a,A',T,d,r,S',o,f.m _ _ _ _ (λb q σ2 H2 F2 A2 S2 k=>l.nx b σ2 H2 F2 A2 q S2 (s.trans k)) q⟩)) (λ_ _ z=>z) q⟩
theorem qaq7(h:VE c X e te)(f:VG c X tg g):∀(en a:VEnds) ds,en.Le a->Eo te g en ds->Eo te g a ds:=λen a ds b=>h.m _ _ _ _ _ (λd i=>f.m _ _ _ _ b.nx) b.xe
theorem Fe(h:VE c X e te)(a:VG c X tg g)(b:swapsWithSole [tg] e pos.line X.env=pure false:=by rfl)(d:swappedStores [tg] e X.env=pure none:=by rfl)(h1:(K4 [tg] X.env).map (·.2)=[assign tg X.env]:=by rfl):VS c X (.Assign [tg] e pos) (Eo te g):=⟨PS.mono (qaO4 h.h a.h b d h1) (qbe2 h a),qaq7 h a⟩
theorem Ak(i:Nat)(a:X.N.Nodup)(h:VE c X e te)(b:c.W i=false:=by rfl)(hi:X.N[i]?=some x:=by rfl)(f:Loc X.env.scope x:=by first|exact Oj rfl|exact Oi rfl)(j:swapsWith e (some (.Name x pos')) pos.line X.env=pure false:=by rfl)(g:X.fn x=true∨X.env.scope.names.lookup x=some .local:=by first|exact .inl rfl|exact .inr rfl|assumption):VS c X (.Assign [.Name x pos'] e pos) (Eo te (gNm i)):=by have k:VG c X (.Name x pos') (gNm i):=Bf i a b hi f g;refine⟨λDg s G H E I q=>qaE7 a hi f h.h j g Dg s G H E I ?_,qaq7 h k⟩;obtain⟨F,n,A,p,S,l,q⟩:=q;refine⟨F,n,A,p.xe,S,l.xe,h.m _ _ _ _ _ (λd t q v H' F' T A' r S' o u=>?_) (λ_ _ z=>z) q⟩;obtain⟨A2,S2,w⟩:=S'.store b (qi8 hi Dg G H s I) r o;exact l.nx _ _ H' F' A2 q S2 (u.trans w)
abbrev Gg:=Ds->Ds->(Ds->Prop)->Prop
inductive qaW1(c:Vc)(g:Gg)(vs:List V)(G:St)(H:Hp)(Q:St->Hp->Prop):Prop
 |mk (F:γ->Prop) (ds:Ds) (A T:List γ) (xs:Ds) (r:Oo F H vs xs T) (S:Oz c F H G ds A) (o:Ok F H (T++A)) (q:g xs ds (λds'=>∀G' H' F' A',Oz c F' H' G' ds' A'->Oy F H (T++A) F' H' A'->Q G' H')):qaW1 c g vs G H Q
def qba3(c:Vc)(g:Gg):TGs:=qaW1 c g
structure VGs(c:Vc)(X:Cx)(es:List Lb)(g:Gg):Prop where
 h:PGs X es (qba3 c g)
 m:∀xs ds (Q Q':Ds->Prop),(∀ds',Q ds'->Q' ds')->g xs ds Q->g xs ds Q'
theorem PGs.mono(h:PGs X es g)(i:∀v G H Q,g' v G H Q->g v G H Q):PGs X es g':=λDg s G H v u Q I r q=>h Dg s G H v u Q I r (i v G H Q q)
def gNilV:Gg:=λxs ds Q=>match xs with | []=>Q ds|_=>False
def qaJ4(g:VTG)(b:Gg):Gg:=λxs ds Q=>match xs with|x::r=>g x ds λa=>b r a Q | []=>False
theorem Hq:VGs c X [] gNilV:=by refine⟨PGs.mono qaz4 λf G H Q a=>?_,λb d Q Q' e q=>by cases b with|nil=>exact e _ q|cons _ _=>exact q.elim⟩;obtain⟨F,d,A,T,b,r,S,o,q⟩:=a;cases b with|nil=>cases r;exact⟨rfl,q G H F A S Oy.refl⟩|cons _ _=>exact q.elim
theorem qQ3(h1:VG c X tg g)(h2:VGs c X es l)(s:(K4 (tg::es) X.env).map (·.2)=assign tg X.env::(K4 es X.env).map (·.2):=by rfl):VGs c X (tg::es) (qaJ4 g l):=by
 refine⟨PGs.mono (qK4 h1.h h2.h s) λe G H Q ⟨F,n,A,T,d,r,S,o,q⟩=>?_,λd n Q Q' t q=>by cases d with|nil=>exact q.elim|cons x r=>exact h1.m _ _ _ _ (λu=>h2.m _ _ _ _ t) q⟩;cases d with
 |nil=>exact q.elim|cons x d=>
  cases r with
  |@cons v _ T1 e _ T2 r1 rt=>
   refine⟨v,e,rfl,F,n,A,T1,x,r1,S,o.count λb=>by simp only[zA0];lia,h1.m _ _ _ _ (λf q σ1 H1 F1 A1 S1 p=>?_) q⟩;have i:Ok F H (T2++(T1++A)):=o.count λb=>by simp only[zA0];lia
   obtain⟨w,y⟩:=p.frame i rt.cells S1.ok;have j:Ok F H (T1++A):=i.right;have k:Oo F1 H1 e d T2:=rt.keep (p.kp j λb a=>by
    rcases zAb.mp a with a|a;{exact r1.cells b a};exact S.loc.cells b a) λb a C=>by
    have:=i.sep b;rw[zA0] at this;have:=qb1.mp a;lia
   exact⟨F1,f,A1,T2,d,k,S1,w,h2.m _ _ _ _ (λz q σ2 H2 F2 A2 S2 B=>q σ2 H2 F2 A2 S2 ((y.pre λb=>by simp only[zA0];lia).trans B)) q⟩
def gTupV(n:Nat)(a:Gg):VTG:=λd ds Q=>match d with | .q xs=>xs.length=n/\a xs ds Q|_=>False
theorem Hr{e:Gg}(j:X.calm=true)(h:VGs c X es e)(l:(K4 es X.env).length=n:=by rfl)(b:(K4 es X.env).findIdx? (·.1)=none:=by rfl):VG c X (.Tuple es k pos) (gTupV n e):=by refine⟨PG.mono (qaX4 j h.h l b) λv G H Q ⟨F,f,A,T,d,r,S,o,q⟩=>?_,λd f Q Q' p q=>by cases d with|q g=>exact⟨q.1,h.m _ _ _ _ p q.2⟩|_=>exact q.elim⟩;cases d with|q g=>obtain⟨a,s,rfl,t,i⟩:=r.tup_inv;exact⟨a,s,rfl,.inl (.inl t),by rw[i.len];exact q.1,F,f,A,T,g,i,S,o,q.2⟩|_=>exact q.elim
end
section
variable{c:Vc}{F:γ->Prop}{H:Hp}{X:St}{ds:Ds}{A T:List γ}
theorem qR4(h:H a=some o)(hm:Ei o=true)(c:¬F a):Kp F H (λb=>b=a) F (upd H a o'):=⟨λb u e w=>by rw[qd1 w];exact e,λb w=>by subst w;exact⟨o,h,hm⟩,λb w=>by subst w;exact c,λ_ f=>f⟩
theorem Oo.setAt(r:Oo F H vs ys Ael)(s:n<ys.length)(e:Ow F H v d Tv):∃B,Oo F H (vs.set n v) (ys.set n d) B/\∀b,B.count b<=Ael.count b+Tv.count b:=by
 obtain⟨f,w,g,a,c,A1,B,A2,h,e2,j,k,m,o,t,p⟩:=r.split (i:=n) (d:=ys[n]) (by simp);have q:ys.set n d=a++d::c:=by have:=congrArg (λl=>l.set n d) e2;rw[this,qt9 k]
 rw[h,qt9 j,q];exact⟨A1++(Tv++A2),o.append (.cons e p),λb=>by rw[m];simp only[zA0];lia⟩
theorem qG2(r:Ow F H v (.l false ys) B):∃a vs Ael,v=.ref a/\H a=some (.l vs)/\Oo F H vs ys Ael/\B=a::Ael:=by cases r with|l h r=>exact⟨_,_,_,rfl,h,r,rfl⟩
theorem qo9(S:Oz c F H X ds A)(h:A4 ds i p=some (.l false ys))(J:(X++c.gv)[i]?=some (some u))(K:Walk H u p w):∃(a:γ)(vs:List V)(Ael:List γ),w=.ref a/\H a=some (.l vs)/\Oo F H vs ys Ael/\∀(g:List V)(m:List D)(B' R T:List γ),Ok F H (T++A)->Oo F H g m B'->(∀b,B'.count b+R.count b<=Ael.count b+T.count b)->(∃A',Oz c F (upd H a (.l g)) X (Bd ds i p (.l false m)) A'/\Ok F (upd H a (.l g)) (R++A')/\Oy F H (T++A) F (upd H a (.l g)) (R++A'))/\∀v d,Ow F H v d R->Ow F (upd H a (.l g)) v d R:=by
 obtain⟨B,C,r,L,M⟩:=S.place h (by intro z;cases z) J K;obtain⟨a,vs,Ael,rfl,y,N,rfl⟩:=qG2 r;refine⟨a,vs,Ael,rfl,y,N,λg m B' R T q O E=>?_⟩;have n:∀b,A.count b=(if b=a then 1 else 0)+Ael.count b+C.count b:=λb=>by rw[L,zAp];by_cases j:b=a;{subst j;simp;lia};simp[j,Ne.symm j]
 have s:=n a;rw[if_pos rfl] at s;have sa:=q.sep a;rw[zA0] at sa;have P:=E a;have G:¬F a:=λf=>by have:=q.fro a f;rw[zA0] at this;lia
 have k:=qR4 (F:=F) (o':=.l g) y rfl G;have rep':Ow F (upd H a (.l g)) (.ref a) (.l false m) (a::B'):=.l qb8 (O.keep k λb j w=>by subst w;have:=qb1.mp j;lia);obtain⟨A',Q,q2⟩:=M _ _ k (λb j w=>by subst w;have:=qb1.mp j;lia) rep';have t:∀b,A'.count b=(if b=a then 1 else 0)+B'.count b+C.count b:=λb=>by rw[q2,zAp];by_cases j:b=a;{subst j;simp;lia};simp[j,Ne.symm j]
 have l:∀b,(R++A').count b<=(T++A).count b:=λb=>by rw[zA0,zA0,t,n];have:=E b;lia
 have U:∀b,F b->∃o,upd H a (.l g) b=some o:=λb f=>by obtain⟨x,e⟩:=q.ex b f;exact⟨x,by rw[qd1 (show b≠a from λw=>G (w ▸ f))];exact e⟩
 have I:Ok F (upd H a (.l g)) (R++A'):=⟨λb=>zAi (l b) (q.sep b),λb f=>by have:=q.fro b f;have:=l b;lia,U⟩;refine⟨⟨A',⟨Q,I.right,S.len,S.ag⟩,I,λb u e z=>?_,λb u e z=>by have:=l b;lia,λ_ f=>f,λ_ _ _ _ f=>f⟩,λv d W=>W.keep k λb j w=>by subst w;have:=qb1.mp j;lia⟩;rw[qd1 λw=>?_];{exact e};subst w;have:=n b;rw[if_pos rfl] at this;rw[zA0] at z;lia
def Fv(r:V->List V->Hp->VK->Prop)(g:Ds->Ds->Option (Ds×D)):Prop:=∀F H a vs ys Ael f xs T c d (Q:VK),H a=some (.l vs)->Oo F H vs ys Ael->Oo F H f xs T->g ys xs=some (c,d)->(∀e v B' R,Oo F H e c B'->Ow F H v d R->(∀b,B'.count b+R.count b<=Ael.count b+T.count b)->Q v (upd H a (.l e)))->r (.ref a) f H Q
def gApp(ys xs:Ds):Option (Ds×D):=match xs with|[x]=>if ys.length<big then some (ys++[x],.non) else none|_=>none
theorem qz3:Fv qaz0 gApp:=by intro F H a i c Ael m j T e d Q k r l h q;match j,h with|[x],h=>obtain⟨w,rfl,f⟩:=l.one_inv;have h:(if c.length<big then some (c++[x],D.non) else none)=some (e,d):=h;by_cases g:c.length<big;{rw[if_pos g] at h;cases h;refine⟨a,i,w,rfl,rfl,k,by rw[r.len];exact zAh g qk2,?_⟩;exact q _ .non (Ael++(T++[])) [] (r.append (.cons f .nil)) .non λb=>by simp[zA0]};rw[if_neg g] at h;cases h
noncomputable def gPop(ys xs:Ds):Option (Ds×D):=match xs with|[]=>(ys[ys.length-1]?).map λd=>(ys.dropLast,d)|_=>none
theorem Oo.last(r:Oo F H vs ys Ael)(h:ys[ys.length-1]?=some d):∃v B R,vs[vs.length-1]?=some v/\Oo F H vs.dropLast ys.dropLast B/\Ow F H v d R/\∀b,B.count b+R.count b<=Ael.count b:=by
 obtain⟨e,v,f,g,a,A1,B,A2,c,e2,o,i,j,k,l,m⟩:=r.split h;have n:a=[]:=by have:=congrArg Lv e2;rw[zAd,zAq,i] at this;cases a with|nil=>rfl|cons _ _=>simp at this;lia
 subst n;cases m;refine⟨v,A1,B,?_,?_,l,λb=>by rw[j];simp only[zA0,Mi];lia⟩;{rw[c];simp};rw[c,e2,Mg,Mg];exact k
theorem qaZ6:Fv rPop gPop:=by intro F H a c s Ael t f T g d Q i r j h q;match f,h with|[],h=>cases j;obtain⟨e,k,l⟩:=zA7.mp h;cases l;obtain⟨v,B,R,m,n,o,p⟩:=r.last k;exact⟨a,c,v,rfl,rfl,i,m,q _ v B R n o λb=>by have:=p b;lia⟩
noncomputable def qbc1(ys xs:Ds):Option (Ds×D):=match xs with|[]=>some ([],.non)|_=>none
theorem qaH1:Fv qaN7 qbc1:=by intro F H a c j Ael k e T f d Q g r i h q;match e,h with|[],h=>cases i;cases h;exact⟨a,c,rfl,rfl,g,q [] .non [] [] .nil .non λb=>by simp⟩
end
section
variable{c:Vc}{X:Cx}{a b e o:Lb}{pf:PF}{tr:VTB}{es:List Lb}{r:V->List V->Hp->VK->Prop}{g:Ds->Ds->Option (Ds×D)}
noncomputable def D.own:D->Option Ds|.l false ys=>some ys|_=>none
theorem Jx{d:D}(h:d.own=some ys):d=.l false ys:=by cases d with|l z a=>(cases z with|false=>cases h;rfl|true=>cases h)|_=>cases h
def Ea(g:Ds->Ds->Option (Ds×D))(i:Nat)(tr:VTB):VT:=λds Q xe=>((rdN i ds).bind D.own).isSome=true/\tr ds (λxs _ ds1=>orF ((rdN i ds1).bind D.own) λys=>orF (g ys xs) λz=>Q z.2 (ds1.set i (.l false z.1))) xe
theorem qM5(h:ds[i]?=some d):A4 ds i []=some d:=by unfold A4;rw[h];rfl
theorem qJ3(h:ds[i]?=some d):Bd ds i [] x=ds.set i x:=by unfold Bd;rw[h];rfl
theorem qaA1(s:T="list")(hm:Fv r g)(t:VAs c X es tr)(hi:i<σ.length)(q:Bh c (Ea g i tr) σ H Q):tBM X.K T r (Fk i) (Fd c tr) σ H Q:=by
 subst s;obtain⟨F,u,A,w,S,x,y,q⟩:=q;obtain⟨B,b⟩:=zB1.mp y;obtain⟨d0,C,f⟩:=zA1.mp b;cases Jx f;obtain⟨v,B0,o,D,_⟩:=S.name hi C;obtain⟨a,h,A0,rfl,j,_,_⟩:=D.lst_inv;refine⟨.ref a,o,.inl ⟨rfl,h,.inl (.inl j)⟩,F,u,A,w,S,x,t.m _ _ _ _ _ (λE ps G q I H1 F1 T A1 J pk S1 L M=>?_) (λ_ _ z=>z) q⟩;obtain⟨N,O,q⟩:=qa7.mp q;obtain⟨d1,e2,P⟩:=zA1.mp O;cases Jx P;obtain⟨⟨e,d⟩,U,q⟩:=qa7.mp q;obtain⟨p,hk⟩:=qm8.mp e2;have V:(σ++c.gv)[i]?=some (some (.ref a)):=by rw[zAn hi];exact o
 obtain⟨a2,k,Ael,W,l,Y,wr⟩:=qo9 S1 (qM5 p) V rfl;cases W;refine hm F1 H1 a k N Ael I E T e d Q l Y J U λn v B' R Z h2 h3=>?_;obtain⟨⟨A',S2,o2,s2⟩,kr⟩:=wr n e B' R T L Z h3;rw[qJ3 p] at S2;exact q v _ F1 R A' (kr v d h2) S2 o2 (M.trans s2)
theorem qY8(e:VAs c X es tr):∀ds (Q Q':DK) (xe b:XKd),(∀d a,Q d a->Q' d a)->(∀x a,xe x a->b x a)->Ea g i tr ds Q xe->Ea g i tr ds Q' b:=λds Q Q' xe b f h=>Nu (e.m _ _ _ _ _ (λk l j=>qa5 λy=>qa5 λz=>f _ _) h)
theorem Ow.nW{F F':γ->Prop}{H H':Hp}{W:γ->Prop}{a:γ}{d0 e:D}{B:List γ}(r:Ow F H (.ref a) d0 B)(k:Kp F H W F' H')(d:∀b∈B,¬W b)(f:d0.kids[n]?=some e):¬W a:=by cases r with|q c _=>intro w;obtain⟨o,e,m⟩:=k.wm a w;rw[c] at e;cases e;cases m|l c _=>exact d _ zA9|dct c _ _=>exact d _ zA9|ins c _ _=>exact d _ zA9|_=>cases (show (none:Option D)=some _ from f)
theorem qar1(k:Kp F H W F' H'):∀{p:List Nat}{f:V}{d0 d:D}{B:List γ}{w l:V},(∀b∈B,¬W b)->Ow F H f d0 B->d0.getP p=some d->Walk H f p w->Walk H' f p l->l=w:=by
 intro p;induction p with
 |nil=>intro f d0 d B w l _ _ _ h o;cases h;cases o;rfl|cons n p z=>
  intro f d0 d B w l q r g h o;unfold D.getP at g;cases i:d0.kids[n]? with
  |none=>rw[i] at g;cases g|some e=>
   rw[i] at g;obtain⟨x,A,E⟩:=h;obtain⟨M,s,t⟩:=o;obtain⟨y,B1,C1,v,G,I,_⟩:=r.kid i;obtain⟨N,B1',C1',j,_,_,_⟩:=(r.keep k q).kid i;cases A.fn v;cases s.fn j;have u:Lnk H' f n x:=by obtain⟨a,rfl,J⟩:=v;have m:=r.nW k q i;exact⟨a,rfl,J.imp (λ⟨c,e,h⟩=>⟨c,k.fr _ _ e m,h⟩) (Ol (λ⟨c,e,h⟩=>⟨c,k.fr _ _ e m,h⟩) (Ol (λ⟨c,e,h⟩=>⟨c,k.fr _ _ e m,h⟩) λ⟨C,K,c,e,h⟩=>⟨C,K,c,k.fr _ _ e m,h⟩))⟩
   cases u.fn j;exact z (B:=B1) (λb L=>q b (qb1.mpr (by have:=I b;have:=qb1.mp L;lia))) G g E t
def Ex(g:Ds->Ds->Option (Ds×D))(pf:PF)(tr:VTB):VT:=λds Q xe=>orF (pf ds) λq=>orF ((A4 ds q.1 q.2).bind D.own) λys=>orF ds[q.1]? λa=>tr (ds.set q.1 .u) (λxs _ ds1=>orF (g ys xs) λz=>Q z.2 (Bd (ds1.set q.1 a) q.1 q.2 (.l false z.1))) xe
theorem qY7(e:VAs c X es tr):∀ds (Q Q':DK) (xe b:XKd),(∀d a,Q d a->Q' d a)->(∀x a,xe x a->b x a)->Ex g pf tr ds Q xe->Ex g pf tr ds Q' b:=λds Q Q' xe b f h=>qa5 λq=>qa5 λj=>qa5 λk=>e.m _ _ _ _ _ (λl n i=>qa5 λz=>f _ _) h
theorem qaA0(hm:Fv r g)(ha:VAs c X es tr):∀σ H Q,Bh c (Ex g pf tr) σ H Q->tBM X.K "list" r (Gr c pf) (Fd c tr) σ H Q:=by
 rintro σ H Q ⟨F,Y,A,xe,S,x,q⟩;obtain⟨⟨i,p⟩,e1,q⟩:=qa7.mp q;obtain⟨l,e2,q⟩:=qa7.mp q;obtain⟨dl,h,e4⟩:=zA1.mp e2;cases Jx e4;obtain⟨J,k,q⟩:=qa7.mp q;refine⟨F,Y,A,i,p,_,S,e1,h,D.noConfusion,λu w H1 n Z s0=>?_⟩;have S0:=S.same s0;obtain⟨a,L,Ael0,rfl,M,a0,_⟩:=qo9 S0 h n Z;refine⟨.inl ⟨rfl,L,.inl (.inl M)⟩,?_⟩;have N:J≠.u:=λz=>by subst z;have j:=h;unfold A4 at j;rw[k] at j;cases (qao7 j).2
 obtain⟨u',B,C,h1,I,h3,h4⟩:=S0.put1 k N;rw[n] at h1;cases h1;obtain⟨A1,q1,q2⟩:=h4 .u [] (Kp.same (F:=F) λ_ _ z=>z) (λ_ _ z=>z) (.u u);have O:Ok F H1 (B++A1):=S0.ok.count λb=>by rw[zA0,q2,h3];simp
 have s1:Oy F H A F H1 (B++A1):=⟨λb o e _=>s0 b o e,λb o e z=>by rw[zA0,q2];have:=h3 b;simp;lia,λ_ f=>f,λ_ _ _ _ f=>f⟩;have S1:Oz c F H1 σ (Y.set i .u) A1:=⟨q1,O.right,S.len,S.ag⟩;have P:Oy F H A F H1 A1:=s1.count λb=>by rw[zA0];lia
 refine⟨F,_,A1,xe,S1,x.step P,ha.m _ _ _ _ _ (λxs ps s q vs H2 F2 T2 A2 r2 pk S2 o2 s2=>?_) (λ_ _ z=>z) q⟩;obtain⟨⟨t,d⟩,e7,q⟩:=qa7.mp q;have kp:=s2.kp S1.ok S1.loc.cells;have hBout:∀b∈B,¬(A1.count b≠0):=λb hb hc=>by have:=O.sep b;rw[zA0] at this;have:=qb1.mp hb;lia
 have y:Ow F2 H2 u J B:=I.keep kp hBout;obtain⟨o3,s3⟩:=s2.frame O I.cells o2;obtain⟨A3,k1,k2⟩:=qJ2 S2.loc n y;have E:∀b,A3.count b<=B.count b+A2.count b:=k2;have o4:Ok F2 H2 (T2++A3):=o3.count λb=>by simp only[zA0];have:=E b;lia
 have s4:Oy F H A F2 H2 (T2++A3):=(s1.trans s3).count λb=>by simp only[zA0];have:=E b;lia
 have G:i<s.length:=by rw[<-S2.loc.len];exact(zA5.mp n).1
 have e8:A4 (s.set i J) i p=some (.l false l):=by unfold A4 at h ⊢;rw[k] at h;rw[zBn G];exact h
 have T:Walk H2 u p (.ref a):=by
  obtain⟨w',_,_,w1,_,_,_⟩:=I.path (p:=p) (d:=.l false l) (by unfold A4 at h;rw[k] at h;exact h);cases Z.fn w1;obtain⟨w2,_,_,w3,_,_,_⟩:=y.path (p:=p) (d:=.l false l) (by unfold A4 at h;rw[k] at h;exact h);have:w2=.ref a:=by refine qar1 (d:=.l false l) kp hBout I ?_ w1 w3;unfold A4 at h;rw[k] at h;exact h
  rw[<-this];exact w3
 obtain⟨a2,U,Ael,ea,V,rs,wr⟩:=qo9 (⟨k1,o4.right,S.len,S.ag⟩) e8 n T;cases ea;refine hm F2 H2 a U l Ael vs xs T2 t d Q V rs r2 e7 λW v B' R z1 z2 z3=>?_;obtain⟨⟨A',S4,o5,s5⟩,kr⟩:=wr W t B' R T2 o4 z1 z3;exact q v _ F2 R A' (kr v d z2) S4 o5 (s4.trans s5)
end
section
variable{c:Vc}{X:Cx}{a b e o:Lb}{pos cpos apos:Pos}{pf:PF}{tr:VTB}{es:List Lb}{fb:FV}{ob:Bool}{r:V->List V->Hp->VK->Prop}{g:Ds->Ds->Option (Ds×D)}{name:Str}{id:String}
theorem Dp(i:Nat)(k:Fv r g)(l:PlainAttrs "list")(slot:Slot "list" name id)(b:typeOf (.builtin id)=pure (.type "method_descriptor"))(hm:MtM X id r)(d:VAs c X (e::es) tr)(j:X.N[i]?=some x:=by rfl)(m:Vis X.env.scope x:=by first|exact Oj rfl|exact Oi (Oj rfl)|exact Oi (Oi rfl))(n:N' x:=by decide)(f:(x==("__classdict__" : Str))=false:=by decide)(hbase:Ks (.Name x p0) name X.env (eval (.Name x p0) X.env)=eval (.Name x p0) X.env:=by rfl)(a:((backTo cpos (J' (e::es) X.env)).all (λx=>!x.1)&&(backToKw cpos (Kw [] X.env)).all (λx=>x.1.isSome)
     && decide ((e::es).length+([]:List Keyword).length+(if ([]:List Keyword).isEmpty then 0 else 1)<30))=true:=by rfl)(hline:(apos.endLine==cpos.line)=true:=by rfl)(o:J' (e::es) X.env=(false,eval e X.env)::J' es X.env:=by rfl)(hplain:(backTo cpos (J' es X.env)).any (·.1)=false:=by rfl):VE c X (.Call (.Attribute (.Name x p0) name apos) (e::es) [] cpos) (Ea g i tr):=⟨λDg s σ H Q I q=>Hg l slot b hm (qm0 j m n f) d.h hbase a hline o hplain Dg s σ H Q I (qaA1 rfl k d (qi8 j Dg σ H s I) q),qY8 d⟩
theorem qbc8(i:Nat){x:Str}{p0:Pos}(f:Fv r g)(h:PlainAttrs "list")(slot:Slot "list" name id)(a:typeOf (.builtin id)=pure (.type "method_descriptor"))(hm:MtM X id r)(e:X.N[i]?=some x:=by rfl)(b:Vis X.env.scope x:=by first|exact Oj rfl|exact Oi (Oj rfl)|exact Oi (Oi rfl))(j:N' x:=by decide)(d:(x==("__classdict__" : Str))=false:=by decide)(hbase:Ks (.Name x p0) name X.env (eval (.Name x p0) X.env)=eval (.Name x p0) X.env:=by rfl)(hline:(apos.endLine==cpos.line)=true:=by rfl):VE c X (.Call (.Attribute (.Name x p0) name apos) [] [] cpos) (Ea g i A7):=⟨λDg s σ H Q I q=>qaP5 h slot a hm (qm0 e b j d) hbase hline Dg s σ H Q I (by
   obtain⟨v,b,a,F,k,A,l,S,x,q⟩:=qaA1 rfl f Ad (qi8 e Dg σ H s I) q;exact⟨v,b,a,q [] H F [] A .nil .nil S S.ok Oy.refl⟩),qY8 (c:=c) (X:=X) Ad⟩
theorem emutP(f:Fv r g)(i:PlainAttrs "list")(slot:Slot "list" name id)(b:typeOf (.builtin id)=pure (.type "method_descriptor"))(hm:MtM X id r)(j:VP c X o pf)(d:VAs c X (e::es) tr)(hbase:Ks o name X.env (eval o X.env)=eval o X.env:=by rfl)(a:((backTo cpos (J' (e::es) X.env)).all (λx=>!x.1)&&(backToKw cpos (Kw [] X.env)).all (λx=>x.1.isSome)
     && decide ((e::es).length+([]:List Keyword).length+(if ([]:List Keyword).isEmpty then 0 else 1)<30))=true:=by rfl)(hline:(apos.endLine==cpos.line)=true:=by rfl)(k:J' (e::es) X.env=(false,eval e X.env)::J' es X.env:=by rfl)(hplain:(backTo cpos (J' es X.env)).any (·.1)=false:=by rfl):VE c X (.Call (.Attribute o name apos) (e::es) [] cpos) (Ex g pf tr):=⟨PE.mono (Hg i slot b hm j.h d.h hbase a hline k hplain) (qaA0 f d),qY7 d⟩
theorem qbc7(e:Fv r g)(f:PlainAttrs "list")(slot:Slot "list" name id)(a:typeOf (.builtin id)=pure (.type "method_descriptor"))(hm:MtM X id r)(j:VP c X o pf)(hbase:Ks o name X.env (eval o X.env)=eval o X.env:=by rfl)(hline:(apos.endLine==cpos.line)=true:=by rfl):VE c X (.Call (.Attribute o name apos) [] [] cpos) (Ex g pf A7):=⟨PE.mono (qaP5 f slot a hm j.h hbase hline) λσ H Q q=>by
   obtain⟨F,k,A,i,p,d,S,l,e2,b,q⟩:=qaA0 e Ad σ H Q q;refine⟨F,k,A,i,p,d,S,l,e2,b,λu w H1 m n s=>?_⟩;obtain⟨a,F2,t,A2,v,S2,x,q2⟩:=q u w H1 m n s;exact⟨a,q2 [] H1 F2 [] A2 .nil .nil S2 S2.ok Oy.refl⟩,qY7 (c:=c) (X:=X) Ad⟩
def Hs(pf:PF)(fb:FV):VTG:=λd ds Q=>orF (pf ds) λq=>orF ((A4 ds q.1 q.2).bind D.own) λys=>orF ((fb ds).bind D.asI) λk=>orF (ixN ys.length k) λn=>Q (Bd ds q.1 q.2 (.l false (ys.set n d)))
theorem Dq(y:VP c X o pf)(hi:VV c X b ob fb)(f:∀v,assign (.Subscript o b pos) X.env v=(do
 let ov<-holding [v] (eval o X.env)
 let iv<-holding [v,ov] (eval b X.env)
 standAt pos
 holding [v,ov,iv] (setItem ov iv v)
 release [v,ov,iv] []):=by intro _;rfl):VG c X (.Subscript o b pos) (Hs pf fb):=by
 refine⟨PG.mono (qaX5 y.h hi.h qai3 f) λv σ H Q g=>?_,λd j Q Q' z=>qa5 λ_=>qa5 λ_=>qa5 λ_=>qa5 λ_=>z _⟩;obtain⟨F,j,A,T,d,r,S,B,q⟩:=g;obtain⟨⟨i,p⟩,C,q⟩:=qa7.mp q;obtain⟨V,e2,q⟩:=qa7.mp q;obtain⟨W,l,E⟩:=zA1.mp e2;cases Jx E;obtain⟨k,G,q⟩:=qa7.mp q;obtain⟨I,J,K⟩:=zA1.mp G;obtain⟨n,m,q⟩:=qa7.mp q;refine⟨F,j,A,i,p,_,S,C,l,D.noConfusion,λu w H1 L M s=>⟨F,j,A,I,S.same s,J,λY H2 B2 N t _=>?_⟩⟩;have e:=s.trans t;cases N.asI K;obtain⟨a,O,Ael,rfl,f,x,wr⟩:=qo9 (S.same e) l L (M.same t);obtain⟨B',P,R⟩:=x.setAt ((qZ6 m).2.1) (r.same e);obtain⟨⟨A',S3,Z,U⟩,_⟩:=wr _ _ B' [] T (B.same e) P λb=>by have:=R b;simp;lia
 exact⟨a,O,k,n,rfl,rfl,f,by rw[x.len];exact m,q σ _ F A' S3 ((Oy.same e).trans U)⟩
def sAugV(f:Int->Int->Int)(pf:PF)(fb a:FV):VTS:=λe ds=>orF (pf ds) λq=>orF ((A4 ds q.1 q.2).bind D.own) λys=>orF ((fb ds).bind D.asI) λk=>0<=k/\orF ((ys[k.toNat]?).bind D.asI) λx=>orF ((a ds).bind D.asI) λy=>e.nx (Bd ds q.1 q.2 (.l false (ys.set k.toNat (.int (f x y)))))
theorem saug{op:Operator}{N:FV}{V:Bool}(W:VP c X o pf)(hi:VV c X b ob fb)(Y:VV c X e V N)(Z:PIp X op (ipI f))(ha:∀n r d,augStore b n r d=(do holding [d,n,r] (setItem n r d);release [d,n,r] [];pure .next):=by intros;rfl):VS c X (.AugAssign (.Subscript o b tpos) op e pos) (sAugV f pf fb N):=by
 refine⟨PS.mono (qaO3 W.h hi.h qaJ0 Y.h Z qai3 ha) λE σ H t=>?_,λen a0 s hl=>qa5 λ_=>qa5 λ_=>qa5 λ_=>Nu (qa5 λ_=>qa5 λ_=>hl.nx _)⟩;obtain⟨F,s,A,en,S,l,q⟩:=t;obtain⟨⟨i,p⟩,e1,q⟩:=qa7.mp q;obtain⟨ys,e2,q⟩:=qa7.mp q;obtain⟨dl,v,e4⟩:=zA1.mp e2;cases Jx e4;obtain⟨k,e5,O,q⟩:=qa7.mp q;obtain⟨dk,e6,e7⟩:=zA1.mp e5;obtain⟨x,e8,q⟩:=qa7.mp q;obtain⟨dx,P,z⟩:=zA1.mp e8;obtain⟨y,B,q⟩:=qa7.mp q;obtain⟨dy,C,G⟩:=zA1.mp B;refine⟨F,s,A,i,p,_,S,e1,v,D.noConfusion,λu w H1 Q R T=>⟨F,s,A,dk,S.same T,e6,λvk H2 B2 r2 I _=>?_⟩⟩;have g:=T.trans I;cases r2.asI e7;obtain⟨a,vs,Ael,rfl,J,K,_⟩:=qo9 (S.same g) v Q (R.same I);obtain⟨vx,Bx,hx,rx,_⟩:=K.get P;cases rx.asI z;refine⟨a,vs,k,_,rfl,rfl,J,O,hx,F,s,A,dy,S.same g,C,λvy H3 B3 r3 U _=>?_⟩;cases r3.asI G;have j:=g.trans U;have S3:=S.same j;obtain⟨a',L,Ael',ea,M,m,wr⟩:=qo9 S3 v Q ((R.same I).same U);cases ea;have hn:=(zA5.mp P).1;obtain⟨B',r4,h4⟩:=m.setAt hn (.int (f x y));obtain⟨⟨A',S4,o4,s4⟩,_⟩:=wr _ _ B' [] [] S3.ok r4 λb=>by have:=h4 b;simpa using this
 refine⟨x,y,rfl,rfl,a,L,k,k.toNat,rfl,rfl,M,?_,l.nx _ σ _ F A' q S4 ((Oy.same j).trans s4)⟩;rw[m.len];unfold ixN;rw[if_pos O,if_pos ⋯]
noncomputable def Ff(f:Str)(d:D):List (Str×D)->List (Str×D)|[]=>[(f,d)]|(g,x)::r=>if g=f then (g,d)::r else (g,x)::Ff f d r
end
section
variable{c:Vc}{X:Cx}{F:γ->Prop}{H:Hp}{W:St}{ds:Ds}{A T:List γ}{a b e o:Lb}{pos cpos apos:Pos}{te:VT}{pf:PF}{fa fb:FV}{oa ob:Bool}
theorem qY3:∀{a:List (Str×V)}{c:List (Str×D)}{B Tv:List γ}{f:Str}{v:V}{d:D},a.map (·.1)=c.map (·.1)->Oo F H (a.map (·.2)) (c.map (·.2)) B->Ow F H v d Tv->(Bz f v a).map (·.1)=(Ff f d c).map (·.1)/\∃B',Oo F H ((Bz f v a).map (·.2)) ((Ff f d c).map (·.2)) B'/\∀b,B'.count b<=B.count b+Tv.count b
 |[],[],B,Tv,f,v,d,_,r,rv=>⟨rfl,Tv++[],.cons rv .nil,λb=>by simp⟩|[],_::_,_,_,_,_,_,h,_,_=>by simp at h|_::_,[],_,_,_,_,_,h,_,_=>by simp at h|(k,w)::r,(k',x)::r',B,Tv,f,v,d,h,rs,rv=>by
  have i:k=k':=by simp at h;exact h.1
  have e:r.map (·.1)=r'.map (·.1):=by simp at h;simpa using h.2
  subst i;cases rs with|@cons _ _ B1 _ _ B2 q t=>by_cases g:k=f;{simp only[Bz,Ff,if_pos g,zAz,e,true_and];exact⟨Tv++B2,.cons rv t,λb=>by simp only[zA0];lia⟩};obtain⟨j,B',l,m⟩:=qY3 (f:=f) e t rv;simp only[Bz,Ff,if_neg g,zAz,j,true_and];exact⟨B1++B',.cons q l,λb=>by simp only[zA0];have:=m b;lia⟩
def D.ownI(C:γ):D->Option (List (Str×D))|.ins false C' fs=>if C'=C then some fs else none|_=>none
theorem qaP9{d:D}(h:d.ownI C=some fs):d=.ins false C fs:=by cases d with|ins z C' b=>(cases z with|false=>have h:(if C'=C then some b else none)=some fs:=h;by_cases a:C'=C;{rw[if_pos a] at h;cases h;rw[a]};rw[if_neg a] at h;cases h|true=>cases h)|_=>cases h
theorem qaP8(S:Oz c F H W ds A)(h:A4 ds i p=some (.ins false C l))(E:(W++c.gv)[i]?=some (some u))(G:Walk H u p w):∃(a dx:γ)(d:List (Str×V))(Ael:List γ),w=.ref a/\H a=some (.ins C dx d)/\d.map (·.1)=l.map (·.1)/\Oo F H (d.map (·.2)) (l.map (·.2)) Ael/\∀(fvs':List (Str×V))(fds':List (Str×D))(B' T:List γ),Ok F H (T++A)->fvs'.map (·.1)=fds'.map (·.1)->Oo F H (fvs'.map (·.2)) (fds'.map (·.2)) B'->(∀b,B'.count b<=Ael.count b+T.count b)->∃A',Oz c F (upd H a (.ins C dx fvs')) W (Bd ds i p (.ins false C fds')) A'/\Oy F H (T++A) F (upd H a (.ins C dx fvs')) A':=by
 obtain⟨B,C0,r,I,J⟩:=S.place h D.noConfusion E G;cases r with
 |@ins a _ dx d _ Ael ha hk rs=>
 refine⟨a,dx,d,Ael,rfl,ha,hk,rs,λfvs' fds' B' T n q K v=>?_⟩;have m:∀b,A.count b=(if b=a then 1 else 0)+Ael.count b+C0.count b:=λb=>by
  rw[I,zAp];by_cases g:b=a
  .subst g;simp;lia
  simp[g,Ne.symm g]
 have s:=m a;rw[if_pos rfl] at s;have sa:=n.sep a;rw[zA0] at sa;have L:=v a;have y:¬F a:=λf=>by have:=n.fro a f;rw[zA0] at this;lia
 have k:=qR4 (F:=F) (o':=.ins C dx fvs') ha rfl y;have rep':Ow F (upd H a (.ins C dx fvs')) (.ref a) (.ins false C fds') (a::B'):=.ins qb8 q (K.keep k λb g w=>by subst w;have:=qb1.mp g;lia);obtain⟨A',M,q2⟩:=J _ _ k (λb g w=>by subst w;have:=qb1.mp g;lia) rep';have t:∀b,A'.count b=(if b=a then 1 else 0)+B'.count b+C0.count b:=λb=>by
  rw[q2,zAp];by_cases g:b=a
  .subst g;simp;lia
  simp[g,Ne.symm g]
 have j:∀b,A'.count b<=(T++A).count b:=λb=>by rw[zA0,t,m];have:=v b;lia
 have N:∀b,F b->∃o,upd H a (.ins C dx fvs') b=some o:=λb f=>by
  obtain⟨x,e⟩:=n.ex b f;exact⟨x,by rw[qd1 (show b≠a from λw=>y (w ▸ f))];exact e⟩
 refine⟨A',⟨M,⟨λb=>zAi (j b) (n.sep b),λb f=>by have:=n.fro b f;have:=j b;lia,N⟩,S.len,S.ag⟩,λb u e z=>?_,λb u e z=>by have:=j b;lia,λ_ f=>f,λ_ _ _ _ f=>f⟩;rw[qd1 λw=>?_]
 .exact e
 subst w;have:=m b;rw[if_pos rfl] at this;rw[zA0] at z;lia
def sFldV(C:γ)(f:Str)(te:VT)(pf:PF):VTS:=λe ds=>te ds (λd ds1=>orF (pf ds1) λq=>orF ((A4 ds1 q.1 q.2).bind (D.ownI C)) λfs=>fs.length<100/\e.nx (Bd ds1 q.1 q.2 (.ins false C (Ff f d fs)))) e.xe
theorem Fg(G:X.K=K)(I:VP c X o pf)(k:VE c X e te)(J:Cls K C)(L:qg1 K C f)(M:swapsWith e (some (.Attribute o f pos')) pos.line X.env=pure false:=by rfl):VS c X (.Assign [.Attribute o f pos'] e pos) (sFldV C f te pf):=by
 subst G;refine⟨PS.mono (qaX3 I.h k.h M) λE W H n=>?_,λs N t r=>k.m _ _ _ _ _ (λd b=>qa5 λ_=>qa5 λ_=>Nu (r.nx _)) r.xe⟩;obtain⟨F,t,A,s,S,l,q⟩:=n;refine⟨F,t,A,s.xe,S,l.xe,k.m _ _ _ _ _ (λd b q v H1 F1 T A1 O S1 P Q=>?_) (λ_ _ z=>z) q⟩;obtain⟨⟨i,p⟩,R,q⟩:=qa7.mp q;obtain⟨U,e2,r,q⟩:=qa7.mp q;obtain⟨dl,x,V⟩:=zA1.mp e2;cases qaP9 V;refine⟨F1,b,A1,i,p,_,S1,R,x,D.noConfusion,λu w H2 Y Z j=>?_⟩;obtain⟨a,dx,g,Ael,rfl,ha,y,rs,wr⟩:=qaP8 (S1.same j) x Y Z;have B:g.length=U.length:=by have:=congrArg Lv y;simpa using this
 refine⟨a,C,dx,g,rfl,ha,J,L,⋯,?_⟩;obtain⟨m1,B',m2,m3⟩:=qY3 y rs (O.same j);obtain⟨A',S3,s3⟩:=wr _ _ B' T (P.same j) m1 m2 m3;exact l.nx _ W _ F1 A' q S3 (Q.trans ((Oy.same j).trans s3))
def Bw(x:V):List V->Option Nat|[]=>none|y::r=>if eqV y x=true then some 0 else (Bw x r).map (· + 1)
theorem qao1{x:V}:∀{xs:List V}{j:Nat},Bw x xs=some j->∃z,xs[j]?=some z/\eqV z x=true/\∀m z',m<j->xs[m]?=some z'->eqV z' x=false
 |[],j,h=>by cases h|y::r,j,h=>by
  unfold Bw at h;by_cases a:eqV y x=true;{rw[if_pos a] at h;cases h;exact⟨y,rfl,a,λm z' c=>⋯⟩};rw[if_neg a] at h;obtain⟨k,d,rfl⟩:=zA7.mp h;obtain⟨z,e,f,g⟩:=qao1 d;refine⟨z,by simpa using e,f,λm z' c b=>?_⟩;cases m with
  |zero=>
   have:y=z':=by simpa using b
   subst this;simpa using a
  |succ m=>exact g m z' ⋯ (by simpa using b)
def Jy(x y:D):Option D:=match x with|.l _ ys=>y.flat.bind λv=>(flats ys).bind λa=>(Bw v a).map λj=>.int (j:Nat)|_=>none
def Jz(x y:D):Option D:=match x with|.l _ ys=>y.flat.bind λv=>(flats ys).bind λa=>some (.int (a.countP (λz=>eqV z v):Nat))|_=>none
def rL1(r:V->List V->Hp->VK->Prop):R2:=λx y H Q=>r x [y] H Q
theorem qaF9:A9 true (rL1 qaN4) Jy:=by
 intro F H v w x y B d Q r h q;cases r with|@cons _ _ A _ _ _ b t=>cases t with|@cons _ _ A2 _ _ _ c _=>
 cases x with|l z s=>obtain⟨u,e,h⟩:=zA1.mp h;obtain⟨C,i,h⟩:=zA1.mp h;obtain⟨j,k,rfl⟩:=zA7.mp h;obtain⟨rfl,f⟩:=c.flat e;obtain⟨a,l,A3,rfl,m,n,_⟩:=b.lst_inv;obtain⟨rfl,g⟩:=n.flats i;obtain⟨z,o,q2,p⟩:=qao1 k;exact⟨a,l,w,j,z,rfl,rfl,m,f,g,o,q2,p,q _ H [] (.int _) (λ_ _ z=>z) New.nil⟩|_=>cases h
theorem qaY1:A9 true (rL1 qaN6) Jz:=by
 intro F H v w x y B d Q r h q;cases r with|@cons _ _ A _ _ _ b t=>cases t with|@cons _ _ A2 _ _ _ c _=>
 cases x with|l z m=>obtain⟨n,e,h⟩:=zA1.mp h;obtain⟨o,i,h⟩:=zA1.mp h;cases h;obtain⟨rfl,f⟩:=c.flat e;obtain⟨a,j,A3,rfl,k,l,_⟩:=b.lst_inv;obtain⟨rfl,g⟩:=l.flats i;exact⟨a,j,w,rfl,rfl,k,f,g,q _ H [] (.int _) (λ_ _ z=>z) New.nil⟩|_=>cases h
theorem vbm{id:String}(C:A9 true (rL1 r) g)(E:PlainAttrs "list")(slot:Slot "list" name id)(i:typeOf (.builtin id)=pure (.type "method_descriptor"))(hm:MtM X id r)(G:VV c X o oa fa)(I:VV c X b ob fb)(J:∀x y d,g x y=some d->∃z ys,x=.l z ys)(hbase:Ks o name X.env (eval o X.env)=eval o X.env:=by rfl)(f:((backTo cpos (J' [b] X.env)).all (λx=>!x.1)&&(backToKw cpos (Kw [] X.env)).all (λx=>x.1.isSome)
 && decide (([b]:List Lb).length+([]:List Keyword).length+(if ([]:List Keyword).isEmpty then 0 else 1)<30))=true:=by rfl)(hline:(apos.endLine==cpos.line)=true:=by rfl)(n:J' [b] X.env=(false,eval b X.env)::J' [] X.env:=by rfl)(hplain:(backTo cpos (J' [] X.env)).any (·.1)=false:=by rfl):VV c X (.Call (.Attribute o name apos) [b] [] cpos) true (f2 g fa fb):=by refine⟨PE.mono (Hg E slot i hm G.h (qc1 I.h qm1 n) hbase f hline n hplain) λW H Q j=>?_⟩;obtain⟨F,p,A,d,S,e,q⟩:=j;obtain⟨x,y,K,L,s⟩:=qaJ9.mp e;obtain⟨z,ys,rfl⟩:=J x y d s;refine⟨F,p,A,_,S,K,λv H1 B1 t k R=>?_⟩;obtain⟨a,M,A3,rfl,l,T,_⟩:=t.lst_inv;exact⟨.inl ⟨rfl,M,.inl (.inl l)⟩,F,p,A,y,S.same k,L,λw H2 B2 N m U=>(C F H2 _ w _ y _ d Q (Fo (t.same m) N) s λu H3 B3 O P B=>q u H3 B3 O ((k.trans m).trans P) λ_=>⟨B.one,λb o e=>B.new b o (m b o (k b o e))⟩)⟩
theorem qao0:∀x y d,Jy x y=some d->∃z ys,x=.l z ys:=λx y d h=>by cases x with|l z ys=>exact⟨z,ys,rfl⟩|_=>cases h
theorem qaU9:∀x y d,Jz x y=some d->∃z ys,x=.l z ys:=λx y d h=>by cases x with|l z ys=>exact⟨z,ys,rfl⟩|_=>cases h
end
def Dr(g:VTG)(t:VTS)(e:VEnds):List D->Ds->Prop|[],ds=>e.nx ds|x::xs,ds=>g x ds λds1=>t {e with nx:=Dr g t e xs,ct:=Dr g t e xs,bk:=e.nx} ds1
def whN(qc:VTT)(t:VTS)(e:VEnds):Nat->Ds->Prop|0,_=>False|n+1,ds=>qc ds (λb ds1=>if b=true then t {e with nx:=whN qc t e n,ct:=whN qc t e n,bk:=e.nx} ds1 else e.nx ds1) e.xe
def qaM8(qc:VTT)(t:VTS):VTS:=λe ds=>∃n,whN qc t e n ds
section
variable{c:Vc}{X:Cx}{a b e tg:Lb}{body:List Lc}{g:VTG}{t:VTS}{te:VT}{qc:VTT}{pos:Pos}
theorem qv0(d:VG c X tg g)(e:VSs c X body t){en b:VEnds}(a:en.Le b):∀(xs:List D) ds,Dr g t en xs ds->Dr g t b xs ds|[],ds=>a.nx ds|x::xs,ds=>d.m _ _ _ _ λf=>e.m _ _ _ ⟨qv0 d e a xs,a.rt,a.nx,qv0 d e a xs,a.xe⟩
theorem qR5{cd:Lb}(e:VTe c X cd qc)(f:VSs c X body t){en d:VEnds}(a:en.Le d):∀(n:Nat) ds,whN qc t en n ds->whN qc t d n ds|0,ds=>id|n+1,ds=>e.m _ _ _ _ _ (λb g=>qP6 (f.m _ _ _ ⟨qR5 e f a n,a.rt,a.nx,qR5 e f a n,a.xe⟩) (a.nx _)) a.xe
theorem qay1(r:PassesOwn (K7 X.prog X.w) X.A X.env X.xe)(g:VTe c X cd qc)(o:VSs c X body t):VS c X (.While cd body [] pos) (qaM8 qc t):=by refine⟨PS.mono (qaE6 r g.h o.h) λE σ H i=>?_,λd s e u ⟨n,q⟩=>⟨n,qR5 g o u n e q⟩⟩;obtain⟨F,e,A,d,S,l,n,q⟩:=i;refine⟨λm σ H=>∃F e A,Oz c F H σ e A/\Lk c E F H A d/\whN qc t d m e,⟨n,F,e,A,S,l,q⟩,?_⟩;rintro m σ H ⟨F,e,A,S,l,q⟩;cases m with|zero=>exact q.elim|succ m=>refine⟨F,e,A,d.xe,S,l.xe,g.m _ _ _ _ _ (λb j q H1 F1 A1 S1 p=>?_) (λ_ _ z=>z) q⟩;cases b with|false=>rw[if_neg ∅] at q ⊢;exact l.nx _ _ _ _ _ q S1 p|true=>rw[if_pos rfl] at q ⊢;have f:=l.step p;refine⟨λσ' H'=>∃F' a A',Oz c F' H' σ' a A'/\Lk c E F' H' A' d/\whN qc t d m a,λσ' H' h=>⟨m,⋯,h⟩,F1,j,A1,{d with nx:=whN qc t d m,ct:=whN qc t d m,bk:=d.nx},S1,⟨?_,f.rt,f.nx,?_,f.xe⟩,q⟩;{exact λa σ' H' F' A' q S' k=>⟨F',a,A',S',f.step k,q⟩};exact λa σ' H' F' A' q S' k=>⟨F',a,A',S',f.step k,q⟩
theorem qag7{N:St->Hp->Prop}{b:Ds->Prop}(i:VG c X tg g)(S:Oz c F H σ ds A)(l:Lk c E F H A en)(r:Ow F H x y [])(h:∀a σ' H' F' A',b a->Oz c F' H' σ' a A'->Oy F H A F' H' A'->N σ' H')(q:g y ds λds1=>t {en with nx:=b,ct:=b,bk:=en.nx} ds1):F5 c g x σ H λσ2 H2=>Ek c t {E with nx:=N,ct:=N,bk:=E.nx} σ2 H2:=by refine⟨F,ds,A,[],y,r,S,S.ok,i.m _ _ _ _ (λds1 q σ1 H1 F1 A1 S1 d=>?_) q⟩;have e:=l.step d;exact⟨F1,ds1,A1,{en with nx:=b,ct:=b,bk:=en.nx},S1,⟨λa σ' H' F' A' q S' f=>h a σ' H' F' A' q S' (Oy.trans d f),e.rt,e.nx,λa σ' H' F' A' q S' f=>h a σ' H' F' A' q S' (Oy.trans d f),e.xe⟩,q⟩
noncomputable def D.lstOf:D->Option Ds|.l _ ys=>some ys|_=>none
theorem qD6{d:D}(h:d.lstOf=some ys):∃z,d=.l z ys:=by cases d with|l z a=>cases h;exact⟨z,rfl⟩|_=>cases h
theorem qM3:∀{ys:List D}{i:Nat}{y:D},D.imms ys=true->ys[i]?=some y->y.imm=true
 |[],i,y,_,h=>by simp at h|d::r,0,y,hm,h=>by
  have:d=y:=by simpa using h
  subst this;exact(zAg.mp hm).1
 |d::r,i+1,y,hm,h=>qM3 (zAg.mp hm).2 (by simpa using h)
theorem qp2{xs:List α}(h:xs[i]?=some x):xs.drop i=x::xs.drop (i+1):=by obtain⟨a,rfl⟩:=zA5.mp h;exact zC4 a
def sForL(te:VT)(g:VTG)(t:VTS):VTS:=λe ds=>te ds (λd ds1=>orF d.lstOf λys=>D.imms ys=true/\Dr g t e ys ds1) e.xe
theorem Ht(Z:PassesOwn (K7 X.prog X.w) X.A X.env X.xe)(hi:VE c X e te)(G:VG c X tg g)(P:VSs c X body t)(Q:X.calm=true:=by rfl)(I:∀v,Kn e X.env v=pure v:=by intro _;rfl):VS c X (.For tg e body [] pos) (sForL te g t):=by
 refine⟨PS.mono (qaE9 Z Q (qC6 hi.h) G.h P.h I) λE σ H J=>?_,λs a0 k R=>hi.m _ _ _ _ _ (λd n=>qa5 λu=>Nu (qv0 G P R u n)) R.xe⟩;obtain⟨F,k,A,s,S,l,q⟩:=J;refine⟨F,k,A,s.xe,S,l.xe,hi.m _ _ _ _ _ (λd n q v H1 F1 T A1 U S1 o1 s1=>?_) (λ_ _ z=>z) q⟩;obtain⟨u,ey,hm,qf⟩:=qa7.mp q;obtain⟨z,rfl⟩:=qD6 ey;obtain⟨a,C,Ael,rfl,j,rs,_⟩:=U.lst_inv;have K:Oy F H A F1 H1 A1:=s1.count λb=>by rw[zA0];lia
 refine⟨a,rfl,⟨C,.inl (.inl j)⟩,qap0 (xs:=C) (λi σ H=>∃F k A,Oz c F H σ k A/\Lk c E F H A s/\Ow F H (.ref a) (.l z u) T/\H a=some (.l C)/\Ok F H (T++A)/\Dr g t s (u.drop i) k) ⟨F1,n,A1,S1,l.step K,U,j,o1,qf⟩ ?_ ?_ ?_⟩;{rintro i σ H _ ⟨F,k,A,S,l,r,j,o,q⟩;exact .inl (.inl j)}
 .rintro i x σ H hx ⟨F,k,A,S,l,r,j,o,q⟩;obtain⟨a',a1,Ael',ea,p,L,_⟩:=r.lst_inv;cases ea;rw[j] at p;cases p;obtain⟨y,B,V,W⟩:=L.getV hx;have:=W.imm (qM3 hm V);subst this;rw[qp2 V] at q;refine qag7 G S l W (λM σ' H' F' A' q' S' N=>?_) q;have D:=N.kp S.ok S.loc.cells;have Y:∀b∈T,¬(A.count b≠0):=λb hb Q=>by have:=o.sep b;rw[zA0] at this;have:=qb1.mp hb;lia
  obtain⟨o',_⟩:=N.frame o r.cells S'.ok;have O:H' a=some (.l C):=by cases r with|l h _=>exact D.fr _ _ j (Y _ zA9)|lstZ h f _=>exact D.fr _ _ j λw=>D.wf _ w f
  exact⟨F',M,A',S',l.step N,(r.keep D Y),O,o',q'⟩
 rintro σ H ⟨F,k,A,S,l,r,j,o,q⟩;rw[rs.len,Mn] at q;exact l.nx _ _ _ _ _ q S Oy.refl
noncomputable def Bm(lo:Int)(n:Nat):List D:=(Lr n).map λ(i:Nat)=>.int (lo+(i:Int))
theorem qaj3(h:i<n):(Bm lo n)[i]?=some (.int (lo+(i:Int))):=by unfold Bm;rw[zBd,List.getElem?_range h];rfl
theorem qay7(lo:Int)(n:Nat):(Bm lo n).length=n:=by simp[Bm]
noncomputable def Fw(i:Int):Bool:=decide (-(2 ^ 62)<=i)&&decide (i<2 ^ 62)
theorem qam0{i:Int}(h:Fw i=true):-(2 ^ 62)<=i/\i<2 ^ 62:=by have:=zAg.mp h;exact⟨zA8 this.1,zA8 this.2⟩
theorem qaU1{E:Ee}{en:VEnds}{F:γ->Prop}{H:Hp}{σ:St}{ds:Ds}{A:List γ}(d:VG c X tg g)(S:Oz c F H σ ds A)(l:Lk c E F H A en)(q:Dr g t en (Bm lo n) ds):∃W:Nat->Nat->St->Hp->Prop,(∃m,W 0 m σ H)/\∀i m σ H,W i m σ H->((Itr lo n).stop i H/\E.nx σ H)∨((Itr lo n).go i H/\∃N:St->Hp->Prop,(∀σ' H',N σ' H'->∃b,b<m/\W (i+1) b σ' H')/\∀x H',(Itr lo n).yld i H x H'->F5 c g x σ H' λσ2 H2=>Ek c t {E with nx:=N,ct:=N,bk:=E.nx} σ2 H2):=by refine qav3 (λi σ H=>∃F ds A,Oz c F H σ ds A/\Lk c E F H A en/\Dr g t en ((Bm lo n).drop i) ds) ⟨F,ds,A,S,l,q⟩ ?_ ?_;{rintro i σ H e ⟨F,ds,A,S,l,q⟩;rw[qp2 (qaj3 e)] at q;exact qag7 d S l (.int _) (λa σ' H' F' A' f S' h=>⟨F',a,A',S',l.step h,f⟩) q};rintro σ H ⟨F,ds,A,S,l,q⟩;rw[L8 (by rw[qay7];exact zA2 _)] at q;exact l.nx _ _ _ _ _ q S Oy.refl
noncomputable def Im:Ds->Option Int|[.int j]=>some j|_=>none
theorem qaz9{xs:Ds}{j:Int}(h:Im xs=some j):xs=[.int j]:=by unfold Im at h;split at h;{cases h;rfl};cases h
def J0(tr:VTA)(g:VTG)(t:VTS):VTS:=λe ds=>tr ds (λxs ds1=>orF (Im xs) λj=>Fw j=true/\Dr g t e (Bm 0 j.toNat) ds1) e.xe
theorem qT5(s:PassesOwn (K7 X.prog X.w) X.A X.env X.xe)(hm:X.mg "range"=none)(d:VOs c X [a] tr)(e:VG c X tg g)(k:VSs c X body t)(f:Gl X "range" := by rfl)(u:J' [a] X.env=[(false,eval a X.env)]:=by rfl)(x:X.calm=true:=by rfl):VS c X (.For tg (.Call (.Name "range" p) [a] [] cpos) body [] pos) (J0 tr g t):=by refine⟨PS.mono (qaE9 s x (qY5 f hm d.h u) e.h k.h) λE σ H i=>?_,λn y o r=>d.m _ _ _ _ _ (λB b=>qa5 λj=>Nu (qv0 e k r _ b)) r.xe⟩;obtain⟨F,o,A,n,S,l,q⟩:=i;refine⟨F,o,A,n.xe,S,l.xe,d.m _ _ _ _ _ (λB b q K H1 F1 T A1 C S1 D=>?_) (λ_ _ z=>z) q⟩;obtain⟨j,G,hm,I⟩:=qa7.mp q;cases qaz9 G;obtain⟨v,rfl,J⟩:=C.one_inv;cases J;have:=qam0 hm;exact⟨j,rfl,this.1,this.2,qaU1 e S1 (l.step D) I⟩
def tFzV(te:VT):VT:=λds Q xe=>te ds (λd ds1=>Q d.fz ds1) xe
theorem Iq(h:VE c X e te):VE c X e (tFzV te):=by refine⟨PE.mono h.h λσ H Q a=>?_,λi Q Q' j n o p=>h.m _ _ _ _ _ (λd g=>o _ _) p⟩;obtain⟨F,i,A,j,S,x,q⟩:=a;refine⟨F,i,A,j,S,x,h.m _ _ _ _ _ (λd g q v H1 F1 T A1 k S1 r s=>?_) (λ_ _ z=>z) q⟩;obtain⟨l,t⟩:=share (C:=A1) r (λb=>by rw[zA0]) k.cells (λb=>rfl);exact q v H1 _ [] A1 (k.fz (λb f=>.inl f) λb u=>.inr u) ⟨(S1.loc.keep (Kp.more λb f=>Oj f) λ_ _ z=>z),l,S1.len,S1.ag⟩ l (s.trans t)
end
def bk1(i:Nat)(p:List Nat)(w:V)(d0:D)(ds:Ds):Option Ds:=Al [.pl i p w] [d0] ds
def Hu(i:Nat)(p:List Nat)(w:V)(d0:D)(e:VEnds):VEnds where
 nx ds:=orF (bk1 i p w d0 ds) e.nx
 rt d ds:=orF (bk1 i p w d0 ds) (e.rt d)
 bk ds:=orF (bk1 i p w d0 ds) e.bk
 ct ds:=orF (bk1 i p w d0 ds) e.ct
 xe x ds:=orF (bk1 i p w d0 ds) (e.xe x)
section
variable{c:Vc}{X:Cx}{a b e tg o:Lb}{body:List Lc}{g:VTG}{t:VTS}{pos:Pos}{pf:PF}{F F1:γ->Prop}{H H1:Hp}{σ:St}{ds ds1:Ds}{A A1 B:List γ}{E:Ee}{en:VEnds}
theorem qu7{a:Ds}(f:Ok F1 H1 (B++A1))(S1:Oz c F1 H1 σ ds1 A1)(r:Ow F1 H1 w d0 B)(S':Oz c F' H' σ' a A')(s':Oy F1 H1 A1 F' H' A')(h:bk1 i p w d0 a=some d):∃A2,Oz c F' H' σ' d A2/\Ok F' H' (B++A')/\Oy F1 H1 (B++A1) F' H' (B++A')/\∀b,A2.count b<=B.count b+A'.count b:=by
 obtain⟨g,j⟩:=s'.frame f r.cells S'.ok;have k:Ow F' H' w d0 B:=r.keep (s'.kp S1.ok S1.loc.cells) λb l e=>by have:=f.sep b;rw[zA0] at this;have:=qb1.mp l;lia
 obtain⟨A2,m,q2⟩:=qy7 (pls:=[.pl i p w]) (vs:=[w]) (more:=[]) (ys:=[d0]) (.so .nil) (.cons k .nil) S'.loc h;have e:∀b,A2.count b<=B.count b+A'.count b:=λb=>by have:=q2 b;simp only[zAc] at this;exact this
 exact⟨A2,⟨m,g.count λb=>by rw[zA0];exact e b,S'.len,S'.ag⟩,g,j,e⟩
theorem Lk.lend{p:List Nat}{d0:D}(l:Lk c E F H A en)(k:Oy F H A F1 H1 (B++A1))(j:Ok F1 H1 (B++A1))(S1:Oz c F1 H1 σ ds1 A1)(r:Ow F1 H1 w d0 B):Lk c E F1 H1 A1 (Hu i p w d0 en) where
 nx ds' σ' H' F' A' q S' s':=by
  obtain⟨a,f,q⟩:=qa7.mp q;obtain⟨A2,S2,n,h,g⟩:=qu7 j S1 r S' s' f;exact l.nx _ _ _ _ A2 q S2 ((k.trans h).count λb=>by rw[zA0];exact g b)
 bk ds' σ' H' F' A' q S' s':=by
  obtain⟨a,f,q⟩:=qa7.mp q;obtain⟨A2,S2,n,h,g⟩:=qu7 j S1 r S' s' f;exact l.bk _ _ _ _ A2 q S2 ((k.trans h).count λb=>by rw[zA0];exact g b)
 ct ds' σ' H' F' A' q S' s':=by
  obtain⟨a,f,q⟩:=qa7.mp q;obtain⟨A2,S2,n,h,g⟩:=qu7 j S1 r S' s' f;exact l.ct _ _ _ _ A2 q S2 ((k.trans h).count λb=>by rw[zA0];exact g b)
 xe x ds' σ' e H' F' A' q rx S' s':=by
  obtain⟨a,f,q⟩:=qa7.mp q;obtain⟨A2,S2,n,h,g⟩:=qu7 j S1 r S' s' f;exact l.xe x a σ' e H' F' A2 q rx S2 ((k.trans h).count λb=>by rw[zA0];exact g b)
 rt d ds' v σ' H' F' T A' q rv S' oT s':=by
  obtain⟨a,f,q⟩:=qa7.mp q;have o:Oy F1 H1 A1 F' H' A':=s'.count λb=>by rw[zA0];lia
  obtain⟨A2,S2,n,h,g⟩:=qu7 j S1 r S' o f;obtain⟨s,t⟩:=s'.frame j r.cells oT;have m:∀b,(T++A2).count b<=(B++(T++A')).count b:=λb=>by simp only[zA0];have:=g b;lia
  exact l.rt d a v σ' H' F' T A2 q rv S2 (s.count m) ((k.trans t).count m)
theorem qaR0{en a:VEnds}(b:en.Le a):(Hu i p w d0 en).Le (Hu i p w d0 a):=⟨λc=>qa5 b.nx,λd c=>qa5 (b.rt d),λc=>qa5 b.bk,λc=>qa5 b.ct,λx c=>qa5 (b.xe x)⟩
structure Held(F:γ->Prop)(H:Hp)(a:γ)(vs:List V)(z:Bool)(ys:Ds)(T A:List γ):Prop where
 r:Ow F H (.ref a) (.l z ys) T
 h:H a=some (.l vs)
 o:Ok F H (T++A)
theorem Held.step{a:γ}{e:Ds}(h:Held F H a vs z ys T A)(S:Oz c F H σ ds A)(S':Oz c F' H' σ' e A')(s':Oy F H A F' H' A'):Held F' H' a vs z ys T A':=by
 obtain⟨r,g,o⟩:=h;have d:=s'.kp S.ok S.loc.cells;have i:∀b∈T,¬(A.count b≠0):=λb j k=>by have:=o.sep b;rw[zA0] at this;have:=qb1.mp j;lia
 refine⟨r.keep d i,?_,(s'.frame o r.cells S'.ok).1⟩;cases r with|l h _=>exact d.fr _ _ g (i _ zA9)|lstZ h f _=>exact d.fr _ _ g λw=>d.wf _ w f
theorem Held.get{a:γ}(h:Held F H a vs z ys T A)(hm:D.imms ys=true)(f:vs[i]?=some x):∃y,ys[i]?=some y/\Ow F H x y []:=by obtain⟨k,g,Ael',j,b,c,_⟩:=h.r.lst_inv;cases j;have:=h.h;rw[b] at this;cases this;obtain⟨y,B,d,e⟩:=c.getV f;have:=e.imm (qM3 hm d);subst this;exact⟨y,d,e⟩
theorem Held.len{a:γ}(h:Held F H a vs z ys T A):vs.length=ys.length:=by obtain⟨f,d,Ael',e,b,c,_⟩:=h.r.lst_inv;cases e;have:=h.h;rw[b] at this;cases this;exact c.len
theorem qW3{a:γ}(j:VG c X tg g)(S:Oz c F H σ ds A)(l:Lk c E F H A en)(b:Held F H a vs z ys T A)(hm:D.imms ys=true)(q:Dr g t en ys ds):∃W:Nat->Nat->St->Hp->Prop,(∃m,W 0 m σ H)/\∀i m σ H,W i m σ H->((Itl K a).stop i H/\E.nx σ H)∨((Itl K a).go i H/\∃N:St->Hp->Prop,(∀σ' H',N σ' H'->∃e,e<m/\W (i+1) e σ' H')/\∀x H',(Itl K a).yld i H x H'->F5 c g x σ H' λσ2 H2=>Ek c t {E with nx:=N,ct:=N,bk:=E.nx} σ2 H2):=by refine qap0 (xs:=vs) (λi σ H=>∃F ds A,Oz c F H σ ds A/\Lk c E F H A en/\Held F H a vs z ys T A/\Dr g t en (ys.drop i) ds) ⟨F,ds,A,S,l,b,q⟩ ?_ ?_ ?_;{rintro i σ H _ ⟨F,ds,A,S,l,b,q⟩;exact .inl (.inl b.h)};{rintro i x σ H k ⟨F,ds,A,S,l,b,q⟩;obtain⟨y,n,o⟩:=b.get hm k;rw[qp2 n] at q;exact qag7 j S l o (λd σ' H' F' A' p S' f=>⟨F',d,A',S',l.step f,b.step S S' f,p⟩) q};rintro σ H ⟨F,ds,A,S,l,b,q⟩;rw[b.len,Mn] at q;exact l.nx _ _ _ _ _ q S Oy.refl
def sForP(pf:PF)(g:VTG)(t:VTS):VTS:=λe ds=>orF (pf ds) λq=>orF (A4 ds q.1 q.2) λd=>orF d.lstOf λys=>D.imms ys=true/\∀w,Dr g t (Hu q.1 q.2 w d e) ys (Bd ds q.1 q.2 (.hole w))
theorem sforP(J:PassesOwn (K7 X.prog X.w) X.A X.env X.xe)(hi:VP c X o pf)(j:VG c X tg g)(y:VSs c X body t)(K:X.calm=true:=by rfl)(k:∀v,Kn o X.env v=pure v:=by intro _;rfl):VS c X (.For tg o body [] pos) (sForP pf g t):=by
 refine⟨PS.mono (qaE9 J K (qC6 hi.h) j.h y.h k) λE σ H m=>?_,λL M n N=>qa5 λq=>qa5 λd=>qa5 λO=>Nu λh w=>qv0 j y (qaR0 N) _ _ (h w)⟩;obtain⟨F,n,A,L,S,l,q⟩:=m;obtain⟨⟨i,p⟩,P,q⟩:=qa7.mp q;obtain⟨d,e2,q⟩:=qa7.mp q;obtain⟨O,Q,R,q⟩:=qa7.mp q;obtain⟨z,rfl⟩:=qD6 Q;refine⟨F,n,A,i,p,_,S,P,e2,D.noConfusion,λu w H1 T U s=>?_⟩;obtain⟨B,C,r,G,V⟩:=(S.same s).place e2 D.noConfusion T U;obtain⟨A1,W,q2⟩:=V (.hole w) [] (Kp.same λ_ _ z=>z) (λ_ _ z=>z) (.hole w);have x:Ok F H1 (B++A1):=(S.same s).ok.count λb=>by rw[zA0,q2,G];simp
 have Y:Oy F H A F H1 (B++A1):=⟨λb o e _=>s b o e,λb o e z=>by rw[zA0,q2];have:=G b;simp;lia,λ_ f=>f,λ_ _ _ _ f=>f⟩;have S1:Oz c F H1 σ (Bd n i p (.hole w)) A1:=⟨W,x.right,S.len,S.ag⟩;obtain⟨a,Z,Ael,rfl,I,rs,_⟩:=r.lst_inv;exact⟨a,rfl,⟨Z,.inl (.inl I)⟩,qW3 j S1 (l.lend Y x S1 r) ⟨r,I,x⟩ R (q _)⟩
noncomputable def enD(ys:Ds):List D:=ys.zipIdx.map λp=>.q [.int (p.2:Int),p.1]
theorem qaU4(h:ys[i]?=some y):(enD ys)[i]?=some (.q [.int (i:Int),y]):=by unfold enD;rw[zBd,List.getElem?_zipIdx,h];simp
theorem qaK0(ys:Ds):(enD ys).length=ys.length:=by simp[enD]
end
noncomputable def fin(W:Nat->Bool):Nat->Ds->Ds->Ds|k,d::r,d'::r'=>(if W k=true then d' else d)::fin W (k+1) r r'|_,_,_=>[]
noncomputable def G7(W:Nat->Bool):Nat->Ds->Bool|_,[]=>true|k,d::r=>(W k||d.imm)&&G7 W (k+1) r
def qaw0(W:Nat->Bool)(ds:Ds)(Q:DK)(xe:XKd):VEnds where
 nx ds':=Q .non (fin W 0 ds ds')
 rt d ds':=Q d (fin W 0 ds ds')
 bk _:=False
 ct _:=False
 xe x ds':=xe x (fin W 0 ds ds')
section
variable{F F':γ->Prop}{H H':Hp}
theorem qbc3(q:Kp F H Wr F' H'):∀{vs:List V}{ds:Ds}{A:List γ}{k:Nat}{w':List (Option V)}{a:Ds}{A':List γ},Oo F H vs ds A->G7 W k ds=true->Locs F' H' w' a A'->vs.length<=w'.length->(∀i,i<vs.length->W (k+i)=true->w'[i]?=(vs.map some)[i]?)->∃A2,Oo F' H' vs (fin W k ds a) A2/\∀b,A2.count b<=A'.count b:=by
 intro vs;induction vs with
 |nil=>intro ds A k w' a A' r g L n l;cases r;exact⟨[],by cases a<;>exact .nil,λb=>by simp⟩|cons v vs s=>
  intro ds A k w' a A' r g L n l;cases r with
  |@cons _ d B _ ds B2 r1 t=>
   have g:=zAg.mp g;have step:∀{σ2:List (Option V)}{f:Ds}{A2:List γ}(o:Option V),w'=o::σ2->Locs F' H' σ2 f A2->∃A3,Oo F' H' vs (fin W (k+1) ds f) A3/\∀b,A3.count b<=A2.count b:=λ{σ2 f A2} o e L2=>by subst e;refine s t g.2 L2 (by simpa using n) λi j c=>?_;have:=l (i+1) (by simpa using j) (by rw[<-c];congr 1;lia);simpa using this
   cases L with
   |nil=>simp at n|no L2=>
    obtain⟨A3,m,q2⟩:=step none rfl L2;by_cases c:W k=true;{have:=l 0 (by simp) (by simpa using c);simp at this};have j:d.imm=true:=by rcases Bool.or_eq_true_iff.mp g.1 with h|h;{exact absurd h c};exact h
    have:=r1.imm j;subst this;refine⟨[]++A3,?_,λb=>by simpa using q2 b⟩;show Oo F' H' (v::vs) ((if W k=true then _ else d)::_) _;rw[if_neg c];exact .cons (r1.keep q λb p=>by cases p) m
   |@so v' d' B' σ2 f A2 rr L2=>
    obtain⟨A3,m,q2⟩:=step (some v') rfl L2;by_cases c:W k=true;{have:=l 0 (by simp) (by simpa using c);simp at this;subst this;refine⟨B'++A3,?_,λb=>by simp only[zA0];have:=q2 b;lia⟩;show Oo F' H' (v'::vs) ((if W k=true then d' else d)::_) _;rw[if_pos c];exact .cons rr m};have j:d.imm=true:=by rcases Bool.or_eq_true_iff.mp g.1 with h|h;{exact absurd h c};exact h
    have:=r1.imm j;subst this;refine⟨[]++A3,?_,λb=>by simp only[zB4,zA0];have:=q2 b;lia⟩;show Oo F' H' (v::vs) ((if W k=true then d' else d)::_) _;rw[if_neg c];exact .cons (r1.keep q λb p=>by cases p) m
theorem Oo.locs(r:Oo F H vs ds A):Locs F H (vs.map some) ds A:=by induction vs generalizing ds A with|nil=>cases r;exact .nil|cons v vs a=>cases r with|cons h t=>exact .so h (a t)
theorem qL8:∀n:Nat,Locs F H (Ls n none) (Ls n .u) []|0=>.nil|n+1=>.no (qL8 n)
end
structure FunE(K:Nx)(x qual:Str)(st:Lc)(f:γ)(fd:ε):Prop where
 ex:∃(oc:V')(od:Option γ)(dV kV doc pm:V')(an:Option γ)(cdv ct:V')(osl:Array (Option V')),
  fd=W.fnOf x qual (qg4 st) (qd0 st) (qa2 st) dV kV doc pm an cdv ct/\K.lookup f=some ⟨oc,od,.func fd,osl⟩/\W.codeIn K cdv qual=true
theorem FunE.of(F:Fun K x qual st f fd):FunE K x qual st f fd :=
 by obtain⟨g,h,kV,a,i,j,b,k,c,e,l,d⟩:=F.ex;exact⟨⟨g,h,.none,kV,a,i,j,b,k,c,e,l,d⟩⟩
theorem FunE.okX{P:K8}{w:La}(F:FunE K x qual st f fd)(S:qa8 N ps (qa2 st))(len:∀vs H Q E,sp vs H Q E->vs.length=ps.length)(hbody:∀(a:V')(A:K9)(outer:List Env)(s:δ)(H:Hp)(vs:List V)(Q:VK)(E:XK),O0 cm k (A.deeper (PyProof.Rows.envOfC qual (qa2 st) s.heap.objs.size f a))->sp vs H Q E->∃t,PSs (Ez cm (CX1 P w) P w K mg base N qual (qa2 st) f a A outer s H E) (qd0 st) t/\t {nx:=λ_ H'=>Q .non H',rt:=Q} (L2.start N vs) H):Dx cm P w K mg base (CX1 P w) (k+1) f fd ps sp:=by obtain⟨i,j,l,kV,d,m,n,a,o,e,rfl,g,b⟩:=F.ex;exact Jh g b S len λA outer s H vs Q E h c=>hbody a A outer s H vs Q E h c
theorem VFn.mkE{P:K8}{w:La}(Fu:FunE K x qual st f fd)(Sc:qa8 N ps (qa2 st))(W:Nat->Bool)(G:Br s)(j:∀ds Q xe,s ds Q xe->ds.length=ps.length)(n:∀ds Q xe,s ds Q xe->G7 W 0 ds=true)(hbody:∀(g:V')(A:K9)(outer:List Env)(B:δ)(H:Hp)(E:XK)(av:List (Option V)),O0 cm k (A.deeper (PyProof.Rows.envOfC qual (qa2 st) B.heap.objs.size f g))->∃t,VSs ⟨λ_=>E,W,av,[]⟩ (Ez cm (CX1 P w) P w K mg base N qual (qa2 st) f g A outer B H E) (qd0 st) t/\∀ds Q xe,s ds Q xe->t (qaw0 W ds Q xe) (ds++Ls (N.length-ds.length) .u)):Ej cm P w K mg base (k+1) f fd ps s:=by
 refine⟨Fu.okX Sc (λm H Q E ⟨F,ds,A,r,o,h⟩=>by rw[r.len];exact j _ _ _ h) λg Ar outer B H m Q E I C=>?_,G⟩;obtain⟨F,ds,A,r,o,h⟩:=C;obtain⟨t,J,L⟩:=hbody g Ar outer B H E (L2.start N m) I;have X:=j _ _ _ h;have M:=n _ _ _ h;have Y:ps.length<=N.length:=by have:=congrArg Lv Sc.pre;rw[zBs] at this;lia
 have L0:Locs F H (L2.start N m++[]) (ds++Ls (N.length-ds.length) .u) A:=by rw[zAc];unfold L2.start;rw[r.len];have:=r.locs.append (qL8 (F:=F) (H:=H) (N.length-ds.length));rwa[zAc] at this
 have l:∀{Z':St}{H':Hp}{F':γ->Prop}{a:Ds}{A' A2:List γ},Oz ⟨λ_=>E,W,L2.start N m,[]⟩ F' H' Z' a A'->Oy F H A F' H' A2->∃A3,Oo F' H' m (fin W 0 ds a) A3/\∀b,A3.count b<=A'.count b:=λ{Z' H' F' a A' A2} S' c=>by have hlen':=S'.len;simp only[zAc] at hlen';refine qbc3 (c.kp o r.cells) r M (by have:=S'.loc;simpa using this) ?_ λi D O=>?_;{rw[<-hlen'];unfold L2.start;simp};have:=S'.ag i (by simpa using O);simp only[zAc] at this;rw[this];show (L2.start N m)[i]?=_;unfold L2.start;rw[zAn (by simpa using D)]
 refine⟨_,J.h,F,_,A,qaw0 W ds _ _,(⟨L0,o,by simp,λi _=>by simp⟩),⟨?_,?_,λ_ _ _ _ _ z=>Oh z,λ_ _ _ _ _ z=>Oh z,?_⟩,L _ _ _ h⟩
 .intro a Z' H' F' A' q S' c;obtain⟨A3,p,q2⟩:=l S' c;have u:∀b,([]++A3).count b<=A'.count b:=λb=>by simpa using q2 b
  exact q .non H' F' [] A3 .non p (S'.ok.count u) (c.count u)
 .intro d a v Z' H' F' T A' q R S' S c;obtain⟨A3,p,q2⟩:=l S' c;have u:∀b,(T++A3).count b<=(T++A').count b:=λb=>by simp only[zA0];have:=q2 b;lia
  exact q v H' F' T A3 R p (S.count u) (c.count u)
 intro y a Z' e H' F' A' q U S' c;obtain⟨A3,p,q2⟩:=l S' c;exact q e H' F' A3 U p (S'.ok.count q2) (c.count q2)
theorem VFn.mk'{P:K8}{w:La}(Fu:Fun K x qual st f fd)(Sc:qa8 N ps (qa2 st))(W:Nat->Bool)(e:Br s)(a:∀ds Q xe,s ds Q xe->ds.length=ps.length)(b:∀ds Q xe,s ds Q xe->G7 W 0 ds=true)(hbody:∀(c:V')(A:K9)(outer:List Env)(d:δ)(H:Hp)(E:XK)(av:List (Option V)),O0 cm k (A.deeper (PyProof.Rows.envOfC qual (qa2 st) d.heap.objs.size f c))->∃t,VSs ⟨λ_=>E,W,av,[]⟩ (Ez cm (CX1 P w) P w K mg base N qual (qa2 st) f c A outer d H E) (qd0 st) t/\∀ds Q xe,s ds Q xe->t (qaw0 W ds Q xe) (ds++Ls (N.length-ds.length) .u)):Ej cm P w K mg base (k+1) f fd ps s:=VFn.mkE (FunE.of Fu) Sc W e a b hbody
def Bu:List (Option Nat)->Ds->Ds×Ds|[],ds=>([],ds)|none::r,ds=>(.u::(Bu r ds).1,(Bu r ds).2)|some j::r,ds=>((ds[j]?).getD .u::(Bu r (ds.set j .u)).1,(Bu r (ds.set j .u)).2)
def Fh:List (Option Nat)->Ds->Ds->Ds|none::r,_::i,o=>Fh r i o|some j::r,d::i,o=>Fh r i (o.set j d)|_,_,o=>o
def E7(g:VTG)(qf:VTT)(te:VT)(K:Ds->Ds->Prop):List D->Ds->Ds->Prop|[],acc,a=>K acc a|x::xs,acc,a=>g x a λι1=>qf ι1 (λb ι2=>if b=true then te ι2 (λd ι3=>acc.length<big/\E7 g qf te K xs (acc++[d]) ι3) (λ_ _=>False) else E7 g qf te K xs acc ι2) (λ_ _=>False)
noncomputable def capW(src:List (Option Nat)):Nat->Bool:=λi=>match src[i]? with|some (some _)=>true|_=>false
abbrev cIn(src:List (Option Nat))(av:List (Option V)):Vc:=⟨λ_ _ _ _=>False,capW src,av,[]⟩
structure VF(c:Vc)(X:Cx)(ifs:List Lb)(t:VTT):Prop where
 h:PFs X ifs (Es c t)
 m:∀ds (Q Q':Bool->Ds->Prop) (xe xe':XKd),(∀d ds',Q d ds'->Q' d ds')->(∀x ds',xe x ds'->xe' x ds')->t ds Q xe->t ds Q' xe'
def qYes:VTT:=λds Q _=>Q true ds
theorem Fi:VF c X [] qYes:=⟨λDg s f H Q I ⟨F,a,A,b,S,x,q⟩=>qaO9 Dg s f H Q I (q H F A S Oy.refl),λa Q Q' b d e _=>e _ _⟩
theorem F6(h:VTe c X e t):VF c X [e] t:=⟨qaX7 h.h,h.m⟩
section
variable{F F':γ->Prop}{H H':Hp}
theorem qah0:∀{src:List (Option Nat)}{J a:List (Option V)}{ds:Ds}{A:List γ},Locs F H (J++a) ds A->(∀j,some j∈src->j<J.length)->∃Ai Ao,Locs F H (Dn J src) (Bu src ds).1 Ai/\Locs F H (J++a) (Bu src ds).2 Ao/\∀b,A.count b=Ai.count b+Ao.count b
 |[],J,a,ds,A,L,_=>⟨[],A,.nil,L,λb=>by simp⟩|none::r,J,a,ds,A,L,h=>by obtain⟨Ai,Ao,f,q2,g⟩:=qah0 L λj c=>h j (zA6 _ c);exact⟨Ai,Ao,.no f,q2,g⟩|some j::r,J,a,ds,A,L,h=>by
  have c:=h j zA9;have t:=L.len;rw[zAd] at t;obtain⟨z,e⟩:∃d,ds[j]?=some d:=⟨_,zBl ⋯⟩;obtain⟨σ1,o,σ2,i,k,A1,B,A2,m,e2,u,w,x,n,p,q⟩:=L.split e;have s:(J++a)[j]?=some o:=by rw[m];exact qI0 u
  rw[zAn c] at s;have y:ds.set j .u=i++.u::k:=by have:=congrArg (λl=>l.set j .u) e2;rw[this,qt9 w]
  have L':Locs F H (J++a) (ds.set j .u) (A1++A2):=by rw[m,y];cases p with|no=>exact n.append (.no q)|@so v _ _ _=>exact n.append (.so (.u v) q)
  obtain⟨Ai,Ao,f,q2,g⟩:=qah0 L' λj c=>h j (zA6 _ c);refine⟨B++Ai,Ao,?_,q2,λb=>by rw[x];have:=g b;simp only[zA0] at *;lia⟩;show Locs F H (((J[j]?).getD none)::Dn J r) ((ds[j]?).getD .u::_) _;rw[s,e];exact Locs.cons p f
theorem qP8:∀{src:List (Option Nat)}{J c J':List (Option V)}{K o:Ds}{Ai Ao:List γ},Locs F H J' K Ai->Locs F H (J++c) o Ao->(∀j,some j∈src->j<J.length)->(∀(i j:Nat),src[i]?=some (some j)->J'[i]?=some ((J[j]?).getD none))->J'.length=src.length->∃A',Locs F H (J++c) (Fh src K o) A'/\∀b,A'.count b<=Ai.count b+Ao.count b
 |[],J,c,J',K,o,Ai,Ao,L,Lo,_,_,_=>⟨Ao,by cases K<;>exact Lo,λb=>⋯⟩|none::r,J,c,J',K,o,Ai,Ao,L,Lo,h,k,f=>by cases L with|nil=>simp at f|no L2=>obtain⟨A',g,q2⟩:=qP8 L2 Lo (λj a=>h j (zA6 _ a)) (λi j e=>by simpa using k (i+1) j (by simpa using e)) (by simpa using f);exact⟨A',g,q2⟩|so w L2=>obtain⟨A',g,q2⟩:=qP8 L2 Lo (λj a=>h j (zA6 _ a)) (λi j e=>by simpa using k (i+1) j (by simpa using e)) (by simpa using f);exact⟨A',g,λb=>by rw[zA0];have:=q2 b;lia⟩
 |some j::r,J,c,J',K,o,Ai,Ao,L,Lo,h,k,f=>by
  have a:=h j zA9;have m:=Lo.len;rw[zAd] at m;obtain⟨G,n⟩:∃d,o[j]?=some d:=⟨_,zBl ⋯⟩;obtain⟨σ1,p,σ2,q,s,A1,B,A2,t,e2,D,E,x,y,I,z⟩:=Lo.split n;have A:(J++c)[j]?=some p:=by rw[t];exact qI0 D
  rw[zAn a] at A;have u:=k 0 j rfl;rw[A] at u;have C:∀d,o.set j d=q++d::s:=λd=>by have:=congrArg (λl=>l.set j d) e2;rw[this,qt9 E]
  cases L with
  |nil=>simp at f|no L2=>
   have:p=none:=by simpa using u.symm
   subst this;have Lo':Locs F H (J++c) (o.set j .u) (A1++A2):=by rw[t,C];exact y.append (.no z)
   obtain⟨A',g,q2⟩:=qP8 L2 Lo' (λj a=>h j (zA6 _ a)) (λi j e=>by simpa using k (i+1) j (by simpa using e)) (by simpa using f);exact⟨A',g,λb=>by rw[x];have:=q2 b;simp only[zA0] at *;lia⟩
  |@so v d Bv _ _ _ w L2=>
   have:p=some v:=by simpa using u.symm
   subst this;have Lo':Locs F H (J++c) (o.set j d) (A1++(Bv++A2)):=by rw[t,C];exact y.append (.so w z)
   obtain⟨A',g,q2⟩:=qP8 L2 Lo' (λj a=>h j (zA6 _ a)) (λi j e=>by simpa using k (i+1) j (by simpa using e)) (by simpa using f);exact⟨A',g,λb=>by rw[x];have:=q2 b;simp only[zA0] at *;lia⟩
theorem qaF1(J:St)(src:List (Option Nat)):(Dn J src).length=src.length:=by simp[Dn]
theorem qaF2(h:src[i]?=some (some j)):(Dn J src)[i]?=some ((J[j]?).getD none):=by unfold Dn;rw[zBd,h];rfl
structure Ir(Pp:(γ->Prop)->Hp->Prop)(T:List γ):Prop where
 keep:∀{F F':γ->Prop}{H H':Hp}{W:γ->Prop},Kp F H W F' H'->(∀b∈T,¬W b)->Pp F H->Pp F' H'
 cells:∀{F:γ->Prop}{H:Hp},Pp F H->∀b∈T,∃o,H b=some o/\Ei o=true
end
section
variable{c:Vc}{F F':γ->Prop}{H H':Hp}{K:(γ->Prop)->Hp->Prop}{G:List (Option V)}{o:Ds}{I:γ}{J:Ds}{T A A' M:List γ}{E:St}{ds:Ds}
noncomputable def Tot(B T Ao A:List γ):List γ:=B++(T++(Ao++A))
theorem qz7(st:Ir K T)(r:Ow F H (.ref I) (.l false J) B)(g:K F H)(L:Locs F H G o Ao)(h:Ok F H (Tot B T Ao A))(S:Oz c F H E ds A)(s:Oy F H A F' H' A')(o':Ok F' H' A'):Ow F' H' (.ref I) (.l false J) B/\K F' H'/\Locs F' H' G o Ao/\Ok F' H' (Tot B T Ao A')/\Oy F H (Tot B T Ao A) F' H' (Tot B T Ao A'):=by
 unfold Tot at *
 have f:=s.kp S.ok S.loc.cells;have i:∀b,(B++(T++(Ao++A))).count b=((B++(T++Ao))++A).count b:=λb=>by simp only[zA0];lia
 have d:∀b,b∈B∨b∈T∨b∈Ao->¬(A.count b≠0):=λb a j=>by have:=h.sep b;simp only[zA0] at this;rcases a with a|a|a<;>have:=qb1.mp a<;>lia
 have k:∀b∈B++(T++Ao),∃o,H b=some o/\Ei o=true:=λb a=>by rcases zAb.mp a with a|a;{exact r.cells b a};rcases zAb.mp a with a|a;{exact st.cells g b a};exact L.cells b a
 obtain⟨l,m⟩:=s.frame (T:=B++(T++Ao)) (h.count λb=>by rw[i];exact zA2 _) k o';have e:∀b,(B++(T++(Ao++A'))).count b=((B++(T++Ao))++A').count b:=λb=>by simp only[zA0];lia
 exact⟨r.keep f λb a=>d b (.inl a),st.keep f (λb a=>d b (.inr (.inl a))) g,L.keep f λb a=>d b (.inr (.inr a)),l.count λb=>by rw[e];exact zA2 _,(m.pre λb=>by rw[i]).count λb=>by rw[e];exact zA2 _⟩
theorem qaF8(st:Ir K T)(r:Ow F H (.ref I) (.l false J) B)(p:K F H)(L:Locs F H G o Ao)(S:Oz c F H E ds A)(q:Ow F H v d M)(h:Ok F H (Tot B T Ao (M++A))):∃vs B',H I=some (.l vs)/\vs.length=J.length/\Ow F (upd H I (.l (vs++[v]))) (.ref I) (.l false (J++[d])) B'/\K F (upd H I (.l (vs++[v])))/\Locs F (upd H I (.l (vs++[v]))) G o Ao/\Oz c F (upd H I (.l (vs++[v]))) E ds A/\Ok F (upd H I (.l (vs++[v]))) (Tot B' T Ao A)/\Oy F H (Tot B T Ao (M++A)) F (upd H I (.l (vs++[v]))) (Tot B' T Ao A):=by
 unfold Tot at *
 obtain⟨a,vs,Ael,s,j,l,rfl⟩:=qG2 r;cases s;have t:=h.sep I;simp only[zA0,zAp,zB3,if_true] at t;have m:¬F I:=λf=>by have:=h.fro I f;simp only[zA0,zAp,zB3,if_true] at this;lia
 have k:=qR4 (F:=F) (o':=.l (vs++[v])) j rfl m;have i:∀X:List γ,X.count I=0->∀b∈X,¬b=I:=λX y b C w=>by subst w;exact(qb1.mp C) y
 have g:∀b,(I::(Ael++(M++[]))++(T++(Ao++A))).count b<=(I::Ael++(T++(Ao++(M++A)))).count b:=λb=>by simp only[zA0,zAp,Mi];lia
 have n:∀b,F b->∃o,upd H I (.l (vs++[v])) b=some o:=λb f=>by obtain⟨x,e⟩:=h.ex b f;exact⟨x,by rw[qd1 (show b≠I from λw=>m (w ▸ f))];exact e⟩
 refine⟨vs,I::(Ael++(M++[])),j,l.len,?_,st.keep k (i T ⋯) p,L.keep k (i Ao ⋯),⟨S.loc.keep k (i A ⋯),⟨S.ok.sep,S.ok.fro,n⟩,S.len,S.ag⟩,⟨λb=>zAi (g b) (h.sep b),λb f=>by have:=h.fro b f;have:=g b;lia,n⟩,λb u e z=>?_,λb u e z=>by have:=g b;lia,λ_ f=>f,λ_ _ _ _ f=>f⟩;{exact .l qb8 ((l.append (.cons q .nil)).keep k (i _ (by simp only[zA0,Mi];lia)))};rw[qd1 λw=>?_];{exact e};subst w;simp only[zA0,zAp,zB3,if_true] at z;lia
end
def qs9(src:List (Option Nat))(g:VTG):TG:=λv a H Q=>∃av,F5 (cIn src av) g v a H Q
def qs8(src:List (Option Nat))(q:VTT):TT:=λa H Q=>∃av,Es (cIn src av) q a H Q
def Bs(src:List (Option Nat))(t:VT):TE:=λa H Q=>∃av,Bh (cIn src av) t a H Q
structure Blk(X:Cx)(NY:List Str)(sc:Scope)(src:List (Option Nat))(tg:Lb)(ifs:List Lb)(elt:Lb)(g:VTG)(qf:VTT)(te:VT):Prop where
 g:∀av C s0 H0 ex,VG (cIn src av) (qm6 X NY sc C s0 H0 ex) tg g
 f:∀av C s0 H0 ex,VF (cIn src av) (qm6 X NY sc C s0 H0 ex) ifs qf
 e:∀av C s0 H0 ex,VE (cIn src av) (qm6 X NY sc C s0 H0 ex) elt te
 lt:∀Dg a H s,Ox X Dg a H s->∀j,some j∈src->j<a.length
section
variable{c:Vc}{X:Cx}{NY:List Str}{sc:Scope}{src:List (Option Nat)}{tg elt e:Lb}{ifs:List Lb}{g:VTG}{qf:VTT}{te:VT}
theorem Blk.pg(b:Blk X NY sc src tg ifs elt g qf te):∀C a H0 ex,PG (qm6 X NY sc C a H0 ex) tg (qs9 src g):=λC a H0 ex Dg s Y H v u Q I r ⟨c,q⟩=>(b.g c C a H0 ex).h Dg s Y H v u Q I r q
theorem Blk.pf(b:Blk X NY sc src tg ifs elt g qf te):∀C a H0 ex,PFs (qm6 X NY sc C a H0 ex) ifs (qs8 src qf):=λC a H0 ex Dg s Y H Q I ⟨c,q⟩=>(b.f c C a H0 ex).h Dg s Y H Q I q
theorem Blk.pe(b:Blk X NY sc src tg ifs elt g qf te):∀C a H0 ex,PE (qm6 X NY sc C a H0 ex) elt (Bs src te):=λC a H0 ex Dg s Y H Q I ⟨c,q⟩=>(b.e c C a H0 ex).h Dg s Y H Q I q
theorem Blk.gm(b:Blk X NY sc src tg ifs elt g qf te):∀d ds (Q Q':Ds->Prop),(∀a,Q a->Q' a)->g d ds Q->g d ds Q':=(b.g [] 0 {} (λ_=>none) []).m
theorem Blk.fm(b:Blk X NY sc src tg ifs elt g qf te):∀ds (Q Q':Bool->Ds->Prop) (xe c:XKd),(∀d a,Q d a->Q' d a)->(∀x a,xe x a->c x a)->qf ds Q xe->qf ds Q' c:=(b.f [] 0 {} (λ_=>none) []).m
theorem Blk.em(b:Blk X NY sc src tg ifs elt g qf te):∀ds (Q Q':DK) (xe c:XKd),(∀d a,Q d a->Q' d a)->(∀x a,xe x a->c x a)->te ds Q xe->te ds Q' c:=(b.e [] 0 {} (λ_=>none) []).m
theorem qm7(b:Blk X NY sc src tg ifs elt g qf te){K K':Ds->Ds->Prop}(h:∀acc Z,K acc Z->K' acc Z):∀(xs:List D) acc Z,E7 g qf te K xs acc Z->E7 g qf te K' xs acc Z|[],acc,Z=>h acc Z|x::xs,acc,Z=>b.gm _ _ _ _ λι1=>b.fm _ _ _ _ _ (λk ι2=>qP6 (b.em _ _ _ _ _ (λd ι3=>Nu (qm7 b h xs _ _)) λ_ _ z=>z) (qm7 b h xs _ _)) λ_ _ z=>z
variable{F F0:γ->Prop}{H H0:Hp}{Pp:(γ->Prop)->Hp->Prop}{τ:List (Option V)}{o0:Ds}{Dd:γ}{acc:Ds}{T A A0:List γ}{Y:St}{ds Z:Ds}{av:List (Option V)}{K:Ds->Ds->Prop}
def Mid(src:List (Option Nat))(av:List (Option V))(Pp:(γ->Prop)->Hp->Prop)(T:List γ)(τ:List (Option V))(o0:Ds)(Dd:γ)(F0:γ->Prop)(H0:Hp)(A0:List γ)(g:VTG)(qf:VTT)(te:VT)(K:Ds->Ds->Prop)(xs:List D)(Y:St)(H:Hp):Prop:=∃F Z A acc B Ao,Oz (cIn src av) F H Y Z A/\Ow F H (.ref Dd) (.l false acc) B/\Pp F H/\Locs F H τ o0 Ao/\Ok F H (Tot B T Ao A)/\Oy F0 H0 A0 F H (Tot B T Ao A)/\E7 g qf te K xs acc Z
theorem qN0(b:Blk X NY sc src tg ifs elt g qf te)(st:Ir Pp T)(S:Oz (cIn src av) F H Y Z A)(r:Ow F H (.ref Dd) (.l false acc) B)(t:Pp F H)(L:Locs F H τ o0 Ao)(u:Ok F H (Tot B T Ao A))(p:Oy F0 H0 A0 F H (Tot B T Ao A))(w:Ow F H x y [])(q:E7 g qf te K (y::xs) acc Z):qs9 src g x Y H λσ2 H2=>qs8 src qf σ2 H2 λh H3=>if h=true then Bs src te σ2 H3 λv H4=>∃ys,H4 Dd=some (.l ys)/\ys.length<Kl/\Mid src av Pp T τ o0 Dd F0 H0 A0 g qf te K xs σ2 (upd H4 Dd (.l (ys++[v]))) else Mid src av Pp T τ o0 Dd F0 H0 A0 g qf te K xs σ2 H3:=by have a:∀(F:γ->Prop)(H:Hp)(A:List γ),Xc (cIn src av) (λ_ _=>False) F H A:=λF H A x C Y' e H' F' A' z=>z.elim;refine⟨av,F,Z,A,[],y,w,S,S.ok,b.gm _ _ _ _ (λι1 q σ1 H1 F1 A1 S1 E=>?_) q⟩;obtain⟨G,i,L1,j,t1⟩:=qz7 st r t L u S (show Oy F H A F1 H1 A1 from E) S1.ok;refine⟨av,F1,ι1,A1,_,S1,a _ _ _,b.fm _ _ _ _ _ (λk ι2 q H2 F2 A2 S2 I=>?_) (λ_ _ z=>z) q⟩;obtain⟨s,c,L2,f,t2⟩:=qz7 st G i L1 j S1 I S2.ok;cases k with|false=>rw[if_neg ∅] at q ⊢;exact⟨F2,ι2,A2,acc,B,Ao,S2,s,c,L2,f,(p.trans t1).trans t2,q⟩|true=>rw[if_pos rfl] at q ⊢;refine⟨av,F2,ι2,A2,_,S2,a _ _ _,b.em _ _ _ _ _ (λd ι3 q v H3 F3 Tv A3 J S3 M N=>?_) (λ_ _ z=>z) q⟩;obtain⟨O,l,L3,m,P⟩:=qz7 st s c L2 f S2 N M;obtain⟨Q,B',R,e2,U,n,L4,S4,o,W⟩:=qaF8 st O l L3 S3 J m;exact⟨Q,R,by rw[e2];exact zAh q.1 qk2,F3,ι3,A3,acc++[d],B',Ao,S4,U,n,L4,o,((p.trans t1).trans t2).trans (P.trans W),q.2⟩
theorem qN1(f:∀j,some j∈src->j<Y.length)(S:Oz c F H Y ds A)(n:Ok F H (T++A))(l:Pp F H)(st:Ir Pp T)(h:H Dd=none)(q:E7 g qf te K xs [] (Bu src ds).1):Mid src (Dn Y src) Pp T (Y++c.gv) (Bu src ds).2 Dd F H (T++A) g qf te K xs (Dn Y src) (upd H Dd (.l [])):=by
 obtain⟨Ai,Ao,o,q2,p⟩:=qah0 S.loc f;have a:=Same.new (u:=.l []) h;have okN:=(qh8 h).ok n (λb d=>by rcases zAb.mp d with d|d;{exact st.cells l b d};exact S.loc.cells b d) a;have m:∀b,(Tot [Dd] T Ao Ai).count b=([Dd]++(T++A)).count b:=λb=>by unfold Tot;simp only[zA0,p];lia
 have e:=okN.count λb=>by rw[m];exact zA2 _
 have k:Ok F (upd H Dd (.l [])) Ai:=e.count λb=>by unfold Tot;simp only[zA0];lia
 refine⟨F,_,Ai,[],[Dd],Ao,⟨by rw[zAc];exact o.same a,k,by simp,λi _=>by simp⟩,.l qb8 .nil,st.keep (Kp.same a) (λ_ _=>id) l,q2.same a,e,((qh8 h).stp a).count λb=>by rw[m];exact zA2 _,q⟩
theorem qN2(d:∀j,some j∈src->j<Y.length)(S:Oz c Fz Hz Y ds Az)(m:Mid src (Dn Y src) Pp T (Y++c.gv) o0 Dd F0 H0 A0 g qf te (λacc Z'=>∀v H' F' B A',Ow F' H' v (.l false acc) B->Oz c F' H' Y (Fh src Z' o0) A'->Pp F' H'->Ok F' H' (B++(T++A'))->Oy F0 H0 A0 F' H' (B++(T++A'))->Q v H') [] Y' H'):Q (.ref Dd) H':=by
 obtain⟨F,Z,A,acc,B,Ao,S1,r,k,L,l,s,q⟩:=m;have a:=S1.len;simp only[zAc] at a;obtain⟨A',n,o⟩:=qP8 (by have:=S1.loc;simpa using this) L d (λi j e=>by have:=S1.ag i (by show capW src i=true;unfold capW;rw[e]);simp only[zAc] at this;rw[this];exact qaF2 e) (by rw[<-a,qaF1]);have f:∀b,(B++(T++A')).count b<=(Tot B T Ao A).count b:=λb=>by unfold Tot;simp only[zA0];have:=o b;lia
 have h:=l.count f;exact q (.ref Dd) H' F B A' r ⟨n,h.right.right,S.len,S.ag⟩ k h (s.count f)
theorem qv3{a:γ}{ys:Ds}{T:List γ}:Ir (λF H=>Ow F H (.ref a) (.l z ys) T/\H a=some (.l vs)) T where
 keep:=λ{F F' H H' W} k h p=>by
  refine⟨p.1.keep k h,?_⟩;cases p.1 with
  |l _ _=>exact k.fr _ _ p.2 (h _ zA9)
  |lstZ _ f _=>exact k.fr _ _ p.2 λw=>k.wf _ w f
 cells:=λp=>p.1.cells
theorem qX9:Ir (λ_ _=>True) [] where
 keep:=λ_ _ p=>p
 cells:=λ_ b a=>by cases a
theorem qaT2{T:List γ}(r:Ow F H (.ref a) (.l z ys) T)(h:H a=some (.l vs))(hm:D.imms ys=true)(f:vs[i]?=some x):∃y,ys[i]?=some y/\Ow F H x y []:=by obtain⟨k,g,Ael',j,b,c,_⟩:=r.lst_inv;cases j;rw[h] at b;cases b;obtain⟨y,B,d,e⟩:=c.getV f;have:=e.imm (qM3 hm d);subst this;exact⟨y,d,e⟩
theorem qaR3{T:List γ}(r:Ow F H (.ref a) (.l z ys) T)(h:H a=some (.l vs)):vs.length=ys.length:=by obtain⟨f,d,Ael',e,b,c,_⟩:=r.lst_inv;cases e;rw[h] at b;cases b;exact c.len
theorem qR6{Q:Hp->Prop}(b:Blk X NY sc src tg ifs elt g qf te)(hm:D.imms ys=true)(m:Mid src av (λF H=>Ow F H (.ref a) (.l z ys) T/\H a=some (.l vs)) T τ o0 Dd F0 H0 A0 g qf te K ys Y' H)(e:∀σ2 H2,Mid src av (λF H=>Ow F H (.ref a) (.l z ys) T/\H a=some (.l vs)) T τ o0 Dd F0 H0 A0 g qf te K [] σ2 H2->Q H2):qA2 (Itl K' a) (qs9 src g) (qs8 src qf) (Bs src te) Dd Q Y' H:=by obtain⟨_,_,_,_,_,_,_,_,c,_⟩:=id m;refine qab6 (xs:=vs) (λi Y H=>Mid src av (λF H=>Ow F H (.ref a) (.l z ys) T/\H a=some (.l vs)) T τ o0 Dd F0 H0 A0 g qf te K (ys.drop i) Y H) m ?_ ?_ ?_;{rintro i Y H _ ⟨_,_,_,_,_,_,_,_,d,_⟩;exact .inl (.inl d.2)};{rintro i x Y H f ⟨F,Z,A,h,B,Ao,S1,r,d,L,j,s,q⟩;obtain⟨y,k,l⟩:=qaT2 d.1 d.2 hm f;rw[qp2 k] at q;exact qN0 b qv3 S1 r d L j s l q};intro Y H m;rw[(qaR3 c.1 c.2),Mn] at m;exact e _ _ m
theorem qar2{Q:Hp->Prop}(b:Blk X NY sc src tg ifs elt g qf te)(hm:D.imms ys=true)(m:Mid src av (λF H=>Ow F H (.ref a) (.l z ys) T/\H a=some (.l vs)) T τ o0 Dd F0 H0 A0 g qf te K (enD ys) Y' H)(k:∀σ2 H2,Mid src av (λF H=>Ow F H (.ref a) (.l z ys) T/\H a=some (.l vs)) T τ o0 Dd F0 H0 A0 g qf te K [] σ2 H2->Q H2):qA2 (Ite K' a) (qs9 src g) (qs8 src qf) (Bs src te) Dd Q Y' H:=by obtain⟨_,_,_,_,_,_,_,_,c,_⟩:=id m;refine qaw6 (xs:=vs) (λi Y H=>Mid src av (λF H=>Ow F H (.ref a) (.l z ys) T/\H a=some (.l vs)) T τ o0 Dd F0 H0 A0 g qf te K ((enD ys).drop i) Y H) m ?_ ?_ ?_;{rintro i Y H _ ⟨_,_,_,_,_,_,_,_,d,_⟩;exact .inl (.inl d.2)};{rintro i x Y H w l ⟨F,Z,A,n,B,Ao,S1,r,d,L,o,s,q⟩ e;obtain⟨y,p,t⟩:=qaT2 d.1 d.2 hm l;rw[qp2 (qaU4 p)] at q;have f:=Same.new (u:=.q [.int (i:Int),x]) e;obtain⟨v,h,L1,j,t1⟩:=qz7 qv3 r d L o S1 (Oy.same f) (S1.ok.same f);exact qN0 b qv3 (S1.same f) v h L1 j (s.trans t1) (qal8 e (.cons (.int _) (.cons t .nil))) q};intro Y H m;rw[L8 (by rw[qaK0,(qaR3 c.1 c.2)];exact zA2 _)] at m;exact k _ _ m
theorem qaC4{Q:Hp->Prop}(b:Blk X NY sc src tg ifs elt g qf te)(m:Mid src av (λ_ _=>True) [] τ o0 Dd F0 H0 A0 g qf te K (Bm lo n) Y' H)(a:∀σ2 H2,Mid src av (λ_ _=>True) [] τ o0 Dd F0 H0 A0 g qf te K [] σ2 H2->Q H2):qA2 (Itr lo n) (qs9 src g) (qs8 src qf) (Bs src te) Dd Q Y' H:=by refine qap6 (λi Y H=>Mid src av (λ_ _=>True) [] τ o0 Dd F0 H0 A0 g qf te K ((Bm lo n).drop i) Y H) m ?_ ?_;{rintro i Y H c ⟨F,Z,A,d,B,Ao,S1,r,e,L,f,s,q⟩;rw[qp2 (qaj3 c)] at q;exact qN0 b qX9 S1 r e L f s (.int _) q};intro Y H m;rw[L8 (by rw[qay7];exact zA2 _)] at m;exact a _ _ m
end
def Imp(c:Vc)(X:Cx)(t:VT)(tc:TE):Prop:=∀Dg s a H Q,Ox X Dg a H s->Bh c t a H Q->tc a H Q
def F7(t:VT):Prop:=∀ds (Q Q':DK) (xe xe':XKd),(∀d a,Q d a->Q' d a)->(∀x a,xe x a->xe' x a)->t ds Q xe->t ds Q' xe'
section
variable{c:Vc}{X:Cx}{NY:List Str}{sc:Scope}{src:List (Option Nat)}{tg elt e o:Lb}{ifs:List Lb}{g:VTG}{qf:VTT}{te t0:VT}{pf:PF}
theorem J1(h:PE X e tc)(i:Imp c X t tc)(m:F7 t):VE c X e t:=⟨λDg s σ H Q I q=>h Dg s σ H Q I (i Dg s σ H Q I q),m⟩
theorem qaW2(h:PS X (.Assign [.Name x px] e spos) (Ia tc (Fx i)))(j:Imp c X t tc)(m:F7 t)(k:c.W i=false)(hi:X.N[i]?=some x):VS c X (.Assign [.Name x px] e spos) (Eo t (gNm i)):=by refine⟨λDg s σ H E I q=>h Dg s σ H E I (j Dg s σ H _ I ?_),λb n f g=>m _ _ _ _ _ (λd a=>g.nx _) g.xe⟩;obtain⟨F,f,A,b,S,l,q⟩:=q;refine⟨F,f,A,b.xe,S,l.xe,m _ _ _ _ _ (λd a q v H' F' T A' r S' o p=>?_) (λ_ _ z=>z) q⟩;obtain⟨A2,S2,u⟩:=S'.store k (qi8 hi Dg σ H s I) r o;exact l.nx _ _ H' F' A2 q S2 (p.trans u)
def F8(src:List (Option Nat))(g:VTG)(qf:VTT)(te:VT)(ys:List D):Ds->DK->Prop:=λds1 Q=>E7 g qf te (λacc ι'=>Q (.l false acc) (Fh src ι' (Bu src ds1).2)) ys [] (Bu src ds1).1
theorem qN4(b:Blk X NY sc src tg ifs elt g qf te){Q:DK}(h:∀d a,Q d a->Q' d a):F8 src g qf te ys ds1 Q->F8 src g qf te ys ds1 Q':=qm7 b (λc ι=>h _ _) _ _ _
def tCL(src:List (Option Nat))(t0:VT)(g:VTG)(qf:VTT)(te:VT):VT:=λds Q xe=>t0 ds (λd ds1=>orF d.lstOf λys=>D.imms ys=true/\F8 src g qf te ys ds1 Q) xe
theorem qaC9(b:Blk X NY sc src tg ifs elt g qf te)(hi:VE c X e t0):F7 (tCL src t0 g qf te):=λj Q Q' k a f h=>hi.m _ _ _ _ _ (λd i=>qa5 λl=>Nu (qN4 b f)) h
theorem qbb5(b:Blk X NY sc src tg ifs elt g qf te)(hi:VE c X e t0):Imp c X (tCL src t0 g qf te) (Eg (Hc K (Bh c t0)) src (qs9 src g) (qs8 src qf) (Bs src te)):=by rintro Dg s σ H Q I ⟨F,k,A,l,S,x,q⟩;have f:=b.lt Dg σ H s I;refine⟨F,k,A,l,S,x,hi.m _ _ _ _ _ (λd n q v H1 F1 T A1 i S1 o p=>?_) (λ_ _ z=>z) q⟩;obtain⟨E,t,u,h⟩:=qa7.mp q;obtain⟨z,rfl⟩:=qD6 t;obtain⟨a,w,Ael,rfl,j,G,_⟩:=i.lst_inv;refine⟨a,rfl,⟨w,.inl (.inl j)⟩,λDd y=>qR6 b u (qN1 f S1 o ⟨i,j⟩ qv3 y (qm7 b (λC ι q v H' F' B A' r S' _ D s=>q v H' F' B A' r S' (D.count λb=>by simp only[zA0];lia) ((p.trans s).count λb=>by simp only[zA0];lia)) _ _ _ h)) λσ2 H2 m=>qN2 f S1 m⟩
def tCPx(en:Ds->List D)(src:List (Option Nat))(pf:PF)(g:VTG)(qf:VTT)(te:VT):VT:=λds Q xe=>orF (pf ds) λq=>orF (A4 ds q.1 q.2) λd=>orF d.lstOf λys=>D.imms ys=true/\∀w,E7 g qf te (λacc ι'=>orF (bk1 q.1 q.2 w d (Fh src ι' (Bu src (Bd ds q.1 q.2 (.hole w))).2)) λa=>Q (.l false acc) a) (en ys) [] (Bu src (Bd ds q.1 q.2 (.hole w))).1
theorem qar7(b:Blk X NY sc src tg ifs elt g qf te):F7 (tCPx en src pf g qf te):=λf Q Q' i a c j=>qa5 λq=>qa5 λd=>qa5 λk=>Nu λh w=>qm7 b (λe ι=>qa5 λz=>c _ _) _ _ _ (h w)
theorem qaU8{J:γ->It}(b:Blk X NY sc src tg ifs elt g qf te)(M:∀{a:γ}{vs:List V}{z:Bool}{ys:Ds}{T:List γ}{τ:List (Option V)}{o0:Ds}{Dd:γ}{F0:γ->Prop}{H0 H:Hp}{A0:List γ}{K0:Ds->Ds->Prop}{av:List (Option V)}{Q:Hp->Prop}{σ':St},D.imms ys=true->Mid src av (λF H=>Ow F H (.ref a) (.l z ys) T/\H a=some (.l vs)) T τ o0 Dd F0 H0 A0 g qf te K0 (en ys) σ' H->(∀σ2 H2,Mid src av (λF H=>Ow F H (.ref a) (.l z ys) T/\H a=some (.l vs)) T τ o0 Dd F0 H0 A0 g qf te K0 [] σ2 H2->Q H2)->qA2 (J a) (qs9 src g) (qs8 src qf) (Bs src te) Dd Q σ' H)(j:∀σ H R,Gr c pf σ H (λx H1=>∃a,x=.ref a/\(∃xs,SqL K H1 a xs)/\R (J a) H1)->wi σ H R):Imp c X (tCPx en src pf g qf te) (Eg wi src (qs9 src g) (qs8 src qf) (Bs src te)):=by
 rintro Dg s σ H Q I ⟨F,t,A,xe,S,x,q⟩;have h:=b.lt Dg σ H s I;refine j σ H _ ?_;obtain⟨⟨i,p⟩,N,q⟩:=qa7.mp q;obtain⟨d,e2,q⟩:=qa7.mp q;obtain⟨ys,O,P,q⟩:=qa7.mp q;obtain⟨z,rfl⟩:=qD6 O;refine⟨F,t,A,i,p,_,S,N,e2,D.noConfusion,λu w H1 U k l=>?_⟩;obtain⟨B,C,r,y,Y⟩:=(S.same l).place e2 D.noConfusion U k;obtain⟨A1,Z,q2⟩:=Y (.hole w) [] (Kp.same λ_ _ z=>z) (λ_ _ z=>z) (.hole w);have E:Ok F H1 (B++A1):=(S.same l).ok.count λb=>by rw[zA0,q2,y];simp
 have s1:Oy F H A F H1 (B++A1):=⟨λb o e _=>l b o e,λb o e z=>by rw[zA0,q2];have:=y b;simp;lia,λ_ f=>f,λ_ _ _ _ f=>f⟩;have S1:Oz c F H1 σ (Bd t i p (.hole w)) A1:=⟨Z,E.right,S.len,S.ag⟩;obtain⟨a,vs,Ael,rfl,G,rs,_⟩:=r.lst_inv;refine⟨a,rfl,⟨vs,.inl (.inl G)⟩,λDd hD=>M P (qN1 h S1 E ⟨r,G⟩ qv3 hD (qm7 b (λa0 ι q v H' F' B' A' rv S' hp L s=>?_) _ _ _ (q (.ref a)))) λσ2 H2 m=>qN2 h S1 m⟩;obtain⟨a1,eb,q⟩:=qa7.mp q;obtain⟨A2,k1,k2⟩:=qy7 (.so .nil) (.cons hp.1 .nil) S'.loc eb;have n:∀b,(B'++A2).count b<=(B'++(B++A')).count b:=λb=>by have:=k2 b;simp only[zAc,zA0] at *;lia
 exact q v H' F' B' A2 rv ⟨k1,(L.count n).right,S.len,S.ag⟩ (L.count n) ((s1.trans s).count n)
theorem qbb4(b:Blk X NY sc src tg ifs elt g qf te):Imp c X (tCPx (λys=>ys) src pf g qf te) (Eg (Hc K (Gr c pf)) src (qs9 src g) (qs8 src qf) (Bs src te)):=qaU8 b (λa m d=>qR6 b a m d) λσ H R h=>h
def tCR1(src:List (Option Nat))(tr:VTA)(g:VTG)(qf:VTT)(te:VT):VT:=λds Q xe=>tr ds (λxs ds1=>orF (Im xs) λj=>Fw j=true/\F8 src g qf te (Bm 0 j.toNat) ds1 Q) xe
theorem qar6{es:List Lb}{tr:VTA}(b:Blk X NY sc src tg ifs elt g qf te)(hi:VOs c X es tr):F7 (tCR1 src tr g qf te):=λi Q Q' j a e f=>hi.m _ _ _ _ _ (λd h=>qa5 λk=>Nu (qN4 b e)) f
theorem qaE3{F:γ->Prop}{H:Hp}{A:List γ}{F1:γ->Prop}{H1:Hp}{A1:List γ}{σ:St}{ds1:Ds}(b:Blk X NY sc src tg ifs elt g qf te)(a:∀j,some j∈src->j<σ.length)(S1:Oz c F1 H1 σ ds1 A1)(f:Oy F H A F1 H1 A1)(q:F8 src g qf te (Bm lo n) ds1 (λd e=>∀v H' F' T A',Ow F' H' v d T->Oz c F' H' σ e A'->Ok F' H' (T++A')->Oy F H A F' H' (T++A')->Q v H')):∀Dd,H1 Dd=none->qA2 (Itr lo n) (qs9 src g) (qs8 src qf) (Bs src te) Dd (λH'=>Q (.ref Dd) H') (Dn σ src) (upd H1 Dd (.l [])):=λDd h=>
 qaC4 b (qN1 a S1 S1.ok trivial qX9 h (qm7 b (λi ι q v H' F' B A' r S' _ k s=>q v H' F' B A' r S' k (f.trans s)) _ _ _ q)) λσ2 H2 m=>qN2 a S1 m
theorem qaS6{es:List Lb}{tr:VTA}(b:Blk X NY sc src tg ifs elt g qf te)(hi:VOs c X es tr):Imp c X (tCR1 src tr g qf te) (Eg (iRng1 (qaH9 c tr)) src (qs9 src g) (qs8 src qf) (Bs src te)):=by rintro Dg s σ H Q I ⟨F,d,A,e,S,x,q⟩;refine⟨F,d,A,e,S,x,hi.m _ _ _ _ _ (λo f q p H1 F1 T A1 h S1 i=>?_) (λ_ _ z=>z) q⟩;obtain⟨j,k,l,a⟩:=qa7.mp q;cases qaz9 k;obtain⟨v,rfl,n⟩:=h.one_inv;cases n;have:=qam0 l;exact⟨j,rfl,this.1,this.2,qaE3 b (b.lt Dg σ H s I) S1 i a⟩
noncomputable def capOk(X:Cx)(src:List (Option Nat)):Bool:=src.all λo=>match o with|none=>true|some j=>decide (j<X.N.length)
theorem blk(b:∀av C a H0 ex,VG (cIn src av) (qm6 X NY sc C a H0 ex) tg g)(c:∀av C a H0 ex,VF (cIn src av) (qm6 X NY sc C a H0 ex) ifs qf)(d:∀av C a H0 ex,VE (cIn src av) (qm6 X NY sc C a H0 ex) elt te)(e:capOk X src=true:=by rfl):Blk X NY sc src tg ifs elt g qf te:=⟨b,c,d,λDg σ H s I j f=>by
   have:=zBe.mp e _ f
   rw[I.len];exact zA8 this⟩
end
section
variable{c:Vc}{X:Cx}{NY:List Str}{n:Scope}{src:List (Option Nat)}{r m k a:Lb}{l:List Lb}{g:VTG}{q:VTT}{te s:VT}{o:Pos}{pf:PF}{x:Str}
theorem ecL(hi:VE c X k s)(bl:Blk X NY n src r l m g q te)(a:X.calm=true:=by rfl)(b:qz4 X NY src n=true:=by rfl)(d:∀x,Kn k X.env x=pure x:=by intro _;rfl):VE c X (.ListComp m [⟨r,k,l,0⟩] n o) (tCL src s g q te):=J1 (qH3 NY src (qC6 hi.h) bl.pg bl.pf bl.pe a b d) (qbb5 bl hi) (qaC9 bl hi)
theorem ecP(hi:VP c X k pf)(bl:Blk X NY n src r l m g q te)(a:X.calm=true:=by rfl)(b:qz4 X NY src n=true:=by rfl)(d:∀x,Kn k X.env x=pure x:=by intro _;rfl):VE c X (.ListComp m [⟨r,k,l,0⟩] n o) (tCPx (λys=>ys) src pf g q te):=J1 (qH3 NY src (qC6 hi.h) bl.pg bl.pf bl.pe a b d) (qbb4 bl) (qar7 bl)
theorem ecR1{tr:VTA}{p cpos:Pos}(hm:X.mg "range"=none)(b:VOs c X [a] tr)(bl:Blk X NY n src r l m g q te)(d:Gl X "range" := by rfl)(e:J' [a] X.env=[(false,eval a X.env)]:=by rfl)(f:X.calm=true:=by rfl)(i:qz4 X NY src n=true:=by rfl)(j:∀x,Kn (.Call (.Name "range" p) [a] [] cpos) X.env x=pure x:=by intro _;rfl):VE c X (.ListComp m [⟨r,.Call (.Name "range" p) [a] [] cpos,l,0⟩] n o) (tCR1 src tr g q te):=J1 (qH3 NY src (qY5 d hm b.h e) bl.pg bl.pf bl.pe f i j) (qaS6 bl b) (qar6 bl b)
end
section
variable{c:Vc}{X:Cx}{t:List Lb}{p:VTB}
def G8(p:VTB):VTA:=λds Q xe=>p ds (λxs _ ds1=>Q xs ds1) xe
theorem Ep(h:VAs c X t p):VOs c X t (G8 p):=⟨PA.mono h.h λn H Q ⟨F,d,A,e,S,x,q⟩=>⟨F,d,A,e,S,x,h.m _ _ _ _ _ (λf g a q i H' F' T A' r _ S' o s=>q i H' F' T A' r S' (s.count λb=>by rw[zA0];lia)) (λ_ _ z=>z) q⟩,λd Q Q' e j k l=>h.m _ _ _ _ _ (λf g a=>k _ _) l⟩
end
structure Bg(x y z:Int)(ns:List Int):Prop where
 x0:0<=x
 y0:0<=y
 y1:y<2147483647
 z0:0<=z
 nn:∀n∈ns,0<=n
noncomputable def bagD(x y z:Int)(ns:List Int):D:=.l false [.int x,.int y,.int z,.l false (ns.map .int)]
def lawE:VEnds where
 nx _:=False
 rt d _:=d.asB=some true
 bk _:=False
 ct _:=False
 xe _ _:=False
theorem qau5{c:Vc}{X:Cx}{rest:List Lc}{t:VTS}{H:Hp}{E:Ee}{p L:γ}{x y z:Int}{ns:List Int}(e:c.av.length=2+n)(k:∀i,c.W i=false)(a:c.gv=[])(l:H p=some (.l [.int x,.int y,.int z,.ref L]))(m:H L=some (.l (ns.map V.int)))(o:L≠p)(s:∀H',E.rt (.bl true) H')(u:t lawE (.hole w::bagD x y z ns::Ls n .u)):Ek c t E (some w::some (.ref p)::Ls n none) H:=by
 have L0:Locs (λ_=>False) H (some w::some (.ref p)::Ls n none) (.hole w::bagD x y z ns::Ls n .u) ([]++((p::([]++([]++([]++((L::[])++[])))))++[])) :=
  .so (.hole w) (.so (.l l (.cons (.int x) (.cons (.int y) (.cons (.int z) (.cons (.l m (qK3 ns)) .nil))))) (qL8 n))
 refine⟨λ_=>False,_,_,lawE,⟨by rw[a,zAc];exact L0,⟨λb=>?_,λb f=>f.elim,λb f=>f.elim⟩,by rw[a,e];simp;lia,λi h=>by rw[k i] at h;cases h⟩,⟨λ_ _ _ _ _ z=>Oh z,λd A v B' H' F' T A' q r _ _ _=>by rw[r.asB q];exact s H',λ_ _ _ _ _ z=>Oh z,λ_ _ _ _ _ z=>Oh z,λ_ _ _ _ _ _ _ z=>Oh z⟩,u⟩;by_cases g:p=b;{subst g;simp[o]};by_cases j:L=b;{subst j;simp[g]};simp[g,j]
section
variable{c:Vc}{b d e o:Lb}{Z Y oc:Bool}{fa fb X:FV}
def f3(g g':D->D->Option D)(fa fb X:FV):FV:=λds=>(fa ds).bind λx=>(fb ds).bind λy=>(g x y).bind λz=>z.asB.bind λk=>if k=true then (X ds).bind λu=>g' y u else some (.bl false)
theorem qaK5{j:R2}(h:A9 true r g)(h':A9 true j g'):∀W H Q,liftV c true (f3 g g' fa fb X) W H Q->qaM0 r j (liftV c Z fa) (liftV c Y fb) (liftV c oc X) W H Q:=by rintro W H Q ⟨F,f,A,d,S,e,q⟩;obtain⟨x,B,e⟩:=zA1.mp e;obtain⟨y,e2,e⟩:=zA1.mp e;obtain⟨z,C,e⟩:=zA1.mp e;obtain⟨k,E,e⟩:=zA1.mp e;refine⟨F,f,A,x,S,B,λv H1 B1 G l R=>⟨F,f,A,y,S.same l,e2,λw H2 B2 m n T=>?_⟩⟩;refine h F H2 v w x y _ z _ (Fo (G.same n) m) C λu H3 B3 I p U=>⟨k,I.asB E,?_⟩;have a:=(l.trans n).trans p;cases k with|false=>rw[if_neg ∅] at e ⊢;cases e;exact q _ H3 [] (.bl _) a λ_=>New.nil|true=>rw[if_pos rfl] at e ⊢;obtain⟨s,J,K⟩:=zA1.mp e;refine⟨F,f,A,s,S.same a,J,λL H4 B4 M i V=>?_⟩;refine h' F H4 w L y s _ d Q (Fo ((m.same p).same i) M) K λN H5 B5 O P t=>q N H5 B5 O ((a.trans i).trans P) λ_=>⟨t.one,λb o e=>t.new b o (i b o (a b o e))⟩
end
section
variable{c:Vc}{X:Cx}{a b d e:Lb}{N:Pos}{O T U:Bool}{fa fb R:FV}
theorem vch{e:CmpOp}{i:R2}(j:OpR X (Km op) r)(h:A9 true r g)(f:OpR X (Km e) i)(h':A9 true i g')(k:VV c X a O fa)(l:VV c X b T fb)(m:VV c X d U R)(hm:lastMarks [op,e] [b,d]=false:=by with_unfolding_all rfl):VV c X (.Compare a [op,e] [b,d] N) true (f3 g g' fa fb R):=⟨PE.mono (qak4 j f k.h l.h m.h hm) (qaK5 h h')⟩
def Hv(x:D):Option D:=match x with|.l _ ys=>(intsD ys).bind λa=>gd (a.length<=1000) (.int (qo7 a))|_=>none
theorem vlenS(g:X.mg "len"=none)(i:X.mg "set"=none)(o:VV c X a O fa)(j:Gl X "len" := by rfl)(k:Gl X "set" := by rfl)(r:X.calm=true:=by rfl)(n:J' [a] X.env=(false,eval a X.env)::J' [] X.env:=by rfl)(l:((backTo cpos (J' [] X.env)).any λx=>x.1)=false:=by rfl)(b:J' [.Call (.Name "set" p2) [a] [] cpos] X.env=(false,eval (.Call (.Name "set" p2) [a] [] cpos) X.env)::J' [] X.env:=by rfl)(f:((backTo N (J' [] X.env)).any λx=>x.1)=false:=by rfl):VV c X (.Call (.Name "len" p) [.Call (.Name "set" p2) [a] [] cpos] [] N) true (f1 Hv fa):=by refine⟨PE.mono (cbi qax1 g (qc1 (cty (qaw9 r) i (qc1 o.h qm1 n) k (by rfl) ∅ ∅ n l) qm1 b) j (by rfl) ∅ ∅ b f) λM H Q m=>?_⟩;obtain⟨F,s,A,d,S,e,q⟩:=m;obtain⟨x,t,e2⟩:=qav8.mp e;cases x with|l z J=>obtain⟨u,w,y⟩:=zA1.mp e2;obtain⟨B,rfl⟩:=qk9 y;refine⟨F,s,A,_,S,t,λv H1 B1 C D K=>?_⟩;obtain⟨a,L,A2,rfl,E,G,_⟩:=C.lst_inv;cases G.intsD w;exact⟨a,u,rfl,.inl (.inl E),B,λp St I=>⟨p,St,_,rfl,qb8,(q _ _ [] (.int _) (D.trans (Same.new I)) λ_=>New.nil)⟩⟩|_=>cases e2
def Dh(f:Ds->Option D):VSp:=λds Q _=>orF (f ds) λd=>Q d ds
theorem qz9:Br (Dh f):=λa Q Q' e b c _=>qa5 λd=>c d a
noncomputable def wOf(l:List Bool)(i:Nat):Bool:=l.getD i false
end
section
variable{c:Vc}{X:Cx}{NY:List Str}{sc:Scope}{src:List (Option Nat)}{tg elt e o a b:Lb}{ifs:List Lb}{g:VTG}{qf:VTT}{te:VT}{pos px spos p0:Pos}{x xn:Str}
def G9(en:Ds->List D)(src:List (Option Nat))(i:Nat)(g:VTG)(qf:VTT)(te:VT):VT:=λds Q xe=>orF (rdN i ds) λd=>orF d.lstOf λys=>D.imms ys=true/\E7 g qf te (λacc ι'=>Q (.l false acc) ((Fh src ι' (Bu src (ds.set i .u)).2).set i d)) (en ys) [] (Bu src (ds.set i .u)).1
theorem qI6(bl:Blk X NY sc src tg ifs elt g qf te):F7 (G9 en src i g qf te):=λe Q Q' f a b h=>qa5 λd=>qa5 λj=>Nu (qm7 bl (λc ι=>b _ _) _ _ _)
theorem qaC0{J:γ->It}(bl:Blk X NY sc src tg ifs elt g qf te)(E:X.N[i]?=some xn)(G:∀{a:γ}{vs:List V}{z:Bool}{ys:Ds}{T:List γ}{τ:List (Option V)}{o0:Ds}{Dd:γ}{F0:γ->Prop}{H0 H:Hp}{A0:List γ}{K0:Ds->Ds->Prop}{av:List (Option V)}{Q:Hp->Prop}{σ':St},D.imms ys=true->Mid src av (λF H=>Ow F H (.ref a) (.l z ys) T/\H a=some (.l vs)) T τ o0 Dd F0 H0 A0 g qf te K0 (en ys) σ' H->(∀σ2 H2,Mid src av (λF H=>Ow F H (.ref a) (.l z ys) T/\H a=some (.l vs)) T τ o0 Dd F0 H0 A0 g qf te K0 [] σ2 H2->Q H2)->qA2 (J a) (qs9 src g) (qs8 src qf) (Bs src te) Dd Q σ' H)(j:∀σ H R,Fk i σ H (λx H1=>∃a,x=.ref a/\(∃xs,SqL K H1 a xs)/\R (J a) H1)->wi σ H R):Imp c X (G9 en src i g qf te) (Eg wi src (qs9 src g) (qs8 src qf) (Bs src te)):=by
 rintro Dg s σ H Q I ⟨F,L,A,xe,S,x,q⟩;have h:=bl.lt Dg σ H s I;refine j σ H _ ?_;obtain⟨d,k,q⟩:=qa7.mp q;obtain⟨k,hk⟩:=qm8.mp k;obtain⟨ys,M,O,q⟩:=qa7.mp q;obtain⟨z,rfl⟩:=qD6 M;obtain⟨v,B,C,l,r,t,P⟩:=S.put1 k D.noConfusion;have n:=l;rw[zAn (qi8 E Dg σ H s I)] at l;obtain⟨A1,U,q2⟩:=P .u [] (Kp.same λ_ _ z=>z) (λ_ _ z=>z) (.u v);have u:Ok F H (B++A1):=S.ok.count λb=>by rw[zA0,q2,t];simp
 have Y:Oy F H A F H (B++A1):=⟨λb o e _=>e,λb o e z=>by rw[zA0,q2];have:=t b;simp;lia,λ_ f=>f,λ_ _ _ _ f=>f⟩;have S1:Oz c F H σ (L.set i .u) A1:=⟨U,u.right,S.len,S.ag⟩;obtain⟨a,vs,Ael,rfl,w,rs,_⟩:=r.lst_inv;refine⟨.ref a,l,a,rfl,⟨vs,.inl (.inl w)⟩,λDd Z=>G O (qN1 h S1 u ⟨r,w⟩ qv3 Z (qm7 bl (λa0 ι q v H' F' B' A' rv S' hp y s=>?_) _ _ _ q)) λσ2 H2 m=>qN2 h S1 m⟩;obtain⟨A2,k1,k2⟩:=qJ2 S'.loc n hp.1;have p:∀b,(B'++A2).count b<=(B'++(B++A')).count b:=λb=>by have:=k2 b;simp only[zA0] at *;lia
 exact q v H' F' B' A2 rv ⟨k1,(y.count p).right,S.len,S.ag⟩ (y.count p) ((Y.trans s).count p)
theorem qaS7(bl:Blk X NY sc src tg ifs elt g qf te)(a:X.N[i]?=some xn):Imp c X (G9 (λys=>ys) src i g qf te) (Eg (Hc K (Fk i)) src (qs9 src g) (qs8 src qf) (Bs src te)):=qaC0 bl a (λb m d=>qR6 bl b m d) λσ H R h=>h
theorem qaS8(bl:Blk X NY sc src tg ifs elt g qf te)(b:X.N[i]?=some xn):Imp c X (G9 enD src i g qf te) (Eg (iEnum K (tCons (Fk i) tNil)) src (qs9 src g) (qs8 src qf) (Bs src te)):=qaC0 bl b (λd m f=>qar2 bl d m f) λσ H R ⟨v,h,a,e,j,k⟩=>⟨v,h,a,by rw[e],j,k⟩
theorem ecN(i:Nat)(bl:Blk X NY sc src tg ifs elt g qf te)(b:X.N[i]?=some xn:=by rfl)(d:Vis X.env.scope xn:=by first|exact Oj rfl|exact Oi (Oj rfl)|exact Oi (Oi rfl))(e:N' xn:=by decide)(a:(xn==("__classdict__" : Str))=false:=by decide)(f:X.calm=true:=by rfl)(h:qz4 X NY src sc=true:=by rfl)(j:∀x,Kn (.Name xn p0) X.env x=pure x:=by intro _;rfl):VE c X (.ListComp elt [⟨tg,.Name xn p0,ifs,0⟩] sc pos) (G9 (λys=>ys) src i g qf te):=J1 (qH3 NY src (qC6 (qm0 b d e a)) bl.pg bl.pf bl.pe f h j) (qaS7 bl b) (qI6 bl)
theorem ecEN(i:Nat){e:Nat}(hm:X.mg "enumerate"=none)(bl:Blk X NY sc src (.Tuple elts e tpos) ifs elt g qf te)(f:X.N[i]?=some xn:=by rfl)(h:Vis X.env.scope xn:=by first|exact Oj rfl|exact Oi (Oj rfl)|exact Oi (Oi rfl))(j:N' xn:=by decide)(b:(xn==("__classdict__" : Str))=false:=by decide)(d:Gl X "enumerate" := by rfl)(a:J' [.Name xn p0] X.env=[(false,eval (.Name xn p0) X.env)]:=by rfl)(k:X.calm=true:=by rfl)(l:qz4 X NY src sc=true:=by rfl)(m:∀x,Kn (.Call (.Name "enumerate" p) [.Name xn p0] [] cpos) X.env x=pure x:=by intro _;rfl):VE c X (.ListComp elt [⟨.Tuple elts e tpos,.Call (.Name "enumerate" p) [.Name xn p0] [] cpos,ifs,0⟩] sc pos) (G9 enD src i g qf te):=J1 (qH3 NY src (qaO8 d hm (qc1 (qm0 f h j b) qm1 a) a) bl.pg bl.pf bl.pe k l m) (qaS8 bl f) (qI6 bl)
theorem scN(i j:Nat)(b:X.N.Nodup)(bl:Blk X NY sc src tg ifs elt g qf te)(k:c.W i=false:=by rfl)(h:X.N[j]?=some xn:=by rfl)(l:Vis X.env.scope xn:=by first|exact Oj rfl|exact Oi (Oj rfl)|exact Oi (Oi rfl))(m:N' xn:=by decide)(d:(xn==("__classdict__" : Str))=false:=by decide)(a:X.N[i]?=some x:=by rfl)(n:Loc X.env.scope x:=by first|exact Oj rfl|exact Oi rfl)(o:X.calm=true:=by rfl)(p:qz4 X NY src sc=true:=by rfl)(e:swapsWith (.ListComp elt [⟨tg,.Name xn p0,ifs,0⟩] sc pos) (some (.Name x px)) spos.line X.env=pure true:=by rfl)(q:∀x,Kn (.Name xn p0) X.env x=pure x:=by intro _;rfl)(f:X.fn x=true∨X.env.scope.names.lookup x=some .local:=by first|exact .inl rfl|exact .inr rfl|assumption):VS c X (.Assign [.Name x px] (.ListComp elt [⟨tg,.Name xn p0,ifs,0⟩] sc pos) spos) (Eo (G9 (λys=>ys) src j g qf te) (gNm i)):=qaW2 (qaO2 i NY src b (qC6 (qm0 h l m d)) bl.pg bl.pf bl.pe a n o p e q f) (qaS7 bl h) (qI6 bl) k a
theorem qaV2(h:ds[i]?=some (.hole w)):bk1 i [] w d0 ds=some (ds.set i d0):=by unfold bk1 Al;rw[qM5 h];simp only[if_true];unfold Al;rw[qJ3 h]
theorem qj7{g:VTG}{qf:VTT}{te:VT}{K:Ds->Ds->Prop}(I:Ds->Prop)(f:D->Option D):∀(xs:List D)(acc ι:Ds),acc.length+xs.length<big->I ι->(∀x∈xs,∀ι acc,I ι->∀R:Ds->Ds->Prop,(∀ι',I ι'->R (acc++(f x).toList) ι')->acc.length<big->g x ι λι1=>qf ι1 (λb ι2=>if b=true then te ι2 (λd ι3=>acc.length<big/\R (acc++[d]) ι3) (λ_ _=>False) else R acc ι2) (λ_ _=>False))->(∀ι',I ι'->K (acc++xs.filterMap f) ι')->E7 g qf te K xs acc ι|[],acc,ι,_,h,_,hK=>by have:=hK ι h;rw[List.filterMap_nil,zAc] at this;exact this|x::xs,acc,ι,hl,h,hs,hK=>by refine hs x zA9 ι acc h (λa i=>E7 g qf te K xs a i) (λι' hι=>?_) (by simp at hl;lia);refine qj7 I f xs _ ι' ?_ hι (λy e=>hs y (zA6 _ e)) λι2 j=>?_;{cases c:f x with|none=>simp at hl ⊢;lia|some y=>simp at hl ⊢;lia};have:=hK ι2 j;rw[zCb] at this;cases c:f x with|none=>rw[c] at this;simpa using this|some y=>rw[c] at this;simpa using this
end
section
variable{a:Lb}
theorem qaC5:∀{xs:List V}{us:List V'},xs.length=us.length->(∀(i:Nat)(x:V)(u:V'),xs[i]?=some x->us[i]?=some u->Ou x u)->Ov xs us:=by intro l;induction l with|nil=>(intro u z _;cases u with|nil=>exact .nil|cons=>cases z)|cons x l k=>intro u z h;cases u with|nil=>cases z|cons u r=>exact .cons (h 0 x u rfl rfl) (k (Nat.succ.inj z) λi y v a b=>h (i+1) y v a b)
end
structure MdN(K:Nx)(C:γ)(m qual:Str)(st:Lc)(f:γ)(fd:ε)(ps:List Str):Prop where
 F:FunE K m qual st f fd
 b:Binds K fd ps []
 bn:Binds K fd ps [.none]
 me:Jf K C m f
 isf:W.isFn K (.ref f)=true
section
variable{X:Cx}{c:Vc}
theorem qbd0(i:Cl X.K X.mg x C)(M:Mk X.K C f)(D:MdN X.K C m qual st f fd ps)(G:Ej cm X.prog X.w X.K X.mg X.base k f fd ps s)(j:Lands X c.E)(l:O0 cm (k+1) X.A)(a:VAs c X (e::es) tr)(n:Gl X x:=by rfl)(d:N' x:=by decide)(o:J' (e::es) X.env=(false,eval e X.env)::J' es X.env:=by rfl)(g:(backTo pos (J' es X.env)).any (·.1)=false:=by rfl):VE c X (.Call (.Name x p) (e::es) [] pos) (qS2 C s [] tr):=⟨PE.mono (qak2 M G.ok l n i.m D.b .nil j.passes a.h d o g) (qam5 qo8 G.m a),qL5 G.m a⟩
end
theorem mdmkN{v:Option γ}{kV j:V'}(l:K.lookup f=some ⟨oc,v,.func (W.fnOf m qual (qg4 st) (qd0 st) (qa2 st) (.ref T) kV e h g d j),p⟩)(c:W.codeIn K d qual=true)(k:W.keepIn K (.ref f)=true)(a:W.findIn K (.ref C) m=some (some (.ref f)))(i:W.isFn K (.ref f)=true)(t:K.lookup T=some ⟨to,td,.seq #[.none] n,q⟩)(b:∀(kV e h:V')(g:Option γ)(d j:V')(us:List V'),us.length=ps.length->∃k,bindArgs (W.fnOf m qual (qg4 st) (qd0 st) (qa2 st) (.ref T) kV e h g d j) ⟨us,[]⟩=seqItems? (.ref T) >>= k/\k (some #[.none])=pure (ps.zip us))(w:∀(kV e h:V')(g:Option γ)(d j:V')(us:List V'),us.length+1=ps.length->∃k,bindArgs (W.fnOf m qual (qg4 st) (qd0 st) (qa2 st) (.ref T) kV e h g d j) ⟨us,[]⟩=seqItems? (.ref T) >>= k/\k (some #[.none])=pure (ps.zip (us++[.none]))):MdN K C m qual st f (W.fnOf m qual (qg4 st) (qd0 st) (qa2 st) (.ref T) kV e h g d j) ps:=⟨⟨⟨_,_,_,_,_,_,_,_,_,_,rfl,l,c⟩⟩,λs us X o=>(by
   rw[zAc] at o ⊢;obtain⟨k,r,u⟩:=b kV e h g d j us o;exact W.binds_K X rfl t rfl r u),λs us X o=>(by
   obtain⟨k,r,u⟩:=w kV e h g d j us (by rw[zAd] at o;exact o);exact W.binds_K X rfl t rfl r u),⟨a,i,k⟩,i⟩
end LV
namespace LV
open PySem L2
theorem rm(r:O0 cm k A)(h:j<=k:=by decide):O0 cm j A:=r.mono h
theorem VFn.mk2(Fu:Fun K x qual st f fd)(Sc:qa8 N ps (qa2 st))(W:Nat->Bool)(c:Br s)(h:∀ds Q xe,s ds Q xe->ds.length=ps.length/\G7 W 0 ds=true)(hbody:∀(a:V')(A:K9)(outer:List Env)(b:δ)(H:Hp)(E:XK)(av:List (Option V)),O0 cm k (A.deeper (PyProof.Rows.envOfC qual (qa2 st) b.heap.objs.size f a))->∃t,VSs ⟨λ_=>E,W,av,[]⟩ (Ez cm (CX1 P w) P w K mg base N qual (qa2 st) f a A outer b H E) (qd0 st) t/\∀ds Q xe,s ds Q xe->t (qaw0 W ds Q xe) (ds++Ls (N.length-ds.length) .u)):Ej cm P w K mg base (k+1) f fd ps s:=VFn.mk' Fu Sc W c (λds Q xe z=>(h ds Q xe z).1) (λds Q xe z=>(h ds Q xe z).2) hbody
def spPu(g:D->D->Option D):Sp:=λvs H Q _=>∃F u x d a b A B w,vs=[u,x]/\Ow F H u a A/\Ow F H x b B/\g a b=some d/\d.flat=some w/\Q w H
section
variable{c:Vc}{X:Cx}{e:Lb}{pos apos:Pos}{m qual:Str}{st:Lc}{f C:γ}{fd:ε}{ps:List Str}{k:Nat}{g:D->D->Option D}{fb:FV}{ob:Bool}
def fPu(C:γ)(m:Str)(g:D->D->Option D)(i:Nat)(fb:FV):FV:=λds=>(rdN i ds).bind λx=>if x.isM C m=true then (fb ds).bind λy=>(g x y).bind λd=>d.flat.map λ_=>d else none
theorem Ow.ofFlat(h:d.flat=some w):Ow F H w d []:=by cases d with|non=>cases h;exact .non|bl b=>cases h;exact .bl b|int i=>cases h;exact .int i|str x=>cases h;exact .str x|_=>cases h
theorem qaW3{pl:Sem Bool}(i:Nat){xn:Str}{p0:Pos}(D:Md X.K C m qual st f fd ps)(P:Cls X.K C)(G:Du X.prog X.w X.K X.mg X.base CX0 k f fd ps (spPu g))(R:Room k X.A)(T:VV c X e ob fb)(J:X.N[i]?=some xn:=by rfl)(U:Vis X.env.scope xn:=by first|exact Oj rfl|exact Oi (Oj rfl)|exact Oi (Oi rfl))(V:N' xn:=by decide)(n:(xn==("__classdict__" : Str))=false:=by decide)(l:J' [e] X.env=(false,eval e X.env)::J' [] X.env:=by rfl)(o:(backTo pos (J' [] X.env)).any (·.1)=false:=by rfl)(W:eval (.Call (.Attribute (.Name xn p0) m apos) [e] [] pos) X.env=(do
 let ov<-eval (.Name xn p0) X.env
 standAt apos.atName
 let (f,first)<-holding [ov] (getMethod ov m pl)
 callWith pos f first (backTo pos (J' [e] X.env)) (backToKw pos (Kw [] X.env))):=by rfl):VV c X (.Call (.Attribute (.Name xn p0) m apos) [e] [] pos) true (fPu C m g i fb):=by refine⟨λDg s σ H Q I p=>?_⟩;obtain⟨F,Y,A,d,S,j,q⟩:=p;refine qak1 (qm0 J U V n) P D.me G R D.b .nil Jk (qc1 T.h qm1 l) l o W Dg s σ H Q I ?_;obtain⟨x,Z,j⟩:=zA1.mp j;by_cases t:x.isM C m=true;{rw[if_pos t] at j;obtain⟨y,h2,j⟩:=zA1.mp j;obtain⟨d',h3,j⟩:=zA1.mp j;obtain⟨w,L,j⟩:=zA7.mp j;cases j;obtain⟨v,B0,u,M,_⟩:=S.name (qi8 J Dg σ H s I) Z;obtain⟨a,dx,fs,rfl,z,E⟩:=M.isM t;refine⟨.ref a,u,a,dx,fs,rfl,z,E,F,Y,A,y,S,h2,λv' H1 B r O _=>?_⟩;exact⟨F,_,_,_,x,y,B0,B,w,rfl,M.same O,r,h3,L,q w H1 [] (Ow.ofFlat L) O λ_=>New.nil⟩};rw[if_neg t] at j;cases j
def tbBV(pf:PF)(f:FV):VTB:=λds Q _=>orF (pf ds) λq=>orF (A4 ds q.1 q.2) λd=>d.known=true/\orF (f ds) λx=>x.imm=true/\∀w,Q [d,x] [.pl q.1 q.2 w,.no] (Bd ds q.1 q.2 (.hole w))
theorem vaBV{e2:Lb}{m:FV}(G:VP c X o pf)(I:VV c X e2 own m)(J:J' (o::[e2]) X.env=(false,eval o X.env)::J' [e2] X.env:=by rfl)(a:J' [e2] X.env=(false,eval e2 X.env)::J' [] X.env:=by rfl):VAs c X [o,e2] (tbBV pf m):=by
 refine⟨PA.mono (qc1 G.h (qc1 I.h qm1 a) J) λσ H Q g=>?_,λj Q Q' K L M Y=>qa5 λz=>qa5 λd=>Nu (qa5 λy=>Nu λh w=>M _ _ _ (h w))⟩;obtain⟨F,j,A,K,S,x,q⟩:=g;obtain⟨⟨i,p⟩,N,q⟩:=qa7.mp q;obtain⟨d,e2,n,q⟩:=qa7.mp q;obtain⟨y,O,P,q⟩:=qa7.mp q;refine⟨F,j,A,i,p,d,S,N,e2,qo6 n,λu w H0 R T k=>?_⟩;refine⟨F,j,A,y,S.same k,O,λv H1 Bv t l _=>?_⟩;obtain rfl:=t.imm P;have s:=λb o e=>l b o (k b o e);obtain⟨B,C,r,D,U⟩:=(S.same k).place e2 (qo6 n) R T;obtain⟨A1,V,q2⟩:=U (.hole w) [] (Kp.same λ_ _ z=>z) (λ_ _ z=>z) (.hole w);have E:Ok F H1 (B++A1):=(S.same s).ok.count λb=>by rw[zA0,q2,D];simp
 have W:Oy F H A F H1 (B++A1):=⟨λb o e _=>s b o e,λb o e z=>by rw[zA0,q2];have:=D b;simp;lia,λ_ f=>f,λ_ _ _ _ f=>f⟩;refine q w [w,v] H1 F B A1 ?_ (.so (.no .nil)) (⟨(V.same l),E.right,S.len,S.ag⟩) E W;have:=Oo.cons (r.same l) (Oo.cons t .nil);rwa[zAc,zAc] at this
end
end LV
namespace S6
open PySem PyProof.Rows
variable{N bs q:Nat}{arr xs:Array Ll}{f:Nat->Ll}{key:Ll}{kf:V'->Int×Int}{l:Bool}{vs:List V'}
section
variable{f:Type}{le:f->f->Bool}
theorem mg_l{A2:List f}:∀{A1 Y:List f},(∀a∈A1,∀y∈Y,le a y=true)->Lu (A1++A2) Y le=A1++Lu A2 Y le|[],_,_=>rfl|x::A1,[],_=>by simp|x::A1,y::Y,h=>by rw[zBt,zBb,if_pos (h x (by simp) y (by simp)),mg_l λa b=>h a (by simp[b])];rfl
theorem mg_r{B2:List f}:∀{B1 X:List f},(∀b∈B1,∀x∈X,le x b=false)->Lu X (B1++B2) le=B1++Lu X B2 le|[],_,_=>rfl|b::B1,[],_=>by simp|b::B1,x::X,h=>by rw[zBt,zBb,if_neg (by simp[h b (by simp) x (by simp)]),mg_r λa c=>h a (by simp[c])];rfl
theorem J2{A2:List f}:∀{A1 Y:List f},(∀a∈A2,∀y∈Y,le a y=false)->Lu (A1++A2) Y le=Lu A1 Y le++A2|[],Y,h=>by have:=mg_r (B2:=[]) λy c a b=>h a b y c;simpa using this|x::A1,[],_=>by simp|x::A1,y::Y,h=>by rw[zBt,zBb,zBb];split;{rw[J2 h];rfl};rw[<-zBt,J2 λa b z d=>h a b z (by simp[d])];rfl
theorem Hw{B2:List f}:∀{B1 X:List f},(∀b∈B2,∀x∈X,le x b=true)->Lu X (B1++B2) le=Lu X B1 le++B2|[],X,h=>by have:=mg_l (A2:=[]) λy d a c=>h a c y d;simpa using this|b::B1,[],_=>by simp|b::B1,x::X,h=>by rw[zBt,zBb,zBb];split;{rw[<-zBt,Hw λa c z e=>h a c z (by simp[e])];rfl};rw[Hw h];rfl
end
noncomputable def gal:Bool->Ll->Array Ll->Nat->Nat->Nat->StateT Lm Sem (Option Nat):=sortPriv% PySem.Builtin.gallop
def bey(l:Bool)(key:Ll)(arr:Array Ll)(i:Nat):StateT Lm Sem (Option Bool):=do
 let x<-elem' arr i
 if l then lt' x key else return (<- lt' key x).map (!·)
theorem qbb9(l:Bool)(key:Ll)(arr:Array Ll)(bs n g:Nat):gal l key arr bs n g=(do
 let mut p:=0
 let mut o:=1
 let mut u:=0
 let mut v:=0
 let some t<-bey l key arr (bs+g)|return none
 if t then
   let mo:=n-g
   for _ in [0:n] do
     if o ≥ mo then break
     let some c<-bey l key arr (bs+(g+o))|return none
     if !c then break
     p:=o
     o:=2*o+1
   u:=g+p+1
   v:=g+min o mo
 else
   let mo:=g+1
   for _ in [0:n] do
     if o ≥ mo then break
     let some c<-bey l key arr (bs+(g-o))|return none
     if c then break
     p:=o
     o:=2*o+1
   u:=g+1-min o mo
   v:=g-p
 for _ in [0:n] do
   if u ≥ v then break
   let m:=u+(v-u)/2
   let some c<-bey l key arr (bs+m)|return none
   if c then u:=m+1 else v:=m
 return some v):=rfl
section
variable{M:Model}{A:K9}{E:V'->δ->Prop}{s:δ}{l n o:Type}{Q:o->l->Prop}{m:l}
theorem gB{f:l->StateT l Sem o}(h:wpS M A E s (f m) Q m):wpS M A E s (get >>= f) Q m:=Ld (wpS_get h)
theorem rB{f:Unit->StateT l Sem o}(h:wpS M A E s (f ()) Q m):wpS M A E s (liftM (rule t) >>= f) Q m:=Ld (wpS_lift (wpAny_rule ⟨rfl,h⟩))
theorem fB{f:Nat->n->StateT l Sem (ForInStep n)}(I:Nat->n->l->Prop)(R:n->l->Prop)(h1:∀F,f=F->∀i c m,a<=i->i<b->I i c m->∀K:ForInStep n->l->Prop,(∀e d,R e d->K (.done e) d)->(∀e d,I (i+1) e d->K (.yield e) d)->wpS M A E s (F i c) K m)(h2:∀c m,I (max a b) c m->R c m)(j:I a c m)(k:∀F,g=F->∀c m,R c m->wpS M A E s (F c) Q m):wpS M A E s (forIn [a:b] c f >>= g) Q m:=Ld (wpS_mono (wpS_forRange I (λi c m x y z=>h1 f rfl i c m x y z _ (λ_ _ h=>h) λ_ _ h=>h) h2 j) (k g rfl))
end
structure Od(lt:Ll->Ll->Bool):Prop where
 as:∀x y,lt x y=true->lt y x=false
 tr:∀x y z,lt y x=false->lt z y=false->lt z x=false
def Cm(prog:K8)(w:La)(A:K9)(s:δ)(kd:SortKind)(P:Ll->Prop)(lt:Ll->Ll->Bool):Prop:=∀x y,P x->P y->∀(E:V'->δ->Prop)(Q:Bool->δ->Prop),Q (lt x y) s->K6 (K7 prog w) A (keyLt' kd x.1 y.1) Q E s
section
variable{prog:K8}{w:La}{A:K9}{E:V'->δ->Prop}{s:δ}{kd:SortKind}{P:Ll->Prop}{lt:Ll->Ll->Bool}{st:Lm}
theorem Od.ir(h:Od lt)(x:Ll):lt x x=false:=by cases e:lt x x with|false=>rfl|true=>rw[h.as x x e] at e;cases e
theorem wlt(a:Cm prog w A s kd P lt)(b:Ln st=kd)(c:P x)(d:P y)(h:Q (some (lt x y)) st):wpS (K7 prog w) A E s (lt' x y) Q st:=by rw[lt'_eq];refine gB ?_;rw[b];exact Ld (wpS_lift (wpAny_attempt (a x y c d _ _ ⟨rfl,Lf h⟩)))
theorem wel(hi:arr[i]?=some p)(h:Q p st):wpS (K7 prog w) A E s (elem' arr i) Q st:=by rw[elem'_eq,hi];exact Lf h
def B(lt:Ll->Ll->Bool)(l:Bool)(key x:Ll):Bool:=if l then lt x key else !lt key x
theorem wif{α:Type}{c:Prop}[Decidable c]{m n:StateT Lm Sem α}{Q:α->Lm->Prop}(h1:c->wpS (K7 prog w) A E s m Q st)(h2:¬c->wpS (K7 prog w) A E s n Q st):wpS (K7 prog w) A E s (if c then m else n) Q st:=by by_cases h:c;{rw[if_pos h];exact h1 h};rw[if_neg h];exact h2 h
section
variable{u v n x i g o p:Nat}
theorem l2o(o:Nat):o+1<=2*o+1:=⋯
theorem g1(c:¬u ≥ v)(h:v-u<=n-x):u+(v-u)/2<v/\v-(u+(v-u)/2+1)<=n-(x+1)/\u+(v-u)/2-u<=n-(x+1):=by
 have q:=Nat.div_lt_self (Nat.sub_pos_of_lt (Nat.lt_of_not_le c)) (zA2 2);generalize (v-u)/2=m at *
 have t:=Nat.sub_le_sub_right h 1;exact⟨Nat.add_lt_of_lt_sub' q,zAi (Nat.sub_le_sub_left (zBv (Nat.le_add_right u m)) v) t,by rw[Nat.add_sub_cancel_left];exact zAi (Nat.le_pred_of_lt q) t⟩
theorem g2(h:v-u<=n-max 0 n)(hi:i<v):i<u:=⋯
theorem g3(h:max 0 n+1<=o)(h':o<n-g):False:=⋯
theorem g8(h:max 0 n+1<=o)(a:g<n)(h':o<g+1):False:=⋯
theorem g4(h:p<o)(h':g+p<n):g+p+1<=g+min o (n-g)/\g+min o (n-g)<=n:=⋯
theorem g5(h:g+min o (n-g)<=i)(h':i<n):g+o<=i/\o<n-g:=⋯
theorem g6(h:p<o)(h':p<=g):g+1-min o (g+1)<=g-p:=⋯
theorem g7(h:i<g+1-min o (g+1)):i<=g-o/\o<g+1:=by by_cases c:o<g+1;{rw[zCj (zBa c)] at h;exact⟨⋯,c⟩};rw[Nat.min_eq_right (zC0 c),Nat.sub_self] at h;exact absurd h (zCk _)
end
theorem yB{β:Type}{x:Ll}{i:Nat}{f:Option Bool->StateT Lm Sem β}{Q:β->Lm->Prop}(a:Cm prog w A s kd P lt)(b:Ln st=kd)(hi:arr[i]?=some x)(c:P x)(d:P key)(h:B lt l key x=true->wpS (K7 prog w) A E s (f (some true)) Q st)(h':B lt l key x=false->wpS (K7 prog w) A E s (f (some false)) Q st):wpS (K7 prog w) A E s (bey l key arr i >>= f) Q st:=by
 have e:wpS (K7 prog w) A E s (f (some (B lt l key x))) Q st:=by cases e:B lt l key x with|true=>exact h e|false=>exact h' e
 refine Ld ?_;unfold bey;refine Ld (wel hi ?_);cases l with|true=>exact wlt a b c d e|false=>exact Ld (wlt a b d c (Lf e))
theorem wgal(O:Cm prog w A s kd P lt)(R:Ln st=kd)(S:P key)(T:∀i,i<n->arr[bs+i]?=some (f i))(U:∀i,i<n->P (f i))(hm:∀i j,i<=j->j<n->B lt l key (f j)=true->B lt l key (f i)=true)(J:g<n)(h:∀k,k<=n->(∀i,i<k->B lt l key (f i)=true)->(∀i,k<=i->i<n->B lt l key (f i)=false)->Q (some k) st):wpS (K7 prog w) A E s (gal l key arr bs n g) Q st:=by
 have L:∀i j,i<=j->j<n->B lt l key (f i)=false->B lt l key (f j)=false:=λi j a b c=>by cases e:B lt l key (f j) with|false=>rfl|true=>rw[hm i j a b e] at c;cases c
 have fin:∀u v,u<=v->v<=n->(∀i,i<u->B lt l key (f i)=true)->(∀i,v<=i->i<n->B lt l key (f i)=false)->wpS (K7 prog w) A E s (do
  let mut u:=u
  let mut v:=v
  for _ in [0:n] do
   if u ≥ v then break
   let m:=u+(v-u)/2
   let some c<-bey l key arr (bs+m)|return none
   if c then u:=m+1 else v:=m
  return some v) Q st:=by
  intro u v Z X a3 a4;refine fB (λx c d=>d=st/\c.1=none/\c.2.1<=c.2.2/\c.2.2<=n/\c.2.2-c.2.1<=n-x/\(∀i,i<c.2.1->B lt l key (f i)=true)/\(∀i,c.2.2<=i->i<n->B lt l key (f i)=false)) (λc d=>d=st/\c.1=none/\c.2.2<=n/\(∀i,i<c.2.2->B lt l key (f i)=true)/\(∀i,c.2.2<=i->i<n->B lt l key (f i)=false)) ?_ ?_ ⟨rfl,rfl,Z,X,zAi (zC9 v u) X,a3,a4⟩ ?_
  .rintro F z x ⟨_,u,v⟩ d-Y ⟨rfl,rfl,y,C,t,r,H⟩ K p q
   subst z;refine wif (λc=>Lf (p _ _ ⟨rfl,rfl,C,λi I=>r i (zAh I c),H⟩)) λc=>?_
   have m:=g1 (u:=u) (v:=v) c t;have V:=zAh m.1 C;exact yB O R (T _ V) (U _ V) S (λG=>Lf (q _ _ ⟨rfl,rfl,m.1,C,m.2.1,λi I=>hm i _ (zBw I) V G,H⟩)) λG=>Lf (q _ _ ⟨rfl,rfl,Nat.le_add_right _ _,zBa V,m.2.2,r,λi D M=>L _ i D M G⟩)
  .exact λc d ⟨N,D,y,C,t,r,H⟩=>⟨N,D,C,λi I=>r i (g2 t I),H⟩
  rintro F z ⟨_,u,v⟩ d ⟨rfl,rfl,C,r,H⟩;subst z;exact Lf (h v C r H)
 rw[qbb9];refine yB O R (T _ J) (U _ J) S (λW=>wif (λ_=>?_) λc=>absurd rfl c) λW=>wif (λc=>nomatch c) λ_=>?_;{refine fB (λx c d=>d=st/\c.1=none/\c.2.1<c.2.2/\x+1<=c.2.2/\g+c.2.1<n/\B lt l key (f (g+c.2.1))=true) (λc d=>d=st/\c.1=none/\c.2.1<c.2.2/\g+c.2.1<n/\B lt l key (f (g+c.2.1))=true/\(c.2.2<n-g->B lt l key (f (g+c.2.2))=false)) ?_ ?_ ⟨rfl,rfl,Nat.one_pos,zA2 _,J,W⟩ ?_;{rintro F z x ⟨_,p,o⟩ d-Y ⟨rfl,rfl,y,C,t,r⟩ K u v;subst z;refine wif (λc=>Lf (u _ _ ⟨rfl,rfl,y,t,r,λh=>absurd h (Nat.not_lt_of_le c)⟩)) λc=>?_;have m:g+o<n:=Nat.add_lt_of_lt_sub' (Nat.lt_of_not_le c);exact yB O R (T _ m) (U _ m) S (λG=>Lf (v _ _ ⟨rfl,rfl,l2o o,zAi (zBv C) (l2o o),m,G⟩)) λG=>Lf (u _ _ ⟨rfl,rfl,y,t,r,λ_=>G⟩)};{exact λc d ⟨N,D,y,C,t,r⟩=>⟨N,D,y,t,r,λh=>(g3 C h).elim⟩};rintro F z ⟨_,p,o⟩ d ⟨rfl,rfl,y,t,r,H⟩;subst z;exact fin (g+p+1) (g+min o (n-g)) (g4 y t).1 (g4 y t).2 (λi I=>hm i _ (zBw I) t r) λi D M=>L (g+o) i (g5 D M).1 M (H (g5 D M).2)};refine fB (λx c d=>d=st/\c.1=none/\c.2.1<c.2.2/\x+1<=c.2.2/\c.2.1<=g/\B lt l key (f (g-c.2.1))=false) (λc d=>d=st/\c.1=none/\c.2.1<c.2.2/\c.2.1<=g/\B lt l key (f (g-c.2.1))=false/\(c.2.2<g+1->B lt l key (f (g-c.2.2))=true)) ?_ ?_ ⟨rfl,rfl,Nat.one_pos,zA2 _,zBf _,W⟩ ?_;{rintro F z x ⟨_,p,o⟩ d-Y ⟨rfl,rfl,y,C,t,r⟩ K u v;subst z;have m:g-o<n:=zC1 (zC9 g o) J;exact wif (λc=>Lf (u _ _ ⟨rfl,rfl,y,t,r,λh=>absurd h (Nat.not_lt_of_le c)⟩)) λc=>yB O R (T _ m) (U _ m) S (λG=>Lf (u _ _ ⟨rfl,rfl,y,t,r,λ_=>G⟩)) λG=>Lf (v _ _ ⟨rfl,rfl,l2o o,zAi (zBv C) (l2o o),zBw (Nat.lt_of_not_le c),G⟩)};{exact λc d ⟨N,D,y,C,t,r⟩=>⟨N,D,y,t,r,λh=>(g8 C J h).elim⟩};rintro F z ⟨_,p,o⟩ d ⟨rfl,rfl,y,t,r,H⟩;subst z;exact fin (g+1-min o (g+1)) (g-p) (g6 y t) (zAi (zC9 g p) (zBa J)) (λi I=>hm i (g-o) (g7 I).1 (zC1 (zC9 g o) J) (H (g7 I).2)) λi D M=>L _ i D M r
end
noncomputable abbrev lee(lt:Ll->Ll->Bool):Ll->Ll->Bool:=λx y=>!lt y x
section
variable{d:Type}{le:d->d->Bool}
theorem Ka{A2 Y:List d}{y:d}:∀{A1:List d},(∀a∈A1,le a y=true)->Lu (A1++A2) (y::Y) le=A1++Lu A2 (y::Y) le|[],_=>rfl|x::A1,h=>by rw[zBt,zBb,if_pos (h x (by simp)),Ka λa b=>h a (by simp[b])];rfl
theorem Kb{B2 X:List d}{x:d}:∀{B1:List d},(∀b∈B1,le x b=false)->Lu (x::X) (B1++B2) le=B1++Lu (x::X) B2 le|[],_=>rfl|b::B1,h=>by rw[zBt,zBb,if_neg (by simp[h b (by simp)]),Kb λa c=>h a (by simp[c])];rfl
end
noncomputable def att(a:Array Ll)(i:Nat):Ll:=a.getD i (Nl,Nl)
theorem qX5(h:i<a.size):a[i]?=some (att a i):=by simp[att,Array.getD,h]
theorem Em(h:i<a.size):a.toList.drop i=att a i::a.toList.drop (i+1):=by rw[zC4 (by simpa using h)];simp[att,Array.getD,h]
def Srt(lt:Ll->Ll->Bool)(f:Nat->Ll)(n:Nat):Prop:=∀i j,i<=j->j<n->lt (f j) (f i)=false
theorem Srt.drop(h:Srt lt f n):Srt lt (λi=>f (k+i)) (n-k):=λi j a b=>h _ _ ⋯ ⋯
theorem qy4(h:x∈(a.toList.drop i).take k):∃j,j<k/\i+j<a.size/\x=att a (i+j):=by obtain⟨j,b,e⟩:=List.mem_iff_getElem.mp h;rw[zBs,zCd,zB7] at b;refine⟨j,⋯,⋯,?_⟩;rw[<-e,M1,M3];simp[att,Array.getD,show i+j<a.size by lia]
theorem qc8{a:Array Ll}:(a.extract i j).toList=(a.toList.drop i).take (j-i):=by simp[List.take_drop]
section
variable{prog:K8}{w:La}{A:K9}{E:V'->δ->Prop}{s:δ}{kd:SortKind}{P:Ll->Prop}{lt:Ll->Ll->Bool}{st:Lm}
theorem wgs(b:Od lt)(m:Cm prog w A s kd P lt)(o:Ln st=kd)(p:P key)(x:bs+n<=arr.size)(q:∀i,i<arr.size->P (att arr i))(r:Srt lt (λi=>att arr (bs+i)) n)(t:g<n)(h:∀k,k<=n->(∀i,i<k->B lt l key (att arr (bs+i))=true)->(∀i,k<=i->i<n->B lt l key (att arr (bs+i))=false)->Q (some k) st):wpS (K7 prog w) A E s (gal l key arr bs n g) Q st:=by
 refine wgal (f:=λi=>att arr (bs+i)) m o p (λi u=>qX5 ⋯) (λi u=>q _ ⋯) (λi j a v c=>?_) t h;have d:=r i j a v;cases l with
 |false=>
  have e:lt key (att arr (bs+j))=false:=by simpa[B] using c
  show (!lt key (att arr (bs+i)))=true;rw[b.tr _ _ _ d e];rfl
 |true=>show lt (att arr (bs+i)) key=true;cases e:lt (att arr (bs+i)) key with|true=>rfl|false=>have:=b.tr _ _ _ e d;rw[show lt (att arr (bs+j)) key=true from c] at this;cases this
def R(st a:Lm):Prop:=Ln a=Ln st/\Lj a=Lj st/\Lg a=Lg st/\Lh a=Lh st
noncomputable def mlo:Array Ll->Array Ll->StateT Lm Sem (Array Ll):=sortPriv% PySem.Builtin.mergeLo
noncomputable def smg:Nat->StateT Lm Sem Unit:=sortPriv% PySem.Builtin.setMinGallop
theorem qaZ8(a b:Array Ll):mlo a b=(do
 rule "list.sort.merge-lo"
 let tt:=a.size+b.size
 let dn (o:Array Ll) (i j:Nat):=o++a.extract i a.size++b.extract j b.size
 let la (o:Array Ll) (i j:Nat):=o++b.extract j b.size++a.extract i a.size
 let mut o:Array Ll:=#[<-elem' b 0]
 let mut i:=0
 let mut j:=1
 if j==b.size then return dn o i j
 if i+1==a.size then return la o i j
 let mut g:=gallopOf (<- get)
 for _ in [0:tt] do
   let mut x:=0
   let mut y:=0
   for _ in [0:tt] do
     let some t<-lt' (<- elem' b j) (<- elem' a i)|return dn o i j
     if t then
       o:=o.push (<- elem' b j);j:=j+1;y:=y+1;x:=0
       if j==b.size then return dn o i j
       if y ≥ g then break
     else
       o:=o.push (<- elem' a i);i:=i+1;x:=x+1;y:=0
       if i+1==a.size then return la o i j
       if x ≥ g then break
   rule "list.sort.gallop"
   g:=g+1
   for _ in [0:tt] do
     if g>1 then g:=g-1
     smg g
     let some k<-gal false (<- elem' b j) a i (a.size-i) 0|return dn o i j
     x:=k
     if k>0 then
       o:=o++a.extract i (i+k);i:=i+k
       if i+1==a.size then return la o i j
       if i==a.size then return dn o i j
     o:=o.push (<- elem' b j);j:=j+1
     if j==b.size then return dn o i j
     let some k<-gal true (<- elem' a i) b j (b.size-j) 0|return dn o i j
     y:=k
     if k>0 then
       o:=o++b.extract j (j+k);j:=j+k
       if j==b.size then return dn o i j
     o:=o.push (<- elem' a i);i:=i+1
     if i+1==a.size then return la o i j
     if x<7&&y<7 then break
   g:=g+1
   smg g
 unsupported "internal:list.sort.merge-bound"):=rfl
def Eq2(lt:Ll->Ll->Bool)(a b o:Array Ll)(i j:Nat):Prop:=o.toList++Lu (a.toList.drop i) (b.toList.drop j) (lee lt)=Lu a.toList b.toList (lee lt)
variable{a b o:Array Ll}{i j k:Nat}
theorem Eq2.done(h:Eq2 lt a b o i j)(c:j=b.size∨i=a.size):(o++a.extract i a.size++b.extract j b.size).toList=Lu a.toList b.toList (lee lt):=by rw[<-h,zB5,zB5,qc8,qc8,zAm];congr 1;rw[zAo (by simp),zAo (by simp)];rcases c with rfl|rfl;{rw[show b.toList.drop b.size=[] by simp,zAc,M5]};rw[show a.toList.drop a.size=[] by simp,zB4,M9]
theorem Eq2.last(h:Eq2 lt a b o i j)(hi:i+1=a.size)(d:∀n,n<b.size->lt (att b n) (att a i)=true):(o++b.extract j b.size++a.extract i a.size).toList=Lu a.toList b.toList (lee lt):=by
 rw[<-h,zB5,zB5,qc8,qc8,zAm];congr 1;rw[zAo (by simp),zAo (by simp),Em (i:=i) ⋯,show a.toList.drop (i+1)=[] from L9 (by simp;lia)];have:=Kb (le:=lee lt) (B2:=[]) (X:=[]) (x:=att a i) (B1:=b.toList.drop j) λx c=>by rw[<-zAo (l:=b.toList.drop j) (zA2 _)] at c;obtain⟨n,_,e,rfl⟩:=qy4 c;simp[d _ e]
 rw[zAc] at this;rw[this];simp
theorem Eq2.pb(h:Eq2 lt a b o i j)(hi:i<a.size)(c:j<b.size)(d:lt (att b j) (att a i)=true):Eq2 lt a b (o.push (att b j)) i (j+1):=by unfold Eq2 at h ⊢;rw[<-h,Array.toList_push,zAm,Em hi,Em c,zBb,if_neg (by simp[d])];rfl
theorem Eq2.pa(h:Eq2 lt a b o i j)(hi:i<a.size)(c:j<b.size)(d:lt (att b j) (att a i)=false):Eq2 lt a b (o.push (att a i)) (i+1) j:=by unfold Eq2 at h ⊢;rw[<-h,Array.toList_push,zAm,Em hi,Em c,zBb,if_pos (by simp[d])];rfl
theorem Eq2.ga(h:Eq2 lt a b o i j)(c:j<b.size)(d:∀n,n<k->i+n<a.size->lt (att b j) (att a (i+n))=false):Eq2 lt a b (o++a.extract i (i+k)) (i+k) j:=by
 unfold Eq2 at h ⊢;rw[<-h,zB5,qc8,zAm,show i+k-i=k by lia,Em c];congr 1;conv=>rhs;rw[<-zBg k (a.toList.drop i)]
 rw[Ka,Mt];intro x e;obtain⟨n,f,g,rfl⟩:=qy4 e;simp[d n f g]
theorem Eq2.gb(h:Eq2 lt a b o i j)(hi:i<a.size)(c:∀n,n<k->j+n<b.size->lt (att b (j+n)) (att a i)=true):Eq2 lt a b (o++b.extract j (j+k)) i (j+k):=by
 unfold Eq2 at h ⊢;rw[<-h,zB5,qc8,zAm,show j+k-j=k by lia,Em hi];congr 1;conv=>rhs;rw[<-zBg k (b.toList.drop j)]
 rw[Kb,Mt];intro x d;obtain⟨n,e,f,rfl⟩:=qy4 d;simp[c n e f]
section
variable{β:Type}{Q:β->Lm->Prop}
theorem eB{f:Ll->StateT Lm Sem β}(hi:i<a.size)(h:wpS (K7 prog w) A E s (f (att a i)) Q st):wpS (K7 prog w) A E s (elem' a i >>= f) Q st:=Ld (wel (qX5 hi) h)
theorem lB{f:Option Bool->StateT Lm Sem β}(a:Cm prog w A s kd P lt)(b:Ln st=kd)(c:P x)(d:P y)(h:lt x y=true->wpS (K7 prog w) A E s (f (some true)) Q st)(h':lt x y=false->wpS (K7 prog w) A E s (f (some false)) Q st):wpS (K7 prog w) A E s (lt' x y >>= f) Q st:=Ld (wlt a b c d (by cases e:lt x y<;>simp_all))
theorem mB{a:Lm}{f:Unit->StateT Lm Sem β}(c:R a st)(h:∀b,R a b->wpS (K7 prog w) A E s (f ()) Q b):wpS (K7 prog w) A E s (smg g >>= f) Q st:=Ld (Li (h _ c))
theorem sB{f:Option Nat->StateT Lm Sem β}(e:Od lt)(g:Cm prog w A s kd P lt)(j:Ln st=kd)(m:P key)(n:∀i,i<arr.size->P (att arr i))(o:Srt lt (att arr) arr.size)(p:bs<arr.size)(h:∀k,bs+k<=arr.size->(∀i,i<k->B lt l key (att arr (bs+i))=true)->(bs+k<arr.size->B lt l key (att arr (bs+k))=false)->wpS (K7 prog w) A E s (f (some k)) Q st):wpS (K7 prog w) A E s (gal l key arr bs (arr.size-bs) 0 >>= f) Q st:=Ld (wgs e g j m ⋯ n o.drop ⋯ λk a b c=>h k ⋯ b λd=>c k (zA2 _) ⋯)
end
theorem ltn{y:Nat}(h:¬(x==y)=true)(h':x<=y):x<y:=Nat.lt_of_le_of_ne h' λe=>h (zBr.mpr e)
theorem sa{i j:Nat}(h:x<=i+j):x+1<=i+1+j:=Nat.succ_add i j ▸ zBv h
theorem la{i j k:Nat}(h:x<=i+j):x<=i+(j+k):=⋯
theorem lb{i j k:Nat}(h:x<=i+j):x<=i+k+j:=⋯
theorem nt{b:Bool}(h:(!b)=true):b=false:=by simpa using h
theorem nf{b:Bool}(h:(!b)=false):b=true:=by simpa using h
theorem wmlo(hO:Od lt)(Y:Cm prog w A s kd P lt)(Z:Ln st=kd)(L:∀n,n<a.size->P (att a n))(M:∀n,n<b.size->P (att b n))(a0:Srt lt (att a) a.size)(a1:Srt lt (att b) b.size)(V:0<a.size)(N:0<b.size)(h0:lt (att b 0) (att a 0)=true)(hl:∀n,n<b.size->lt (att b n) (att a (a.size-1))=true)(h:∀r f,R st f->r.toList=Lu a.toList b.toList (lee lt)->Q r f):wpS (K7 prog w) A E s (mlo a b) Q st:=by
 have H:∀i,i+1=a.size->∀n,n<b.size->lt (att b n) (att a i)=true:=λi e n hn=>by rw[Nat.eq_sub_of_add_eq e];exact hl n hn
 have e1:Eq2 lt a b #[att b 0] 0 1:=Eq2.pb (o:=#[]) (i:=0) (j:=0) rfl V N h0;rw[qaZ8];refine rB (eB N (wif (λc=>Lf (h _ st ⟨rfl,rfl,rfl,rfl⟩ (e1.done (.inl (eq_of_beq c))))) λc1=>wif (λc=>Lf (h _ st ⟨rfl,rfl,rfl,rfl⟩ (e1.last (eq_of_beq c) (H 0 (eq_of_beq c))))) λc2=>gB ?_));let D (c:Option (Array Ll)):Prop:=∃r,c=some r/\r.toList=Lu a.toList b.toList (lee lt)
 let G (n:Nat) (o:Array Ll) (i j:Nat):Prop:=Eq2 lt a b o i j/\i+1<a.size/\j<b.size/\n<=i+j;refine fB (λx c f=>R st f/\c.1=none/\G (x+1) c.2.1 c.2.2.1 c.2.2.2.1) (λc f=>R st f/\D c.1) ?_ ?_ ⟨⟨rfl,rfl,rfl,rfl⟩,rfl,e1,ltn c2 V,ltn c1 N,zA2 _⟩ ?_
 .rintro F z x ⟨_,o,i,j,g⟩ O-hx ⟨W,rfl,g1,g2,g3,g4⟩ K p n;subst z;refine fB (λy c f=>R st f/\c.1=none/\G (x+1+y) c.2.1 c.2.2.1 c.2.2.2.1) (λc f=>R st f/\(D c.1∨c.1=none/\G (x+2) c.2.1 c.2.2.1 c.2.2.2.1)) ?_ ?_ ⟨W,rfl,g1,g2,g3,g4⟩ ?_;{rintro F z y ⟨_,o,i,j,_,_⟩ S-hy ⟨m,rfl,v,t,l,B⟩ K p n;subst z;have I:=zC6 t;have k6:=zAi (Nat.le_add_right (x+1) y) B;refine eB l (eB I (lB Y (m.1.trans Z) (M _ l) (L _ I) (λhb=>?_) λhb=>?_));{have e2:=v.pb I l hb;exact eB l (wif (λc=>Lf (p _ _ ⟨m,.inl ⟨_,rfl,e2.done (.inl (eq_of_beq c))⟩⟩)) λc=>wif (λ_=>Lf (p _ _ ⟨m,.inr ⟨rfl,e2,t,ltn c l,zBv k6⟩⟩)) λ_=>Lf (n _ _ ⟨m,rfl,e2,t,ltn c l,zBv B⟩))};have e2:=v.pa I l hb;exact eB I (wif (λc=>Lf (p _ _ ⟨m,.inl ⟨_,rfl,e2.last (eq_of_beq c) (H _ (eq_of_beq c))⟩⟩)) λc=>wif (λ_=>Lf (p _ _ ⟨m,.inr ⟨rfl,e2,ltn c t,l,sa k6⟩⟩)) λ_=>Lf (n _ _ ⟨m,rfl,e2,ltn c t,l,sa B⟩))};{rintro c S ⟨m,k0,v,t,l,B⟩;exact⟨m,.inr ⟨k0,v,t,l,⋯⟩⟩};rintro F z ⟨c,c'⟩ S ⟨m,⟨r,rfl,e⟩|⟨e,v,t,l,B⟩⟩;{subst z;exact Lf (p _ _ ⟨m,r,rfl,e⟩)};cases e;subst z;refine rB (fB (λy c f=>R st f/\c.1=none/\G (x+2) c.2.1 c.2.2.1 c.2.2.2.1) (λc f=>R st f/\(D c.1∨c.1=none/\G (x+2) c.2.1 c.2.2.1 c.2.2.2.1)) ?_ ?_ ⟨m,rfl,v,t,l,B⟩ ?_)
  .rintro F z y ⟨_,o,i,j,g,_,_⟩ a2-hy ⟨r3,rfl,v,t,l,B⟩ K p n;subst z;have I:=zC6 t;dsimp -zeta only;extract_lets +onlyGivenNames _ _ _ _ _ _ _ _ _ _ _ _ J;suffices u:∀g,wpS (K7 prog w) A E s (J () g) K a2 from wif (λ_=>u _) λ_=>u _
   intro g;dsimp +zetaDelta -zeta only;refine mB r3 λT C=>eB l (sB hO Y (C.1.trans Z) (M _ l) L a0 I λk q1 q2 q3=>?_);dsimp -zeta only;extract_lets +onlyGivenNames _ J;have ea:=v.ga (k:=k) l λn h1 _=>nt (q2 n h1);suffices u:∀o i,Eq2 lt a b o i j->i+1<a.size->x+2<=i+j->lt (att b j) (att a i)=true->wpS (K7 prog w) A E s (J () o i) K T from wif (λc=>wif (λd=>Lf (p _ _ ⟨C,.inl ⟨_,rfl,ea.last (eq_of_beq d) (H _ (eq_of_beq d))⟩⟩)) λd=>wif (λX=>Lf (p _ _ ⟨C,.inl ⟨_,rfl,ea.done (.inr (eq_of_beq X))⟩⟩)) λX=>u _ _ ea (ltn d (ltn X q1)) (lb B) (nf (q3 (ltn X q1)))) λc=>by obtain rfl:=Nat.eq_zero_of_not_pos c;exact u _ _ v t B (nf (q3 I))
   intro o i e z1 zb z;dsimp +zetaDelta -zeta only;have U:=zC6 z1;have e2:=e.pb U l z;refine eB l (wif (λd=>Lf (p _ _ ⟨C,.inl ⟨_,rfl,e2.done (.inl (eq_of_beq d))⟩⟩)) λd=>?_);have z2:=ltn d l;refine eB U (sB hO Y (C.1.trans Z) (L _ U) M a1 z2 λq p1 p2 p3=>?_);dsimp -zeta only;extract_lets +onlyGivenNames _ _ J;have eb:=e2.gb (k:=q) U λn h1 h2=>p2 n h1;suffices u:∀o j,Eq2 lt a b o i j->j<b.size->x+2<=i+j->lt (att b j) (att a i)=false->wpS (K7 prog w) A E s (J () o j) K T from wif (λc=>wif (λd=>Lf (p _ _ ⟨C,.inl ⟨_,rfl,eb.done (.inl (eq_of_beq d))⟩⟩)) λd=>u _ _ eb (ltn d p1) (la (la zb)) (p3 (ltn d p1))) λc=>by obtain rfl:=Nat.eq_zero_of_not_pos c;exact u _ _ e2 z2 (la zb) (p3 z2)
   intro o j e3 z3 zc z4;have z5:=e3.pa U z3 z4;refine eB U (wif (λd=>Lf (p _ _ ⟨C,.inl ⟨_,rfl,z5.last (eq_of_beq d) (H _ (eq_of_beq d))⟩⟩)) λd=>?_);exact wif (λ_=>Lf (p _ _ ⟨C,.inr ⟨rfl,z5,ltn d z1,z3,lb zc⟩⟩)) λ_=>Lf (n _ _ ⟨C,rfl,z5,ltn d z1,z3,lb zc⟩)
  {exact λ_ _ z=>⟨z.1,.inr z.2⟩};rintro F z ⟨c,c'⟩ S ⟨m,⟨r,rfl,e⟩|⟨e,v,t,l,B⟩⟩<;>subst z;{exact Lf (p _ _ ⟨m,r,rfl,e⟩)};cases e;exact mB m λT C=>Lf (n _ _ ⟨C,rfl,v,t,l,B⟩)
 {rintro c O ⟨W,_,g1,g2,g3,g4⟩;lia};rintro F z ⟨c,c'⟩ O ⟨W,r,rfl,e⟩;subst z;exact Lf (h r O W e)
end
section
variable{prog:K8}{w:La}{A:K9}{E:V'->δ->Prop}{s:δ}{kd:SortKind}{P:Ll->Prop}{lt:Ll->Ll->Bool}{st:Lm}
noncomputable def mhi:Array Ll->Array Ll->StateT Lm Sem (Array Ll):=sortPriv% PySem.Builtin.mergeHi
theorem qaZ9(a b:Array Ll):mhi a b=(do
 rule "list.sort.merge-hi"
 let tt:=a.size+b.size
 let dn (o:Array Ll) (i j:Nat):=a.extract 0 i++b.extract 0 j++o.reverse
 let fb (o:Array Ll) (i j:Nat):=b.extract 0 j++a.extract 0 i++o.reverse
 let mut i:=a.size-1
 let mut j:=b.size
 let mut o:Array Ll:=#[<-elem' a i]
 if i==0 then return dn o i j
 if j==1 then return fb o i j
 let mut g:=gallopOf (<- get)
 for _ in [0:tt] do
   let mut x:=0
   let mut y:=0
   for _ in [0:tt] do
     let some t<-lt' (<- elem' b (j-1)) (<- elem' a (i-1))|return dn o i j
     if t then
       i:=i-1;o:=o.push (<- elem' a i);x:=x+1;y:=0
       if i==0 then return dn o i j
       if x ≥ g then break
     else
       j:=j-1;o:=o.push (<- elem' b j);y:=y+1;x:=0
       if j==1 then return fb o i j
       if y ≥ g then break
   rule "list.sort.gallop"
   g:=g+1
   for _ in [0:tt] do
     if g>1 then g:=g-1
     smg g
     let some q<-gal false (<- elem' b (j-1)) a 0 i (i-1)|return dn o i j
     let k:=i-q
     x:=k
     if k>0 then
       o:=o++(a.extract q i).reverse;i:=q
       if i==0 then return dn o i j
     j:=j-1;o:=o.push (<- elem' b j)
     if j==1 then return fb o i j
     let some q<-gal true (<- elem' a (i-1)) b 0 j (j-1)|return dn o i j
     let k:=j-q
     y:=k
     if k>0 then
       o:=o++(b.extract q j).reverse;j:=q
       if j==1 then return fb o i j
       if j==0 then return dn o i j
     i:=i-1;o:=o.push (<- elem' a i)
     if i==0 then return dn o i j
     if x<7&&y<7 then break
   g:=g+1
   smg g
 unsupported "internal:list.sort.merge-bound"):=rfl
def Eq3(lt:Ll->Ll->Bool)(a b o:Array Ll)(i j:Nat):Prop:=Lu (a.toList.take i) (b.toList.take j) (lee lt)++o.toList.reverse=Lu a.toList b.toList (lee lt)
variable{a b o:Array Ll}{i j k:Nat}
theorem Kc{a:Array Ll}{k:Nat}(h:x∈a.toList.take k):∃j,j<k/\j<a.size/\x=att a j:=by obtain⟨j,b,c,e⟩:=qy4 (i:=0) (by simpa using h);exact⟨j,b,⋯,by rw[e,zAk]⟩
theorem qag9{a:Array Ll}{i:Nat}(h:q<=i):a.toList.take i=a.toList.take q++(a.extract q i).toList:=by rw[qc8];conv=>lhs;rw[show i=q+(i-q) by lia,Nf]
theorem ext1{a:Array Ll}{i:Nat}(h:0<i)(hi:i<=a.size):(a.extract (i-1) i).toList=[att a (i-1)]:=by rw[qc8,Em ⋯,show i-(i-1)=1 by lia];rfl
theorem Eq3.done(h:Eq3 lt a b o i j)(c:i=0∨j=0):(a.extract 0 i++b.extract 0 j++o.reverse).toList=Lu a.toList b.toList (lee lt):=by rw[<-h,zB5,zB5,qc8,qc8,Array.toList_reverse];congr 1;rcases c with rfl|rfl;{simp};simp
theorem Eq3.first(h:Eq3 lt a b o i j)(c:j=1)(k:0<b.size)(d:∀n,n<a.size->lt (att b 0) (att a n)=true):(b.extract 0 j++a.extract 0 i++o.reverse).toList=Lu a.toList b.toList (lee lt):=by
 rw[<-h,zB5,zB5,qc8,qc8,Array.toList_reverse];congr 1;subst c;have:=mg_r (le:=lee lt) (B2:=[]) (B1:=b.toList.take 1) (X:=a.toList.take i) λy e x f=>by obtain⟨n,_,g,rfl⟩:=Kc f;obtain⟨m,l,p,rfl⟩:=Kc e;obtain rfl:m=0:=⋯;simp[d _ g]
 rw[zAc] at this;rw[this];simp
theorem Eq3.ga(h:Eq3 lt a b o i j)(f:Od lt)(c:Srt lt (att b) b.size)(g:q<=i)(s:0<j)(k:j<=b.size)(l:∀n,q<=n->n<i->n<a.size->lt (att b (j-1)) (att a n)=true):Eq3 lt a b (o++(a.extract q i).reverse) q j:=by unfold Eq3 at h ⊢;rw[<-h,qag9 g,J2];{simp};intro x d y p;rw[qc8] at d;obtain⟨n,t,r,rfl⟩:=qy4 d;obtain⟨m,u,v,rfl⟩:=Kc p;have e:=l (q+n) ⋯ ⋯ r;show (!lt (att b m) (att a (q+n)))=false;cases e2:lt (att b m) (att a (q+n)) with|true=>rfl|false=>rw[f.tr _ _ _ e2 (c m (j-1) ⋯ ⋯)] at e;cases e
theorem Eq3.gb(h:Eq3 lt a b o i j)(e:Od lt)(c:Srt lt (att a) a.size)(f:q<=j)(hi:0<i)(g:i<=a.size)(k:∀n,q<=n->n<j->n<b.size->lt (att b n) (att a (i-1))=false):Eq3 lt a b (o++(b.extract q j).reverse) i q:=by unfold Eq3 at h ⊢;rw[<-h,qag9 f,Hw];{simp};intro y d x l;rw[qc8] at d;obtain⟨n,r,p,rfl⟩:=qy4 d;obtain⟨m,s,t,rfl⟩:=Kc l;show (!lt (att b (q+n)) (att a m))=true;rw[e.tr _ _ _ (c m (i-1) ⋯ ⋯) (k (q+n) ⋯ ⋯ p)];rfl
theorem Eq3.pa(h:Eq3 lt a b o i j)(f:Od lt)(c:Srt lt (att b) b.size)(hi:0<i)(d:i<=a.size)(g:0<j)(e:j<=b.size)(k:lt (att b (j-1)) (att a (i-1))=true):Eq3 lt a b (o.push (att a (i-1))) (i-1) j:=by
 have:=h.ga f c (q:=i-1) ⋯ g e λn l m _=>by rw[show n=i-1 by lia];exact k
 rwa[show o++(a.extract (i-1) i).reverse=o.push (att a (i-1)) from Array.toList_inj.mp (by rw[zB5,Array.toList_reverse,ext1 hi d,Array.toList_push];rfl)] at this
theorem Eq3.pb(h:Eq3 lt a b o i j)(f:Od lt)(c:Srt lt (att a) a.size)(hi:0<i)(d:i<=a.size)(g:0<j)(e:j<=b.size)(k:lt (att b (j-1)) (att a (i-1))=false):Eq3 lt a b (o.push (att b (j-1))) i (j-1):=by
 have:=h.gb f c (q:=j-1) ⋯ hi d λn l m _=>by rw[show n=j-1 by lia];exact k
 rwa[show o++(b.extract (j-1) j).reverse=o.push (att b (j-1)) from Array.toList_inj.mp (by rw[zB5,Array.toList_reverse,ext1 g e,Array.toList_push];rfl)] at this
theorem pz(h:¬(x==0)=true):0<x:=Nat.pos_of_ne_zero λe=>h (zBr.mpr e)
theorem p1(h:¬(x==1)=true)(h':0<x):1<x:=Nat.lt_of_le_of_ne h' λe=>h (zBr.mpr e.symm)
theorem dy{i j:Nat}(h:x+y+i+j<=N):x+i+j<=N:=⋯
theorem lc{i j:Nat}(h:x+i+j<=N)(h':q<=i):x+q+j<=N:=⋯
theorem ld{i j:Nat}(h:x+i+j<=N)(h':q<=j):x+i+q<=N:=⋯
theorem mw{i j:Nat}(h:x+i+j<=N)(h':0<i):x+1+(i-1)+j<=N:=⋯
theorem mv{i j:Nat}(h:x+i+j<=N)(h':0<j):x+1+i+(j-1)<=N:=⋯
theorem sH{β:Type}{Q:β->Lm->Prop}{n:Nat}{f:Option Nat->StateT Lm Sem β}(e:Od lt)(g:Cm prog w A s kd P lt)(m:Ln st=kd)(o:P key)(p:∀i,i<arr.size->P (att arr i))(r:Srt lt (att arr) arr.size)(t:0<n)(u:n<=arr.size)(h:∀q,q<=n->(0<q->B lt l key (att arr (q-1))=true)->(∀i,q<=i->i<n->B lt l key (att arr i)=false)->wpS (K7 prog w) A E s (f (some q)) Q st):wpS (K7 prog w) A E s (gal l key arr 0 n (n-1) >>= f) Q st:=Ld (wgs e g m o ⋯ p (λi j a b=>r _ _ ⋯ ⋯) ⋯ λk a b c=>h k a (λd=>zAk (k-1) ▸ b _ (Nat.sub_one_lt_of_lt d)) λi x y=>zAk i ▸ c i x y)
theorem wmhi(S:Od lt)(hC:Cm prog w A s kd P lt)(hk:Ln st=kd)(W:∀n,n<a.size->P (att a n))(X:∀n,n<b.size->P (att b n))(T:Srt lt (att a) a.size)(L:Srt lt (att b) b.size)(Y:0<a.size)(B:0<b.size)(h0:∀n,n<a.size->lt (att b 0) (att a n)=true)(hl:lt (att b (b.size-1)) (att a (a.size-1))=true)(h:∀r f,R st f->r.toList=Lu a.toList b.toList (lee lt)->Q r f):wpS (K7 prog w) A E s (mhi a b) Q st:=by
 have e1:Eq3 lt a b #[att a (a.size-1)] (a.size-1) b.size:=Eq3.pa (o:=#[]) (i:=a.size) (j:=b.size) (by unfold Eq3;rw[show a.toList.take a.size=a.toList from zAo (zCi zB7),show b.toList.take b.size=b.toList from zAo (zCi zB7)];simp) S L Y (zA2 _) B (zA2 _) hl;rw[qaZ9];refine rB (eB (Nat.sub_one_lt_of_lt Y) (wif (λc=>Lf (h _ st ⟨rfl,rfl,rfl,rfl⟩ (e1.done (.inl (eq_of_beq c))))) λc1=>wif (λc=>Lf (h _ st ⟨rfl,rfl,rfl,rfl⟩ (e1.first (eq_of_beq c) B h0))) λc2=>gB ?_));let D (c:Option (Array Ll)):Prop:=∃r,c=some r/\r.toList=Lu a.toList b.toList (lee lt)
 let G (n:Nat) (o:Array Ll) (i j:Nat):Prop:=Eq3 lt a b o i j/\0<i/\i<=a.size/\1<j/\j<=b.size/\n+i+j<=a.size+b.size;refine fB (λx c f=>R st f/\c.1=none/\G (x+1) c.2.2.2.1 c.2.1 c.2.2.1) (λc f=>R st f/\D c.1) ?_ ?_ ⟨⟨rfl,rfl,rfl,rfl⟩,rfl,e1,pz c1,zC9 _ _,p1 c2 B,zA2 _,mw (x:=0) ⋯ Y⟩ ?_
 .rintro F z x ⟨_,i,j,o,g⟩ Z-hx ⟨r1,rfl,g1,g2,g3,g4,g5,g6⟩ K p n;subst z;refine fB (λy c f=>R st f/\c.1=none/\G (x+1+y) c.2.2.2.1 c.2.1 c.2.2.1) (λc f=>R st f/\(D c.1∨c.1=none/\G (x+2) c.2.2.2.1 c.2.1 c.2.2.1)) ?_ ?_ ⟨r1,rfl,g1,g2,g3,g4,g5,g6⟩ ?_;{rintro F z y ⟨_,i,j,o,_,_⟩ a0-hy ⟨l,rfl,M,k,m,C,v,H⟩ K p n;subst z;have U:=zC6 C;have N:=Nat.sub_one_lt_of_le k m;have I:=Nat.sub_one_lt_of_le U v;refine eB I (eB N (lB hC (l.1.trans hk) (X _ I) (W _ N) (λhb=>?_) λhb=>?_));{have e2:=M.pa S L k m U v hb;exact eB N (wif (λc=>Lf (p _ _ ⟨l,.inl ⟨_,rfl,e2.done (.inl (eq_of_beq c))⟩⟩)) λc=>wif (λ_=>Lf (p _ _ ⟨l,.inr ⟨rfl,e2,pz c,zBa N,C,v,mw (dy H) k⟩⟩)) λ_=>Lf (n _ _ ⟨l,rfl,e2,pz c,zBa N,C,v,mw H k⟩))};have e2:=M.pb S T k m U v hb;have y0:=Nat.sub_pos_of_lt C;exact eB I (wif (λc=>Lf (p _ _ ⟨l,.inl ⟨_,rfl,e2.first (eq_of_beq c) B h0⟩⟩)) λc=>wif (λ_=>Lf (p _ _ ⟨l,.inr ⟨rfl,e2,k,m,p1 c y0,zBa I,mv (dy H) U⟩⟩)) λ_=>Lf (n _ _ ⟨l,rfl,e2,k,m,p1 c y0,zBa I,mv H U⟩))};{rintro c a0 ⟨l,k0,M,k,m,C,v,H⟩;exact⟨l,.inr ⟨k0,M,k,m,C,v,⋯⟩⟩};rintro F z ⟨c,c'⟩ a0 ⟨l,⟨r,rfl,e⟩|⟨e,M,k,m,C,v,H⟩⟩;{subst z;exact Lf (p _ _ ⟨l,r,rfl,e⟩)};cases e;subst z;refine rB (fB (λy c f=>R st f/\c.1=none/\G (x+2) c.2.2.2.1 c.2.1 c.2.2.1) (λc f=>R st f/\(D c.1∨c.1=none/\G (x+2) c.2.2.2.1 c.2.1 c.2.2.1)) ?_ ?_ ⟨l,rfl,M,k,m,C,v,H⟩ ?_)
  .rintro F z y ⟨_,i,j,o,g,_,_⟩ a2-hy ⟨r3,rfl,M,k,m,C,v,H⟩ K p n;subst z;have U:=zC6 C;have I:=Nat.sub_one_lt_of_le U v;have y0:=Nat.sub_pos_of_lt C;dsimp -zeta only;extract_lets +onlyGivenNames _ _ _ _ _ _ _ _ _ _ _ _ J;suffices u:∀g,wpS (K7 prog w) A E s (J () g) K a2 from wif (λ_=>u _) λ_=>u _
   intro g;dsimp +zetaDelta -zeta only;refine mB r3 λa1 O=>eB I (sH S hC (O.1.trans hk) (X _ I) W T k m λq V q2 q3=>?_);dsimp -zeta only;extract_lets +onlyGivenNames _ _ J;have ea:=M.ga S L V U v λn h1 h2 _=>nf (q3 n h1 h2);suffices u:∀i o,Eq3 lt a b o i j->0<i->i<=a.size->x+2+i+j<=a.size+b.size->lt (att b (j-1)) (att a (i-1))=false->wpS (K7 prog w) A E s (J () i o) K a1 from wif (λc=>wif (λd=>Lf (p _ _ ⟨O,.inl ⟨_,rfl,ea.done (.inl (eq_of_beq d))⟩⟩)) λd=>u _ _ ea (pz d) (zAi V m) (lc H V) (nt (q2 (pz d)))) λc=>by obtain rfl:=Nat.le_antisymm V (Nat.le_of_sub_eq_zero (Nat.eq_zero_of_not_pos c));exact u _ _ M k m H (nt (q2 k))
   intro i o e z1 z2 zb z;dsimp +zetaDelta -zeta only;have N:=Nat.sub_one_lt_of_le z1 z2;have e2:=e.pb S T z1 z2 U v z;refine eB I (wif (λd=>Lf (p _ _ ⟨O,.inl ⟨_,rfl,e2.first (eq_of_beq d) B h0⟩⟩)) λd=>?_);refine eB N (sH S hC (O.1.trans hk) (W _ N) X L y0 (zBa I) λq V q2 q3=>?_);dsimp -zeta only;extract_lets +onlyGivenNames _ _ _ J;have eb:=e2.gb S T V z1 z2 λn h1 h2 _=>q3 n h1 h2;suffices u:∀j o,Eq3 lt a b o i j->1<j->j<=b.size->x+2+i+j<=a.size+b.size->lt (att b (j-1)) (att a (i-1))=true->wpS (K7 prog w) A E s (J () j o) K a1 from wif (λc=>wif (λd=>Lf (p _ _ ⟨O,.inl ⟨_,rfl,eb.first (eq_of_beq d) B h0⟩⟩)) λd=>wif (λt=>Lf (p _ _ ⟨O,.inl ⟨_,rfl,eb.done (.inr (eq_of_beq t))⟩⟩)) λt=>u _ _ eb (p1 d (pz t)) (zAi V (zBa I)) (ld (ld zb (zC9 _ 1)) V) (q2 (pz t))) λc=>by obtain rfl:=Nat.le_antisymm V (Nat.le_of_sub_eq_zero (Nat.eq_zero_of_not_pos c));exact u _ _ e2 (p1 d y0) (zBa I) (ld zb (zC9 _ 1)) (q2 y0)
   intro j o e3 y1 y2 y5 y4;have e4:=e3.pa S L z1 z2 (zC6 y1) y2 y4;exact eB N (wif (λd=>Lf (p _ _ ⟨O,.inl ⟨_,rfl,e4.done (.inl (eq_of_beq d))⟩⟩)) λd=>wif (λ_=>Lf (p _ _ ⟨O,.inr ⟨rfl,e4,pz d,zBa N,y1,y2,lc y5 (zC9 _ 1)⟩⟩)) λ_=>Lf (n _ _ ⟨O,rfl,e4,pz d,zBa N,y1,y2,lc y5 (zC9 _ 1)⟩))
  {exact λ_ _ z=>⟨z.1,.inr z.2⟩};rintro F z ⟨c,c'⟩ a0 ⟨l,⟨r,rfl,e⟩|⟨e,M,k,m,C,v,H⟩⟩<;>subst z;{exact Lf (p _ _ ⟨l,r,rfl,e⟩)};cases e;exact mB l λa1 O=>Lf (n _ _ ⟨O,rfl,M,k,m,C,v,H⟩)
 {rintro c Z ⟨r1,_,g1,g2,g3,g4,g5,g6⟩;lia};rintro F z ⟨c,c'⟩ Z ⟨r1,r,rfl,e⟩;subst z;exact Lf (h r Z r1 e)
end
theorem qp3(h:xs[i]?=ys[j]?):att xs i=att ys j:=by
 have e:∀(a:Array Ll) k,att a k=(a[k]?).getD (Nl,Nl):=λa k=>by simp[att,Array.getD_eq_getD_getElem?]
 rw[e,e,h]
theorem qaq5(a:src<xs.size)(b:d<=src)(k:Nat):att (bubble xs src d) k=if k=src-d then att xs src else if src-d<k/\k<=src then att xs (k-1) else att xs k:=by have e:=getElem?_bubble a d b k;split at e;{rw[if_pos (by assumption)];exact qp3 e};rw[if_neg (by assumption)];split at e;{rw[if_pos (by assumption)];exact qp3 e};rw[if_neg (by assumption)];exact qp3 e
theorem qaq4(a:j<=xs.size)(k:Nat):att (mirror xs i j ((j-i)/2)) k=if i<=k/\k<j then att xs (i+j-1-k) else att xs k:=by have e:=getElem?_mirror_all (i:=i) a k;split at e;{rw[if_pos (by assumption)];exact qp3 e};rw[if_neg (by assumption)];exact qp3 e
theorem qaC1(h:i<a.size):att a i∈a.toList:=by simp[att,Array.getD,h]
theorem Srt.more(h:Srt lt f x)(d:Od lt)(e:0<x->lt (f x) (f (x-1))=false):Srt lt f (x+1):=λi j a b=>by
 by_cases c:j<x
 .exact h i j a c
 obtain rfl:j=x:=⋯
 by_cases q:i=j
 .rw[q];exact d.ir _
 exact d.tr _ _ _ (h i (j-1) ⋯ ⋯) (e ⋯)
structure Bt(a0:Array Ll)(lo:Nat)(st st':Lm):Prop where
 kd:Ln st'=Ln st
 fl:Lh st'=Lh st
 pd:Lg st'=Lg st
 pm:(Lj st').Perm a0
 pr:∀i,i<lo->att (Lj st') i=att (Lj st) i
section
variable{prog:K8}{w:La}{A:K9}{E:V'->δ->Prop}{s:δ}{kd:SortKind}{lt:Ll->Ll->Bool}{st X:Lm}{Z:Array Ll}{Y:Nat}
theorem Bt.sz(h:Bt Z Y st X):(Lj X).size=Z.size:=h.pm.size_eq
theorem Bt.mem(h:Bt Z Y st X)(hi:i<Z.size):att (Lj X) i∈Z.toList:=(zBm.mp h.pm).mem_iff.mp (qaC1 (by rw[h.sz];exact hi))
theorem Bt.set(h:Bt Z Y st X)(b:xs.Perm (Lj X))(c:∀i,i<Y->att xs i=att (Lj X) i):Bt Z Y st (Lp X xs):=⟨h.kd,h.fl,h.pd,b.trans h.pm,λi a=>(c i a).trans (h.pr i a)⟩
abbrev Cn(prog:K8)(w:La)(A:K9)(s:δ)(kd:SortKind)(Z:Array Ll)(lt:Ll->Ll->Bool):Prop:=Cm prog w A s kd (λx=>x∈Z.toList) lt
theorem aB{β:Type}{i j:Nat}{Q:β->Lm->Prop}{f:Option Bool->StateT Lm Sem β}(b:Cn prog w A s kd Z lt)(c:Ln st=kd)(h:Bt Z Y st X)(hi:i<Z.size)(a:j<Z.size)(h':lt (att (Lj X) i) (att (Lj X) j)=true->wpS (K7 prog w) A E s (f (some true)) Q X)(d:lt (att (Lj X) i) (att (Lj X) j)=false->wpS (K7 prog w) A E s (f (some false)) Q X):wpS (K7 prog w) A E s (ltAt' i j >>= f) Q X:=by refine Ld ?_;rw[ltAt'_eq];refine gB (eB (by rw[h.sz];exact hi) (eB (by rw[h.sz];exact a) (wlt b (h.kd.trans c) (h.mem hi) (h.mem a) ?_)));cases e:lt (att (Lj X) i) (att (Lj X) j) with|true=>exact h' e|false=>exact d e
theorem wmv(h:Q () (Lp X (bubble (Lj X) p (p-q)))):wpS (K7 prog w) A E s (moveDown' p q) Q X:=by rw[moveDown'_eq];exact Li h
theorem qaV1(h:p<xs.size)(a:q<=p)(hi:i<q):att (bubble xs p (p-q)) i=att xs i:=by rw[qaq5 h (zC9 _ _),Nat.sub_sub_self a,if_neg (zAs hi),if_neg λc=>Nat.lt_asymm hi c.1]
theorem qbd7(h:p<xs.size)(a:q<=p):att (bubble xs p (p-q)) q=att xs p:=by rw[qaq5 h (zC9 _ _),Nat.sub_sub_self a,if_pos rfl]
theorem qbd6(h:p<xs.size)(a:q<=p)(h1:q<=i)(h2:i<p):att (bubble xs p (p-q)) (i+1)=att xs i:=by rw[qaq5 h (zC9 _ _),Nat.sub_sub_self a,if_neg (Nat.ne_of_gt (Nat.lt_succ_of_le h1)),if_pos ⟨Nat.lt_succ_of_le h1,h2⟩,Nat.add_sub_cancel]
theorem qaM4{F:Nat->Ll}{l:Nat}(e:Od lt)(c:l<=k)(s2:∀i j,i<=j->j<k->lt (f j) (f i)=false)(g:∀i,i<l->lt x (f i)=false)(n:∀i,l<=i->i<k->lt (f i) x=false)(h1:∀i,i<l->F i=f i)(h2:F l=x)(d:∀i,l<=i->i<k->F (i+1)=f i)(i j:Nat)(a:i<=j)(o:j<k+1):lt (F j) (F i)=false:=by rcases Nat.lt_trichotomy j l with h|h|h;{rw[h1 j h,h1 i (zC1 a h)];exact s2 i j a (zAh h c)};{subst h;rw[h2];rcases Nat.lt_or_eq_of_le a with q|rfl;{rw[h1 i q];exact g i q};rw[h2];exact e.ir _};cases j with|zero=>exact absurd h (zCk _)|succ m=>have b:=Nat.lt_of_succ_lt_succ o;rw[d m (zBw h) b];rcases Nat.lt_trichotomy i l with q|q|q;{rw[h1 i q];exact s2 i m (zAi (zBa q) (zBw h)) b};{subst q;rw[h2];exact n m (zBw h) b};cases i with|zero=>exact absurd q (zCk _)|succ p=>rw[d p (zBw q) (zC1 (Nat.le_of_succ_le_succ a) b)];exact s2 p m (Nat.le_of_succ_le_succ a) b
theorem wbin(D:Od lt)(J:Cn prog w A s kd Z lt)(L:Ln st=kd)(V:Y+n<=Z.size)(M:C<=n)(h1:1<=C)(N:Bt Z Y st X)(O:Srt lt (λi=>att (Lj X) (Y+i)) C)(h:∀e,Bt Z Y st e->Srt lt (λi=>att (Lj e) (Y+i)) n->Q true e):wpS (K7 prog w) A E s (binarySort' Y n C) Q X:=by
 rw[binarySort'_eq];refine fB (λk c e=>c=(none,())/\Bt Z Y st e/\Srt lt (λi=>att (Lj e) (Y+i)) (min k n)) (λc e=>c=(none,())/\Bt Z Y st e/\Srt lt (λi=>att (Lj e) (Y+i)) n) ?_ ?_ ⟨rfl,N,λi j a b=>O i j a ⋯⟩ ?_
 .rintro F z k c f P R ⟨rfl,m,g⟩ K p q;subst z;rw[show min k n=k by lia] at g;refine fB (λx c e=>e=f/\∃l r,c=(none,l,r)/\l<=r/\r<=k/\r-l<=k-x/\(∀i,i<l->lt (att (Lj f) (Y+k)) (att (Lj f) (Y+i))=false)/\(∀i,r<=i->i<k->lt (att (Lj f) (Y+i)) (att (Lj f) (Y+k))=false)) (λc e=>e=f/\∃l,c=(none,l,l)/\l<=k/\(∀i,i<l->lt (att (Lj f) (Y+k)) (att (Lj f) (Y+i))=false)/\(∀i,l<=i->i<k->lt (att (Lj f) (Y+i)) (att (Lj f) (Y+k))=false)) ?_ ?_ ⟨rfl,0,k,rfl,⋯,⋯,⋯,λi t=>⋯,λi h1 I=>⋯⟩ ?_;{rintro F z x c o-W ⟨rfl,l,r,rfl,S,u,T,v,B⟩ K p q;subst z;dsimp only;refine wif (λd=>?_) λd=>?_;{obtain rfl:l=r:=⋯;exact Lf (p _ _ ⟨rfl,l,rfl,u,v,B⟩)};exact aB J L m ⋯ ⋯ (λG=>Lf (q _ _ ⟨rfl,l,_,rfl,⋯,⋯,⋯,v,λi h1 I=>D.tr _ _ _ (D.as _ _ G) (g _ _ h1 I)⟩)) λG=>Lf (q _ _ ⟨rfl,_,r,rfl,⋯,⋯,⋯,λi h1=>D.tr _ _ _ (g i _ ⋯ ⋯) G,B⟩)};{rintro c o ⟨rfl,l,r,rfl,S,u,T,v,B⟩;obtain rfl:l=r:=⋯;exact⟨rfl,l,rfl,u,v,B⟩};rintro F z c o ⟨rfl,l,rfl,u,v,B⟩;subst z;dsimp only;have z:Y+k<(Lj o).size:=by rw[m.sz];lia
  have y:=Nat.add_le_add_left u Y;refine Ld (wmv (Lf (q _ _ ⟨rfl,m.set (bubble_perm _ _ _) λi t=>?_,?_⟩)));{exact qaV1 z y (zAh t (Nat.le_add_right _ _))};rw[show min (k+1) n=k+1 by lia];exact qaM4 D u g v B (λi t=>qaV1 z y (Nat.add_lt_add_left t Y)) (qbd7 z y) λi t H=>qbd6 z y (Nat.add_le_add_left t Y) (Nat.add_lt_add_left H Y)
 {rintro c f ⟨U,m,g⟩;rw[show min (max (max C 1) n) n=n by lia] at g;exact⟨U,m,g⟩};rintro F z c f ⟨rfl,m,g⟩;subst z;exact Lf (h f m g)
def Ds(lt:Ll->Ll->Bool)(Z:Array Ll):Prop:=Z.toList.Pairwise λx y=>lt x y=true∨lt y x=true
theorem Ds.at(h:Ds lt Z)(b:Bt Z Y st X)(c:i≠j)(hi:i<Z.size)(n:j<Z.size)(e:lt (att (Lj X) i) (att (Lj X) j)=false):lt (att (Lj X) j) (att (Lj X) i)=true:=by have d:=((zBm.mp b.pm).pairwise_iff λh=>h.symm).mpr h;rw[Ml] at d;have g:∀k,k<Z.size->∃a,(Lj X).toList[k]'a=att (Lj X) k:=λk a=>⟨by rw[zB7,b.sz];exact a,by simp[att,Array.getD,show k<(Lj X).size by rw[b.sz];exact a]⟩;obtain⟨f,l⟩:=g i hi;obtain⟨m,e2⟩:=g j n;rcases Nat.lt_or_gt_of_ne c with q|q;{have:=d i j f m q;rw[l,e2,e] at this;simpa using this};have:=d j i m f q;rw[l,e2,e] at this;simpa using this
theorem wcnt(v:Od lt)(D:Cn prog w A s kd Z lt)(M:Ds lt Z)(G:Ln st=kd)(T:Y+m<=Z.size)(h1:1<=m)(r:Bt Z Y st X)(h:∀n f,Bt Z Y st f->1<=n->n<=m->Srt lt (λi=>att (Lj f) (Y+i)) n->Q (some n) f):wpS (K7 prog w) A E s (countRun' Y m) Q X:=by
 rw[countRun'_eq];refine fB (λx c f=>f=X/\c=(none,x)/\Srt lt (λi=>att (Lj X) (Y+i)) x) (λc f=>f=X/\∃n,c=(none,n)/\1<=n/\n<=m/\Srt lt (λi=>att (Lj X) (Y+i)) n/\(n=m∨lt (att (Lj X) (Y+n)) (att (Lj X) (Y+n-1))=true)) ?_ ?_ ⟨rfl,rfl,λi j a b=>by rw[show i=j by lia];exact v.ir _⟩ ?_;{rintro F z x c g o N ⟨rfl,rfl,t⟩ K p q;subst z;exact aB D G r ⋯ ⋯ (λu=>Lf (p _ _ ⟨rfl,x,rfl,o,⋯,t,.inr u⟩)) λu=>Lf (q _ _ ⟨rfl,rfl,t.more v λ_=>by rw[<-Nat.add_sub_assoc o];exact u⟩)};{rintro c g ⟨rfl,rfl,t⟩;rw[show max 1 m=m by lia] at t ⊢;exact⟨rfl,m,rfl,h1,zA2 _,t,.inl rfl⟩};rintro F z c g ⟨rfl,n,rfl,J,L,t,d⟩;subst z;dsimp only;refine wif (λ_=>Lf (h n g r J L t)) λc=>?_;have d:=d.resolve_left (by simpa using c);refine wif (λP=>aB D G r ⋯ ⋯ (λ_=>Lf (h n g r J L t)) λe=>?_) λP=>?_;{rw[M.at r ⋯ ⋯ ⋯ (by rw[Nat.add_sub_assoc J];exact t 0 (n-1) ⋯ ⋯)] at e;cases e};obtain rfl:n=1:=⋯;simp at c;refine rB ?_;have O:Od λx y=>lt y x:=⟨λx y q=>v.as _ _ q,λx y z p q=>v.tr _ _ _ q p⟩;refine fB (λx c f=>f=g/\c=(none,x,0)/\Srt (λx y=>lt y x) (λi=>att (Lj g) (Y+i)) x) (λc f=>f=g/\∃n,c=(none,n,0)/\2<=n/\n<=m/\Srt (λx y=>lt y x) (λi=>att (Lj g) (Y+i)) n) ?_ ?_ ⟨rfl,rfl,?_⟩ ?_;{rintro F z x c l o N ⟨rfl,rfl,B⟩ K p q;subst z;exact aB D G r ⋯ ⋯ (λu=>wif (λ_=>wif (λc=>absurd c (zC3 0)) λ_=>Lf (q _ _ ⟨rfl,rfl,B.more O λ_=>by rw[<-Nat.add_sub_assoc ⋯];exact v.as _ _ u⟩)) λc=>absurd rfl c) λu=>aB D G r ⋯ ⋯ (λ_=>Lf (p _ _ ⟨rfl,x,rfl,o,⋯,B⟩)) λe=>by rw[M.at r ⋯ ⋯ ⋯ u] at e;cases e};{rintro c l ⟨rfl,rfl,B⟩;rw[show max (1+1) m=m by lia] at B ⊢;exact⟨rfl,m,rfl,⋯,zA2 _,B⟩};{refine Srt.more (λi j a b=>?_) O λ_=>v.as _ _ d;obtain rfl:i=j:=⋯;exact v.ir _};rintro F z c l ⟨rfl,n,rfl,J,L,B⟩;subst z;refine wif (λc=>absurd c (zC3 0)) λ_=>?_;dsimp only;have z:Y+n<=(Lj l).size:=by rw[r.sz];lia
 have H:=r.set (mirror_perm (Lj l) Y (Y+n) ((Y+n-Y)/2)) λi U=>by rw[qaq4 z,if_neg ⋯]
 refine Ld (wpS_reverse ?_);refine fB (λx c f=>f=Lp l (mirror (Lj l) Y (Y+n) ((Y+n-Y)/2))/\c=(none,x)/\Srt lt (λi=>att (Lj f) (Y+i)) x) (λc f=>f=Lp l (mirror (Lj l) Y (Y+n) ((Y+n-Y)/2))/\∃k,c=(none,k)/\1<=k/\k<=m/\Srt lt (λi=>att (Lj f) (Y+i)) k) ?_ ?_ ⟨rfl,rfl,λi j a b=>?_⟩ ?_;{rintro F z x c I o N ⟨rfl,rfl,C⟩ K p q;subst z;exact aB D G H ⋯ ⋯ (λ_=>Lf (p _ _ ⟨rfl,x,rfl,⋯,⋯,C⟩)) λu=>Lf (q _ _ ⟨rfl,rfl,C.more v λ_=>by rw[<-Nat.add_sub_assoc ⋯];exact u⟩)};{rintro c I ⟨rfl,rfl,C⟩;rw[show max n m=m by lia] at C ⊢;exact⟨rfl,m,rfl,⋯,zA2 _,C⟩};{show lt (att (mirror _ _ _ _) _) (att (mirror _ _ _ _) _)=false;rw[qaq4 z,qaq4 z,if_pos ⋯,if_pos ⋯];have:=B (n-1-j) (n-1-i) ⋯ ⋯;rw[show Y+(Y+n)-1-(Y+j)=Y+(n-1-j) by lia,show Y+(Y+n)-1-(Y+i)=Y+(n-1-i) by lia];exact this};rintro F z c I ⟨rfl,k,rfl,R,S,C⟩;subst z;exact Lf (h k _ H R S C)
end
theorem qba0(i:Nat):mergeAt' i=(do
 let s<-get
 let (some (p,n,pw),some (q,m,_)):=((Lg s)[i]?,(Lg s)[i+1]?)|unsupported "internal:list.sort.pending"
 set (Lq s (((Lg s).setIfInBounds i (p,n+m,pw)).eraseIdxIfInBounds (i+1)))
 let some k<-gal false (<- elem' (Lj s) q) (Lj s) p n 0|return false
 let (p,n):=(p+k,n-k)
 if n==0 then return true
 let some m<-gal true (<- elem' (Lj s) (p+n-1)) (Lj s) q m (m-1)|return false
 if m==0 then return true
 let x:=(Lj s).extract p q
 let y:=(Lj s).extract q (q+m)
 let r<-if n<=m then mlo x y else mhi x y
 modify λs=>Lp s (r.toList.zipIdx.foldl (λa (z,j)=>a.setIfInBounds (p+j) z) (Lj s))
 return (Lh (<- get)).isNone):=rfl
theorem wr{p:Nat}:∀(L:List Ll)(n:Nat)(a:Array Ll),p+n+L.length<=a.size->((L.zipIdx n).foldl (λ(a:Array Ll)(z:Ll×Nat)=>a.setIfInBounds (p+z.2) z.1) a).toList=a.toList.take (p+n)++L++a.toList.drop (p+n+L.length)
 |[],n,a,_=>by simp|x::L,n,a,h=>by
  rw[zAq] at h;rw[List.zipIdx_cons,M6,wr L (n+1) _ (by rw[Array.size_setIfInBounds];lia),Array.toList_setIfInBounds,<-Nat.add_assoc,zAq,
   List.drop_set_of_lt ⋯,List.take_set,Lx,show a.toList[p+n]?.toList=[att a (p+n)] from ?_,Ms _ _ (by simp;lia),show p+n+1+L.length=p+n+(L.length+1) by lia]
  {simp[show min (p+n) a.size=p+n by lia]};rw[Array.getElem?_toList,qX5 ⋯];rfl
theorem qaC2(h:i+n<j)(b:j<=a.size):att (a.extract i j) n=att a (i+n):=qp3 (by rw[Array.getElem?_extract];rw[if_pos ⋯])
section
variable{prog:K8}{w:La}{A:K9}{E:V'->δ->Prop}{s:δ}{kd:SortKind}{lt:Ll->Ll->Bool}{st:Lm}{a0:Array Ll}
theorem wset(h:Q ⟨⟩ a):wpS (K7 prog w) A E s (set a:StateT Lm Sem PUnit) Q st:=by unfold wpS;rw[StateT.run_set];exact G' ⟨rfl,h⟩
theorem wmat(G:Od lt)(I:Cn prog w A s kd a0 lt)(J:Ln st=kd)(K:Lh st=none)(Y:Lg st = #[(0,n,F),(n,m,pv)])(H:(Lj st).Perm a0)(Z:0<n)(hm:0<m)(hz:n+m=a0.size)(h1:Srt lt (att (Lj st)) n)(h2:Srt lt (λi=>att (Lj st) (n+i)) m)(h:∀u,Lh u=none->Lg u = #[(0,n+m,F)]->(Lj u).toList=Lu ((Lj st).toList.take n) ((Lj st).toList.drop n) (lee lt)->Q true u):wpS (K7 prog w) A E s (mergeAt' 0) Q st:=by
 have a1:(Lj st).size=n+m:=H.size_eq.trans hz.symm;have D:∀i,i<(Lj st).size->att (Lj st) i∈a0.toList:=λi C=>(zBm.mp H).mem_iff.mp (qaC1 C);rw[qba0];refine gB ?_;rw[Y];have ep:(#[(0,n,F),(n,m,pv)].setIfInBounds 0 (0,n+m,F)).eraseIdxIfInBounds (0+1) = #[(0,n+m,F)]:=by simp[Array.eraseIdxIfInBounds]
 refine Ld (wset ?_);rw[ep];refine eB ⋯ (Ld (wgs G I J (D _ ⋯) ⋯ D (λi j a b=>by dsimp only;rw[zAk,zAk];exact h1 i j a b) Z λk S T N=>?_));simp only[zAk] at T N ⊢;have sD:(Lj st).toList.drop n=att (Lj st) n::(Lj st).toList.drop (n+1):=Em ⋯;have O:Lu ((Lj st).toList.take n) ((Lj st).toList.drop n) (lee lt)=(Lj st).toList.take k++Lu (((Lj st).toList.drop k).take (n-k)) ((Lj st).toList.drop n) (lee lt):=by
  rw[<-List.drop_take,<-show ((Lj st).toList.take n).take k=(Lj st).toList.take k by rw[M',zCj S]];conv=>lhs;rw[<-zBg k ((Lj st).toList.take n)]
  rw[sD,Ka (le:=lee lt)];intro x L;rw[M',zCj S] at L;obtain⟨i,U,i2,rfl⟩:=Kc L;exact T i U
 refine wif (λc=>Lf (h _ K rfl ?_)) λc=>?_
 .obtain rfl:k=n:=by simp at c;lia
  rw[O,Nat.sub_self,Na,M9,zBg]
 have c:k<n:=by simp at c;lia
 rw[show k+(n-k)-1=n-1 by lia];refine eB ⋯ (Ld (wgs G I J (D _ ⋯) ⋯ D h2 ⋯ λv v1 v2 v3=>?_));have V:Lu (((Lj st).toList.drop k).take (n-k)) ((Lj st).toList.drop n) (lee lt)=Lu (((Lj st).toList.drop k).take (n-k)) (((Lj st).toList.drop n).take v) (lee lt)++(Lj st).toList.drop (n+v):=by
  conv=>lhs;rw[<-zBg v ((Lj st).toList.drop n)]
  rw[Mt,Hw (le:=lee lt)];intro y W x L;obtain⟨i,U,i2,rfl⟩:=qy4 L;rw[<-zAo (l:=(Lj st).toList.drop (n+v)) (zA2 _)] at W;obtain⟨j,_,j2,rfl⟩:=qy4 W;have e1:=h1 (k+i) (n-1) ⋯ ⋯;have e2:lt (att (Lj st) (n+(v+j))) (att (Lj st) (n-1))=false:=v3 (v+j) ⋯ ⋯;rw[<-Nat.add_assoc] at e2;show (!lt _ _)=true;rw[G.tr _ _ _ e1 e2];rfl
 dsimp only;refine wif (λc=>Lf (h _ K rfl ?_)) λd=>?_
 .obtain rfl:v=0:=by simpa using c
  rw[O,V,Na,M5,Nat.add_zero,<-zAm,<-Nf,show k+(n-k)=n by lia,zBg]
 have d:0<v:=by simp at d;lia
 have P:((Lj st).extract k n).size=n-k:=by rw[Array.size_extract];lia
 have X:((Lj st).extract n (n+v)).size=v:=by rw[Array.size_extract];lia
 have g:∀i,i<n-k->att ((Lj st).extract k n) i=att (Lj st) (k+i):=λi C=>qaC2 ⋯ ⋯;have o:∀i,i<v->att ((Lj st).extract n (n+v)) i=att (Lj st) (n+i):=λi C=>qaC2 ⋯ ⋯;have post:∀(r:Array Ll)(f:Lm),R (Lq st #[(0,n+m,F)]) f->r.toList=Lu ((Lj st).extract k n).toList ((Lj st).extract n (n+v)).toList (lee lt)->wpS (K7 prog w) A E s (do
  modify λs=>Lp s (Me (λ(a:Array Ll)(x:Ll×Nat)=>match x with|(z,j)=>a.setIfInBounds (k+j) z) (Lj s) r.toList.zipIdx)
  let t<-get
  pure (Lh t).isNone) Q f:=by
  intro r f M e;have len:r.toList.length=n-k+v:=by rw[e,List.length_merge,zB7,zB7,P,X]
  refine Ld (Li (gB ?_));show wpS _ _ _ _ (pure (Lh f).isNone) Q _;rw[M.2.2.2];show wpS _ _ _ _ (pure (Lh st).isNone) Q _;rw[K];refine Lf (h _ (M.2.2.2.trans K) M.2.2.1 ?_);show (Me _ (Lj f) _).toList=_;rw[show Lj f=Lj st from M.2.1];have q:=wr (p:=k) r.toList 0 (Lj st) ⋯;rw[Nat.add_zero,len,show k+(n-k+v)=n+v by lia,e,qc8,qc8,show n+v-n=v by lia,zAm,<-V,<-O] at q;rw[e,qc8,qc8,show n+v-n=v by lia];exact q
 refine wif (λ_=>Ld (wmlo G I J (λi C=>?_) (λi C=>?_) (λi j a b=>?_) (λi j a b=>?_) ⋯ ⋯ ?_ (λi C=>?_) post)) λ_=>Ld (wmhi G I J (λi C=>?_) (λi C=>?_) (λi j a b=>?_) (λi j a b=>?_) ⋯ ⋯ (λi C=>?_) ?_ post);{rw[g i ⋯];exact D _ ⋯};{rw[o i ⋯];exact D _ ⋯};{rw[g i ⋯,g j ⋯];exact h1 _ _ ⋯ ⋯};{rw[o i ⋯,o j ⋯];exact h2 _ _ ⋯ ⋯};{rw[g 0 ⋯,o 0 ⋯];simpa[B] using N k (zA2 _) c};{rw[P,g _ ⋯,o i ⋯,show k+(n-k-1)=n-1 by lia];exact v2 i ⋯};{rw[g i ⋯];exact D _ ⋯};{rw[o i ⋯];exact D _ ⋯};{rw[g i ⋯,g j ⋯];exact h1 _ _ ⋯ ⋯};{rw[o i ⋯,o j ⋯];exact h2 _ _ ⋯ ⋯};{rw[g i ⋯,o 0 ⋯];simpa[B] using N (k+i) ⋯ ⋯};rw[P,X,g _ ⋯,o _ ⋯,show k+(n-k-1)=n-1 by lia];exact v2 _ ⋯
end
section
variable{prog:K8}{w:La}{A:K9}{E:V'->δ->Prop}{s:δ}{kd:SortKind}{lt:Ll->Ll->Bool}{st:Lm}{a0:Array Ll}
theorem qaD3(a:Srt lt (λj=>att xs (i+j)) n)(f:i+n<=xs.size):((xs.toList.drop i).take n).Pairwise λx y=>lee lt x y=true:=by
 rw[Ml];intro p q b c d;rw[zBs,zCd,zB7] at b c;have e:∀p (h:p<((xs.toList.drop i).take n).length),((xs.toList.drop i).take n)[p]=att xs (i+p):=λp h=>by rw[M1,M3];rw[zBs,zCd,zB7] at h;simp[att,Array.getD,show i+p<xs.size by lia]
 rw[e,e];show (!lt _ _)=true;rw[a p q ⋯ ⋯];rfl
def Ha(lt:Ll->Ll->Bool)(a0:Array Ll)(st:Lm):Prop:=(Lj st).toList.Perm a0.toList/\(Lj st).toList.Pairwise (λx y=>lee lt x y=true)/\Lh st=none
structure One(lt:Ll->Ll->Bool)(kd:SortKind)(a0:Array Ll)(n:Nat)(st:Lm):Prop where
 pm:(Lj st).Perm a0
 k:Ln st=kd
 f:Lh st=none
 p:Lg st = #[(0,n,0)]
 s:Srt lt (att (Lj st)) n
structure Two(lt:Ll->Ll->Bool)(kd:SortKind)(a0:Array Ll)(n m pw:Nat)(st:Lm):Prop where
 pm:(Lj st).Perm a0
 k:Ln st=kd
 f:Lh st=none
 p:Lg st = #[(0,n,pw),(n,m,0)]
 s:Srt lt (att (Lj st)) n
 t:Srt lt (λi=>att (Lj st) (n+i)) m
theorem One.fin(h:One lt kd a0 n st)(c:n=a0.size):Ha lt a0 st:=by refine⟨zBm.mp h.pm,?_,h.f⟩;have:=qaD3 (λi j a b=>by dsimp only;rw[zAk,zAk];exact h.s i j a b) (by rw[h.pm.size_eq];lia);rwa[L5,zAo (by rw[zB7,h.pm.size_eq];lia)] at this
theorem wrun(D:Od lt)(J:Cn prog w A s kd a0 lt)(T:Ds lt a0)(O:Ln st=kd)(hf:Lh st=none)(P:Lg st = #[])(L:(Lj st).Perm a0)(G:a0.size=64)(h:∀l,Ha lt a0 l->Q () l):wpS (K7 prog w) A E s sortRuns' Q st:=by
 rw[sortRuns'_eq];refine gB ?_;dsimp only;rw[L.size_eq.trans G];have hm:minRun' 64 64 0=32:=rfl;rw[hm];refine fB (λx c l=>(x=0/\c=(none,0)/\l=st)∨(x=1/\∃n,c=(none,n)/\32<=n/\n<=64/\One lt kd a0 n l)∨(2<=x/\c=(none,64)/\∃n m B,n+m=64/\0<n/\0<m/\Two lt kd a0 n m B l)) (λc l=>c=(none,64)/\(One lt kd a0 64 l∨∃n m B,n+m=64/\0<n/\0<m/\Two lt kd a0 n m B l)) ?_ ?_ (.inl ⟨rfl,rfl,rfl⟩) ?_
 .rintro F z x c u-hx (⟨rfl,rfl,rfl⟩|⟨rfl,n,rfl,I,n2,o⟩|⟨x2,rfl,n,m,B,e,I,R,o⟩) K p q<;>subst z
  .dsimp only;refine wif (λc=>absurd c ⋯) λ_=>?_;have S:Bt a0 0 u u:=⟨rfl,rfl,rfl,L,λ_ _=>rfl⟩;refine Ld (wcnt D J T O ⋯ ⋯ S λn r C I n2 M=>?_);have fin:∀k g,Bt a0 0 u g->32<=k->k<=64->Srt lt (λi=>att (Lj g) (0+i)) k->One lt kd a0 k (Lq g ((Lg g).push (0,k,0))):=λk g v _ _ H=>
    ⟨v.pm,v.kd.trans O,v.fl.trans hf,by show (Lg g).push _=_;rw[v.pd,P];rfl,λi j a b=>by have:=H i j a b;dsimp only at this;rwa[zAk,zAk] at this⟩
   refine wif (λc=>?_) λc=>?_;{refine rB ?_;refine Ld (wbin D J O ⋯ ⋯ I C M λg v H=>?_);refine wif (λc=>by cases c) λ_=>?_;refine gB ?_;rw[show (Lg g).back?=none by rw[v.pd,P];rfl];exact Ld (Li (Lf (q _ _ (.inr (.inl ⟨rfl,_,rfl,⋯,⋯,fin _ g v ⋯ ⋯ H⟩)))))};refine gB ?_;rw[show (Lg r).back?=none by rw[C.pd,P];rfl];exact Ld (Li (Lf (q _ _ (.inr (.inl ⟨rfl,_,rfl,⋯,⋯,by rw[zAk];exact fin _ r C ⋯ ⋯ M⟩)))))
  .dsimp only;refine wif (λc=>?_) λc=>?_;{obtain rfl:n=64:=⋯;exact Lf (p _ _ ⟨rfl,.inl o⟩)};have S:Bt a0 n u u:=⟨rfl,rfl,rfl,o.pm,λ_ _=>rfl⟩;refine Ld (wcnt D J T o.k ⋯ ⋯ S λk r C k1 k2 M=>?_);have U:∀q g,Bt a0 n u g->q=64-n->Srt lt (λi=>att (Lj g) (n+i)) q->∀B,Two lt kd a0 n q B (Lq (Lq g ((Lg g).modify ((Lg g).size-1) λx=>(x.fst,x.2.fst,B))) (((Lg g).modify ((Lg g).size-1) λx=>(x.fst,x.2.fst,B)).push (n,q,0))):=λq g v hq H B=>
    ⟨v.pm,v.kd.trans o.k,v.fl.trans o.f,by show ((Lg g).modify _ _).push _=_;rw[v.pd,o.p];rfl,λi j a b=>by show lt (att (Lj g) j) (att (Lj g) i)=false;rw[v.pr i ⋯,v.pr j b];exact o.s i j a b,H⟩
   have N:∀g,Bt a0 n u g->(Lg g).back?=some (0,n,0)/\¬(Lg g).size>1:=λg v=>by rw[v.pd,o.p];exact⟨rfl,zC3 1⟩
   refine wif (λd=>?_) λd=>?_;{refine rB ?_;refine Ld (wbin D J o.k ⋯ ⋯ k1 C M λg v H=>?_);refine wif (λc=>by cases c) λ_=>?_;refine gB ?_;rw[(N g v).1];refine fB (λx c l=>l=g/\c=(none,())) (λc l=>l=g/\c=(none,())) ?_ (λ_ _ h=>h) ⟨rfl,rfl⟩ ?_;{rintro F z x c y - - ⟨rfl,rfl⟩ K p q;subst z;refine gB ?_;rw[if_neg (N y v).2];exact Lf (p _ _ ⟨rfl,rfl⟩)};rintro F z c y ⟨rfl,rfl⟩;subst z;exact Ld (Li (Ld (Li (Lf (q _ _ (.inr (.inr ⟨zA2 2,by rw[show n+min (64-n) 32=64 by lia],n,_,_,⋯,⋯,⋯,U _ y v ⋯ H _⟩)))))))};refine gB ?_;rw[(N r C).1];refine fB (λx c l=>l=r/\c=(none,())) (λc l=>l=r/\c=(none,())) ?_ (λ_ _ h=>h) ⟨rfl,rfl⟩ ?_;{rintro F z x c y - - ⟨rfl,rfl⟩ K p q;subst z;refine gB ?_;rw[if_neg (N y C).2];exact Lf (p _ _ ⟨rfl,rfl⟩)};rintro F z c y ⟨rfl,rfl⟩;subst z;exact Ld (Li (Ld (Li (Lf (q _ _ (.inr (.inr ⟨zA2 2,by rw[show n+k=64 by lia],n,_,_,⋯,⋯,⋯,U _ y C ⋯ M _⟩)))))))
  dsimp only;exact wif (λ_=>Lf (p _ _ ⟨rfl,.inr ⟨n,m,B,e,I,R,o⟩⟩)) λc=>absurd (zA2 _) c
 {rintro c u (⟨V,_⟩|⟨V,_⟩|⟨x2,rfl,o⟩);{lia};{lia};exact⟨rfl,.inr o⟩};rintro F z c u ⟨rfl,o⟩;subst z;refine fB (λx c l=>c=(none,())/\(x=0/\l=u∨Ha lt a0 l/\(Lg l).size<=1)) (λc l=>c=(none,())/\Ha lt a0 l) ?_ ?_ ⟨rfl,.inl ⟨rfl,rfl⟩⟩ ?_;{rintro F t x c r - - ⟨rfl,⟨rfl,rfl⟩|⟨f,z⟩⟩ K W q'<;>subst t;{refine gB ?_;rcases o with o|⟨n,m,B,e,I,R,o⟩;{rw[if_pos (by rw[o.p];exact zA2 1)];exact Lf (W _ _ ⟨rfl,o.fin G.symm⟩)};rw[o.p];refine wif (λc=>absurd c (by simp)) λ_=>?_;refine Ld (wmat D J o.k o.f o.p o.pm I R ⋯ o.s o.t λg f3 p3 X=>?_);refine Lf (q' _ _ ⟨rfl,.inr ⟨⟨?_,?_,f3⟩,by rw[p3];exact zA2 1⟩⟩);{rw[X];have q:=List.merge_perm_append (le:=lee lt) (xs:=(Lj r).toList.take n) (ys:=(Lj r).toList.drop n);rw[zBg] at q;exact q.trans (zBm.mp o.pm)};rw[X];have sz:(Lj r).size=64:=o.pm.size_eq.trans G;refine List.pairwise_merge (λa b c Y Z=>?_) (λa b=>?_) _ _ ?_ ?_;{simp only[Bool.not_eq_true',lee] at Y Z ⊢;exact D.tr _ _ _ Y Z};{cases q:lt b a with|false=>simp[lee,q]|true=>simp[lee,q,D.as _ _ q]};{have:=qaD3 (i:=0) (n:=n) (xs:=Lj r) (λi j a b=>by dsimp only;rw[zAk,zAk];exact o.s i j a b) ⋯;rwa[L5] at this};have:=qaD3 o.t ⋯;rwa[zAo (by rw[zCd,zB7];lia)] at this};refine gB ?_;rw[if_pos z];exact Lf (W _ _ ⟨rfl,f⟩)};{rintro c r ⟨rfl,⟨V,_⟩|⟨f,z⟩⟩;{lia};exact⟨rfl,f⟩};rintro F z c r ⟨rfl,f⟩;subst z;exact Lf (h r f)
end
noncomputable def plt(p q:Int×Int):Bool:=decide (p.1<q.1∨p.1=q.1/\p.2<q.2)
def TP(h:Heap)(v:V')(p:Int×Int):Prop:=∃b t u o n,v=.ref b/\h.get? b=some o/\o.cls=.type "tuple" /\ o.data=.seq #[.int p.1 t,.int p.2 u] n
section
variable{prog:K8}{w:La}{A:K9}{E:V'->δ->Prop}{s:δ}{kd:SortKind}{lt:Ll->Ll->Bool}{X:Lm}{U:Array Ll}
theorem wrunS(D:Od lt)(G:Cn prog w A s kd U lt)(I:Ds lt U)(u:Ln X=kd)(J:Lh X=none)(v:Lg X = #[])(t:(Lj X).Perm U)(h2:2<=U.size)(y:U.size<64)(h:∀d,Ha lt U d->Q () d):wpS (K7 prog w) A E s sortRuns' Q X:=by
 rw[sortRuns'_eq];refine gB ?_;obtain⟨f,L⟩:∃f,U.size=f+1:=⟨U.size-1,⋯⟩;have M:minRun' U.size U.size 0=U.size:=by
  conv=>lhs;rw[show minRun' U.size=minRun' (f+1) by rw[L]]
  rw[minRun'_succ,if_pos y];rfl
 dsimp only;rw[t.size_eq,M];refine fB (λx c d=>(x=0/\c=(none,0)/\d=X)∨(1<=x/\c=(none,U.size)/\One lt kd U U.size d)) (λc d=>c=(none,U.size)/\One lt kd U U.size d) ?_ ?_ (.inl ⟨rfl,rfl,rfl⟩) ?_
 .rintro F z x c l-R (⟨rfl,rfl,rfl⟩|⟨N,rfl,o⟩) K p q<;>subst z
  .dsimp only;refine wif (λc=>absurd c ⋯) λ_=>?_;have O:Bt U 0 l l:=⟨rfl,rfl,rfl,t,λ_ _=>rfl⟩;refine Ld (wcnt D G I u ⋯ ⋯ O λn m B P S H=>?_);have fin:∀k g,k=U.size->Bt U 0 l g->Srt lt (λi=>att (Lj g) (0+i)) k->One lt kd U U.size (Lq g ((Lg g).push (0,k,0))):=λk g e r C=>
    ⟨r.pm,r.kd.trans u,r.fl.trans J,by show (Lg g).push _=_;rw[r.pd,v,e];rfl,λi j a b=>by have:=C i j a ⋯;dsimp only at this;rwa[zAk,zAk] at this⟩
   refine wif (λc=>?_) λc=>?_;{refine rB ?_;refine Ld (wbin D G u ⋯ ⋯ P B H λg r C=>?_);refine wif (λc=>by cases c) λ_=>?_;refine gB ?_;rw[show (Lg g).back?=none by rw[r.pd,v];rfl];exact Ld (Li (Lf (q _ _ (.inr ⟨⋯,by rw[show 0+min (U.size-0) U.size=U.size by lia],fin _ g ⋯ r C⟩))))};refine gB ?_;rw[show (Lg m).back?=none by rw[B.pd,v];rfl];exact Ld (Li (Lf (q _ _ (.inr ⟨⋯,by rw[show 0+n=U.size by lia],fin _ m ⋯ B H⟩))))
  dsimp only;exact wif (λ_=>Lf (p _ _ ⟨rfl,o⟩)) λc=>absurd (zA2 _) c
 {rintro c l (⟨T,_⟩|⟨N,rfl,o⟩);{lia};exact⟨rfl,o⟩};rintro F z c l ⟨rfl,o⟩;subst z;refine fB (λx c d=>c=(none,())/\d=l) (λc d=>c=(none,())/\d=l) ?_ (λ_ _ h=>h) ⟨rfl,rfl⟩ ?_;{rintro F z x c m - - ⟨rfl,rfl⟩ K p q;subst z;refine gB ?_;rw[if_pos (by rw[o.p];exact zA2 1)];exact Lf (p _ _ ⟨rfl,rfl⟩)};rintro F z c m ⟨rfl,rfl⟩;subst z;exact Lf (h m (o.fin rfl))
theorem cmpP{q:Int×Int}(f:TP s.heap x p)(g:TP s.heap y q)(h:Q (plt p q) s):K6 (K7 prog w) A (keyLt' (tuples' true) x y) Q E s:=by obtain⟨b,t,u,o,n,rfl,i,_,j⟩:=f;obtain⟨c,m,v,B,C,rfl,k,_,l⟩:=g;have z:∀r:Bool,r=plt p q->Q r s:=λr e=>e ▸ h;refine W.kat_lt i j k l (W.kat_cons (wpAny_eqBool_int (W.kat_go (λa=>W.kat_yes (W.kat_cons (wpAny_eqBool_int (W.kat_go (λd=>W.kat_yes (W.kat_nil (z _ ?_))) λd=>W.kat_no (W.kat_one _ _ (lt_int (z _ ?_))))))) λa=>W.kat_no (oneLt_int (z _ ?_)))));{simp at a d;simp[plt,a,d]};{simp at a d;simp[plt,a]};simp at a;simp[plt,a]
theorem TP.keep(t:TP h v p)(k:∀b o,h.get? b=some o->o.cls=.type "tuple" -> h'.get? b=some o):TP h' v p:=by obtain⟨b,t,u,o,n,rfl,c,a,d⟩:=t;exact⟨b,t,u,o,n,rfl,k _ _ c a,a,d⟩
end
def kl(kf:V'->Int×Int)(x y:Ll):Bool:=plt (kf x.1) (kf y.1)
theorem kl_od(kf:V'->Int×Int):Od (kl kf):=⟨λx y h=>by simp[kl,plt] at h ⊢;lia,λx y z a b=>by simp[kl,plt] at a b ⊢;lia⟩
section
variable{prog:K8}{w:La}{A:K9}{E:V'->δ->Prop}{s:δ}
theorem kl_ds(c:(vs.map kf).Nodup):Ds (kl kf) (pairsOf vs):=by unfold Ds;rw[pairsOf_toList,show vs.zip vs=vs.map λv=>(v,v) by induction vs with|nil=>rfl|cons v vs d=>simp at c;rw[List.zip_cons_cons,d c.2];rfl,zBx];unfold List.Nodup at c;rw[zBx] at c;refine c.imp λ{a b} h=>?_;have e:¬((kf a).1=(kf b).1/\(kf a).2=(kf b).2):=λq=>h (Prod.ext q.1 q.2);simp only[kl,plt,zBc];lia
theorem qas5(i:s.heap.get? a=some (seqObj "list" vs.toArray n))(D:vs.length<=64)(l:(vs.map kf).Nodup)(F:∀h',(∀b o,s.heap.get? b=some o->o.cls=.type "tuple" -> h'.get? b=some o)->2<=vs.length->(∀(Q':SortKind->δ->Prop),Q' kd {s with heap:=h'}->K6 (K7 prog w) A (keyKind' vs.toArray) Q' E {s with heap:=h'})/\Cm prog w A {s with heap:=h'} kd (λx=>x.1∈vs) (kl kf))(h:∀g:List V',g.Perm vs->(g.map kf).Pairwise (λp q=>plt q p=false)->P (.done (.ret .none)) {s with heap:=sortedHeap s.heap a vs g.toArray}):K6 (K7 prog w) A (Builtin.«list.sort» ⟨[.ref a],[]⟩) P E s:=by
 have G:vs.toArray.size=vs.length:=zA3;have la:a<s.heap.objs.size:=zAe i;obtain⟨m,r⟩:∃e,(s.heap.update a (Obj.mapSeq λ_=>#[])).get? a=some (seqObj "list" #[] e):=⟨_,get?_update_seq i λ_=>#[]⟩;have u:(((s.heap.update a (Obj.mapSeq λ_=>#[])).push (seqObj "tuple" vs.toArray 0)).push (seqObj "list" #[] 0)).get? a=some (seqObj "list" #[] m):=zA4 _ (zA4 _ r);have H:∀b o,s.heap.get? b=some o->o.cls=.type "tuple" -> (((s.heap.update a (Obj.mapSeq λ_=>#[])).push (seqObj "tuple" vs.toArray 0)).push (seqObj "list" #[] 0)).get? b=some o:=λb o q I=>by
  have J:b≠a:=λz=>by rw[z,i] at q;cases q;simp at I
  exact zA4 _ (zA4 _ (by rw[Heap.get?_update_ne _ _ _ _ J];exact q))
 rw[list_sort_plain];refine E' (listItems_at i rfl (E' (listUpdate_at i rfl (E' (seqEpoch_at r rfl (E' (wpAny_newTuple (E' (wpAny_newList (Ko ?_) (zBf _))) (by show vs.length<=_;rw[Kt];lia))))) (by rw[G,Kt];lia) (zBf _))));show K6 (K7 prog w) A _ P E {s with heap:=((s.heap.update a (Obj.mapSeq λ_=>#[])).push (seqObj "tuple" vs.toArray 0)).push (seqObj "list" #[] 0)};have last:∀d:Lm,(Lj d).toList.Perm (pairsOf vs).toList->(Lj d).toList.Pairwise (λx y=>lee (kl kf) x y=true)->Lh d=none->P (.done (.ret .none)) {s with heap:=sortedHeap s.heap a vs ((Lj d).map (·.2))}/\((Lj d).map (·.2)).size<=Kl+1:=λd j K _=>by
  rw[pairsOf_toList] at j;have B:∀p∈(Lj d).toList,p.1=p.2:=λp L=>(mem_zip_self (j.mem_iff.mp L)).1;have e2:((Lj d).map (·.2))=((Lj d).toList.map (·.2)).toArray:=Array.toList_inj.mp (by rw[Array.toList_map]);have pv:((Lj d).toList.map (·.2)).Perm vs:=by have:=j.map Prod.snd;rwa[List.map_snd_zip (zA2 _)] at this
  rw[e2];refine⟨h _ pv ?_,by rw[zA3,pv.length_eq,Kt];lia⟩;rw[zC2,zBx];refine(List.Pairwise.and_mem.mp K).imp λ{x y} ⟨M,N,q⟩=>?_;show plt (kf y.2) (kf x.2)=false;rw[<-B x M,<-B y N];simpa[lee,kl] using q
 have tail:∀d:Lm,Ha (kl kf) (pairsOf vs) d->K6 (K7 prog w) A (do
  let t:=(<- seqEpoch a) != m
  Builtin.List.listUpdate (.ref a) λ_=>(Lj d).map (·.2)
  if let some e:=Lh d then rule "list.sort.comparison-raised";throw e
  if t then rule "list.sort.modified";raiseError "ValueError" "list modified during sort"
  ret .none) P E {s with heap:=((s.heap.update a (Obj.mapSeq λ_=>#[])).push (seqObj "tuple" vs.toArray 0)).push (seqObj "list" #[] 0)}:=λd f=>by
  have z:=last d f.1 f.2.1 f.2.2;refine E' (seqEpoch_at u rfl (E' (listUpdate_at u rfl ?_ (zBf _) z.2)));rw[f.2.2];simp only[bne_self_eq_false,Bool.false_eq_true,if_false];exact G' z.1
 by_cases c:vs.toArray.size<2;{rw[if_pos c,if_pos c];refine E' (G' ?_);dsimp only;rw[StateT.run_pure];refine E' (G' (tail (SortSt.mk' general' (vs.toArray.zip vs.toArray) #[] 7 none) ⟨List.Perm.refl _,?_,rfl⟩));show (pairsOf vs).toList.Pairwise _;rw[pairsOf_toList];match vs,c with|[],_=>exact .nil|[v],_=>simp|_::_::_,c=>simp at c;lia};rw[if_neg c,if_neg c];obtain⟨O,Q⟩:=F _ H ⋯;refine E' (O _ ?_);have C:Cn prog w A {s with heap:=((s.heap.update a (Obj.mapSeq λ_=>#[])).push (seqObj "tuple" vs.toArray 0)).push (seqObj "list" #[] 0)} kd (pairsOf vs) (kl kf):=λx y R S=>Q x y (mem_zip_self (pairsOf_toList vs ▸ R)).2 (mem_zip_self (pairsOf_toList vs ▸ S)).2;have k:wpS (K7 prog w) A E {s with heap:=((s.heap.update a (Obj.mapSeq λ_=>#[])).push (seqObj "tuple" vs.toArray 0)).push (seqObj "list" #[] 0)} sortRuns' (λ_ d=>Ha (kl kf) (pairsOf vs) d) (SortSt.mk' kd (vs.toArray.zip vs.toArray) #[] 7 none):=by rcases Nat.lt_or_ge vs.length 64 with q|q;{exact wrunS (kl_od kf) C (kl_ds l) rfl rfl rfl (Array.Perm.refl _) (by rw[pairsOf_size];lia) (by rw[pairsOf_size];exact q) λ_ f=>f};exact wrun (kl_od kf) C (kl_ds l) rfl rfl rfl (Array.Perm.refl _) (by rw[pairsOf_size];lia) λ_ f=>f
 refine E' (Kx k ?_ λ_ _ e=>e);rintro⟨⟨⟩,d⟩ T ⟨rfl,f⟩;exact tail d f
theorem sorted6{l:γ}(g:s.heap.IsList l vs.toArray)(d:vs.length<=64)(i:(vs.map kf).Nodup)(j:∀(A:K9)(E:V'->δ->Prop) h',(∀b o,s.heap.get? b=some o->o.cls=.type "tuple" -> h'.get? b=some o)->2<=vs.length->(∀(Q':SortKind->δ->Prop),Q' kd {s with heap:=h'}->K6 (K7 prog w) A (keyKind' vs.toArray) Q' E {s with heap:=h'})/\Cm prog w A {s with heap:=h'} kd (λx=>x.1∈vs) (kl kf))(h:∀a:List V',a.Perm vs->(a.map kf).Pairwise (λp q=>plt q p=false)->Q (.ref (s.heap.objs.size+1)) {s with heap:=sortedAll s.heap vs a.toArray}):K6 (K7 prog w) A (call (.builtin "sorted") [.ref l]) Q E s:=by
 refine Calls.call_function_entry kind_sorted plain_sorted entry_sorted (args_sorted1 _) ?_;unfold Builtin.«sorted»;refine E' (G' (E' (collect_list g (E' (wpAny_newList ?_ (by rw[Kt];lia))) (by rw[Kt];lia))));have e:((s.heap.push (seqObj "list" #[] 0)).update s.heap.objs.size (Obj.mapSeq (·++vs.toArray))).objs.size=s.heap.objs.size+1:=by rw[Heap.size_update,size_push']
 have f:(((s.heap.push (seqObj "list" #[] 0)).update s.heap.objs.size (Obj.mapSeq (·++vs.toArray))).push (seqObj "list" vs.toArray 0)).get? (s.heap.objs.size+1)=some (seqObj "list" vs.toArray 0):=by rw[<-e];exact zAy _ rfl
 have m:∀b o,s.heap.get? b=some o->(((s.heap.push (seqObj "list" #[] 0)).update s.heap.objs.size (Obj.mapSeq (·++vs.toArray))).push (seqObj "list" vs.toArray 0)).get? b=some o:=λb o q=>
  zA4 _ (by rw[Heap.get?_update_ne _ _ _ _ (zAs (zAe q))];exact zA4 _ q)
 rw[e];exact E' (Ko (wpAny_call_entry slot_list_sort ⟨_,f,rfl⟩ entry_list_sort (qas5 f d i (λh' k c=>j _ _ h' (λb o q n=>k b o (m _ _ q) n) c) λa r t=>⟨_,rfl,(G' ⟨_,rfl,h a r t⟩)⟩) (args_list_sort _)))
end
end S6
namespace LV
open PySem L2 PyProof.Rows
variable{ps:List (Int×Int)}
abbrev Eb(ps:List (Int×Int)):List (Int×Int):=ps.mergeSort λp q=>!S6.plt q p
def PrA(H:Hp)(v:V)(p:Int×Int):Prop:=∃b,v=.ref b/\H b=some (.q [.int p.1,.int p.2])
noncomputable def kfh(h:Heap):V'->Int×Int
 |.ref b=>match h.get? b with|some o=>(match o.data with|.seq xs _=>(numOf (xs.getD 0 .none),numOf (xs.getD 1 .none))|_=>(0,0))|none=>(0,0)
 |_=>(0,0)
theorem qba4(t:S6.TP h v p):kfh h v=p:=by obtain⟨b,t,u,o,n,rfl,a,d,c⟩:=t;simp only[kfh,a,c];rfl
noncomputable def vOf:V'->V|.ref b=>.ref b|_=>.non
section
variable{X:Cx}{Dg:List (γ×Obj)}{σ:List (Option V)}{H:Hp}{s:δ}
theorem qaO6(I:Ox X Dg σ H s)(r:Ov vs its)(t:Paired (PrA H) vs ps):its.map (kfh s.heap)=ps/\∀u∈its,S6.TP s.heap u (kfh s.heap u)/\∃b,u=.ref b/\H b=some (.q [.int (kfh s.heap u).1,.int (kfh s.heap u).2]):=by
 induction t generalizing its with
 |nil=>cases r;exact⟨rfl,nofun⟩|@cons v p vs ps h t f=>
  cases r with
  |@cons _ u _ its ru rt=>
   obtain⟨b,rfl,c⟩:=h;cases ru;obtain⟨w,q,⟨o,g,i,n,j⟩,_⟩:=I.tuple (.inl (.inl c));have d:S6.TP s.heap (.ref b) p:=by obtain⟨x,y,rfl,⟨t1,rfl⟩,t2,rfl⟩:=Ov.two q;exact⟨b,t1,t2,o,n,rfl,g,i,j⟩
   have e:=qba4 d;obtain⟨k,l⟩:=f rt;refine⟨by rw[zAz,e,k],λu a=>?_⟩;rcases zAl.mp a with rfl|a;{rw[e];exact⟨d,b,rfl,c⟩};exact l u a
theorem qaz3{h:Heap}:∀{a:List V'},(∀u∈a,∃b,u=.ref b/\H b=some (.q [.int (kfh h u).1,.int (kfh h u).2]))->Ov (a.map vOf) a/\Paired (PrA H) (a.map vOf) (a.map (kfh h))|[],_=>⟨.nil,.nil⟩|u::a,k=>by obtain⟨b,rfl,d⟩:=k u zA9;have c:=qaz3 λv e=>k v (zA6 _ e);exact⟨.cons rfl c.1,.cons ⟨b,rfl,d⟩ c.2⟩
theorem qX8{h:Heap}{kf:V'->Int×Int}:∀{its:List V'},(∀u∈its,S6.TP h u (kf u))->∃fs,W.KatTups h its fs/\fs.length=its.length/\∀f∈fs,∃i t,f=Nk i t|[],_=>⟨[],trivial,rfl,nofun⟩|u::its,k=>by obtain⟨fs,f1,f2,f3⟩:=qX8 λv c=>k v (zA6 _ c);obtain⟨b,t,w,o,n,rfl,d,e,g⟩:=k u zA9;refine⟨Nk _ t::fs,W.KatTups.cons d e g rfl f1,by rw[zAq,f2];rfl,λf a=>?_⟩;rcases zAl.mp a with rfl|a;{exact⟨_,_,rfl⟩};exact f3 f a
theorem qah8(ps:List (Int×Int)):(Eb ps).Pairwise λp q=>S6.plt q p=false:=by
 refine(List.pairwise_mergeSort (λa b c d e=>?_) (λa b=>?_) ps).imp λ{a b} h=>by simpa using h
 {simp[S6.plt] at d e ⊢;lia};simp[S6.plt];lia
theorem qaD6(d:c.Perm ps)(e:c.Pairwise λp q=>S6.plt q p=false):c=Eb ps:=by refine List.Perm.eq_of_pairwise (le:=λp q=>S6.plt q p=false) (λa b _ _ f g=>?_) e (qah8 ps) (d.trans (Mv _ _).symm);simp[S6.plt] at f g;exact Prod.ext ⋯ ⋯
def qaN2(K:Nx):List V->Hp->VK->Prop:=λxs H Q=>∃a vs ps,xs=[.ref a]/\SqL K H a vs/\Paired (PrA H) vs ps/\ps.Nodup/\ps.length<=64/\∀l b,H l=none->Paired (PrA H) b (Eb ps)->Q (.ref l) (upd H l (.l b))
theorem qaq0:CallR X (.builtin "sorted") (qaN2 X.K):=by
 intro Dg s σ H S U Q I r h;obtain⟨a,V,Y,rfl,B,t,C,Z,q⟩:=h;obtain⟨u,rfl,D⟩:=By r;cases D;obtain⟨f,F,G,hz⟩:=I.list B;obtain⟨j,g⟩:=qaO6 I F t;have J:f.length<=64:=by have:=congrArg Lv j;rw[zAa] at this;lia
 refine S6.sorted6 (kd:=tuples' true) G.isList J (by rw[j];exact C) (λA E h' k c=>⟨λQ' l=>?_,λx y L M E Q l=>?_⟩) λd m N=>?_;{obtain⟨fs,f1,f2,f3⟩:=qX8 λu n=>(g u n).1.keep k;refine W.kat_kind (T:=.type "int") f1 ⋯ (λv O=>?_) rfl l;obtain⟨i,t,rfl⟩:=f3 v O;exact W.Looks.of_pure rfl};{exact S6.cmpP ((g _ L).1.keep k) ((g _ M).1.keep k) l};obtain⟨P,p⟩:=qaz3 λu n=>(g u (m.mem_iff.mp n)).2;obtain⟨e,R⟩:=sortedAll_at s.heap f d.toArray;rw[(qaD6 (j ▸ m.map _) N)] at p;refine⟨.ref _,_,I.laid (λb o z=>sortedAll_old z) (Nat.le_succ _) (show ObjOk X.prog X.w _ _ _ (.l (d.map vOf)) from⟨?_,d,e,P,R⟩),rfl,q _ _ (I.hok.fresh (Nat.le_succ _)) p⟩;rw[zAa,m.length_eq,Kt];lia
noncomputable def Iu:D->Option (Int×Int)|.q [.int a,.int b]=>some (a,b)|_=>none
noncomputable def prD2(p:Int×Int):D:=.q [.int p.1,.int p.2]
def qaB4(x:D):Option D:=match x with|.l _ ys=>(ys.mapM Iu).bind λps=>gd (ps.Nodup/\ps.length<=64) (.l false ((Eb ps).map prD2))|_=>none
theorem qaj7:∀{ys:List D}{ps:List (Int×Int)},ys.mapM Iu=some ps->ys=ps.map prD2|[],ps,h=>by cases h;rfl|y::ys,ps,h=>by rw[Nb] at h;obtain⟨p,a,h⟩:=zA1.mp h;obtain⟨c,b,h⟩:=zA1.mp h;cases h;rw[zAz,qaj7 b];congr 1;unfold Iu at a;split at a;{cases a;rfl};cases a
theorem qaO7{F:γ->Prop}{H:Hp}:∀{ps:List (Int×Int)}{vs:List V}{A:List γ},Oo F H vs (ps.map prD2) A->Paired (PrA H) vs ps|[],_,_,r=>by cases r;exact .nil|p::ps,_,_,r=>by cases r with|cons h t=>obtain⟨a,d,rfl,e,r⟩:=h.tup_inv;obtain⟨v,w,_,_,rfl,b,c,_⟩:=r.two_inv;rw[b.int_inv,c.int_inv] at e;exact .cons ⟨_,rfl,e⟩ (qaO7 t)
theorem qaF0{H:Hp}(t:Paired (PrA H) a ps):Oo F H a (ps.map prD2) []:=by induction t with|nil=>exact .nil|cons h t c=>obtain⟨b,rfl,d⟩:=h;exact .cons (.q d (.cons (.int _) (.cons (.int _) .nil))) c
theorem qaK2{K:Nx}:CS1 true (qaN2 K) qaB4:=by intro F H v x B d Q r h q;cases x with|l z n=>obtain⟨c,e,f⟩:=zA1.mp h;obtain⟨⟨g,i⟩,rfl⟩:=qk9 f;cases qaj7 e;obtain⟨a,j,A,rfl,k,m,_⟩:=r.lst_inv;exact⟨a,j,c,rfl,.inl (.inl k),qaO7 m,g,i,λl o b t=>q _ _ [l] (qD4 b (qaF0 t)) (Same.new b) (qh8 b)⟩|_=>cases h
end
theorem qZ8{F:γ->Prop}{H:Hp}:∀ns:List Int,Oo F H (ns.map V.int) (ns.map D.int) []|[]=>.nil|n::ns=>.cons (A:=[]) (B:=[]) (.int n) (qZ8 ns)
end LV
namespace LV
open PySem L2
mutual
def D.plain:D->Bool|.q ds=>D.plains ds|.l z ds=>!z&&D.plains ds|.non=>true | .bl _=>true | .int _=>true | .str _=>true|_=>false
def D.plains:List D->Bool|[]=>true|d::r=>d.plain&&D.plains r
end
end LV
namespace LV
open PySem L2 PyProof.Rows
section
variable{c:Vc}{X:Cx}{e:Lb}{o n:VT}{s:VSp}
def tOrT(o n:VT):VT:=λds Q xe=>o ds Q xe∨n ds Q xe
theorem eAlt(g:VE c X e o)(i:VE c X e n):VE c X e (tOrT o n):=by refine⟨λDg s l H Q I b=>?_,λd Q Q' f k j a=>Ol (g.m _ _ _ _ _ j a) (i.m _ _ _ _ _ j a)⟩;obtain⟨F,d,A,f,S,a,q⟩:=b;rcases q with q|q;{exact g.h Dg s l H Q I ⟨F,d,A,f,S,a,q⟩};exact i.h Dg s l H Q I ⟨F,d,A,f,S,a,q⟩
end
end LV
namespace LV
open PySem L2 PyProof.Rows
theorem qba9{k:Key}{u:V'}(h:E9 k u=true):Ou (kV k) u:=by rcases qc7 h with⟨i,t,rfl,rfl⟩|⟨x,t,rfl,rfl⟩;{exact⟨t,rfl⟩};exact⟨t,rfl⟩
noncomputable def keyD:Key->D|.inl i=>.int i|.inr x=>.str x
end LV
namespace L2
open PySem PySem.Spec PyProof.Rows
section
variable{X:Cx}{j:List (γ×Obj)}{i:St}{H H':Hp}{s:δ}{h':Heap}
theorem Ox.many{t':Nat}(I:Ox X j i H s)(k:∀b u,s.heap.get? b=some u->h'.get? b=some u)(a:Same H H')(d:∀b o,H b=none->H' b=some o->s.heap.objs.size<=b/\ObjOk X.prog X.w H' h' b o):Ox X j i H' {s with heap:=h',toks:=t'}:=by refine I.un ⟨λb u q _ _ _=>k b u q,λb u q _ _ _=>⟨u.slots,k b u q⟩,λb u q n _=>?_,λb u q _=>⟨u,k b u q⟩,λb f q=>a b _ q,λb u f q=>a b _ q,λb g q=>⟨#[],by rw[a b _ q];simp⟩⟩ λb u e=>?_;{cases z:H' b with|none=>rfl|some o=>exact absurd (zAe q) (Nat.not_lt.mpr (d b o n z).1)};cases z:H b with|none=>exact(d b u z e).2|some o=>have:=a b o z;rw[e] at this;cases this;exact(I.hok b u z).stay (λc v _ q=>k c v q) (λc q=>a c _ q) λc f q=>a c _ q
end
def qaN3:V->List V->Hp->VK->Prop:=λx vs H Q=>∃a kvs,x=.ref a/\vs=[]/\Rd H a (.dK kvs)/\∀p,H p=none->Q (.ref p) (upd H p (.ext λh=>h.IsItemsView p a))
theorem qaH2{X:Cx}:MtM X "dict.items" qaN3:=by intro Dg s y H x f v r Q I j k h;obtain⟨a,l,rfl,rfl,m,q⟩:=h;cases j;have d:=k.zero;subst d;obtain⟨z,n,f,rel,g⟩:=Gi I.hok m;refine call_meetsIn Oa g.typeIs F.entry_dict_items (F.args_dict_items_1 _) (meets_dict_items (qg2 X.prog X.w) a n) ⟨⟨f,g⟩,?_⟩;have i:=zAy s.heap (o:={cls:=.type "dict_items",data:=.fields #[.ref a]}) rfl;refine⟨.ref _,_,I.laid (λb o e=>zA4 _ e) (zA2 _) (show ObjOk X.prog X.w _ _ _ (.ext λh=>h.IsItemsView s.heap.objs.size a) from⟨⟨_,i,rfl,rfl⟩,⟨_,i⟩,λt u ⟨o,e,c⟩ p=>⟨o,p o e,c⟩⟩),rfl,q _ (I.hok.fresh (zA2 _))⟩
def PrK(H:Hp)(w:V)(a:Key×V):Prop:=∃b,w=.ref b/\H b=some (.q [kV a.1,a.2])
def qaX0:List V->Hp->VK->Prop:=λxs H Q=>∃p a kvs,xs=[.ref p]/\H p=some (.ext λh=>h.IsItemsView p a)/\Rd H a (.dK kvs)/\∀l b H2,Same H H2->H l=none->H2 l=some (.l b)->Paired (PrK H2) b kvs->Q (.ref l) H2
theorem qaM9{b:List γ}(h:b.Pairwise (· < ·)){i j:Nat}{a:γ}(hi:b[i]?=some a)(c:b[j]?=some a):i=j:=by obtain⟨e,d⟩:=zA5.mp hi;obtain⟨f,e2⟩:=zA5.mp c;exact(Mm (h.imp λh=>zAs h)).mp (d.trans e2.symm)
theorem qak7{H2:Hp}:∀{d:List γ}{kvs:List (Key×V)},d.length=kvs.length->(∀(j:Nat)(a:γ)(c:Key×V),d[j]?=some a->kvs[j]?=some c->H2 a=some (.q [kV c.1,c.2]))->Paired (PrK H2) (d.map V.ref) kvs|[],[],_,_=>.nil|a::d,c::kvs,hl,h=>.cons ⟨a,rfl,h 0 a c rfl rfl⟩ (qak7 (Nat.succ.inj hl) λj b e f g=>h (j+1) b e f g)|[],_::_,hl,_=>by cases hl|_::_,[],hl,_=>by cases hl
theorem KV_at{kvs:List (Key×V)}{vs:List (Key×V')}(r:KV kvs vs):∀{j:Nat}{a:Key×V}{k:Key}{x:V'},kvs[j]?=some a->vs[j]?=some (k,x)->a.1=k/\Ou a.2 x:=by induction r with|nil=>intro j a k x h;cases h|cons d t e=>intro j a k x b c;cases j with|zero=>cases b;cases c;exact d|succ j=>exact e b c
theorem qaq1{X:Cx}(R:X.calm=true):CallR X (.type "list") qaX0:=by
 intro Dg s σ H xs us Q I r h;obtain⟨p,a,f,rfl,S,T,q⟩:=h;obtain⟨u,rfl,U⟩:=By r;cases U;obtain⟨hz,lo,M,rel,Y⟩:=Gi I.hok T;obtain⟨N,D⟩:=Y.dictAt;have hl:f.length=M.length:=rel.length;refine W.kdx_call (knd:=qg2 X.prog X.w) (kvs:=M) (ep:=N) (I.ok.hd R) (show ObjOk X.prog X.w H s.heap p (.ext λh=>h.IsItemsView p a) from I.hok p _ S).1 D ⋯ λh' Z E c' g kp e a0 G v=>?_;have F:∀b,s.heap.objs.size<=b->H b=none:=λb n=>I.hok.fresh n;let t:γ->Option HO:=λb=>(Lr f.length).findSome? λj=>if g[j]?=some b then (f[j]?).map λc=>HO.q [kV c.1,c.2] else none
 let H2:Hp:=λb=>if b=s.heap.objs.size then some (.l (g.map V.ref)) else match H b with|some o=>some o|none=>t b
 have tbAt:∀(j:Nat)(b:γ)(c:Key×V),g[j]?=some b->f[j]?=some c->t b=some (.q [kV c.1,c.2]):=λj b c l m=>by have hj:=(zA5.mp m).1;cases B:t b with|none=>have:=List.findSome?_eq_none_iff.mp B j (zAr.mpr hj);rw[if_pos l,m] at this;cases this|some o=>obtain⟨i,hi,d⟩:=List.exists_of_findSome?_eq_some B;by_cases z:g[i]?=some b;{rw[if_pos z] at d;have:=qaM9 G.rise z l;subst this;rw[m] at d;exact d.symm};rw[if_neg z] at d;cases d
 have tbIn:∀b o,t b=some o->∃(j:Nat)(c:Key×V),g[j]?=some b/\f[j]?=some c/\o=.q [kV c.1,c.2]:=λb o B=>by obtain⟨i,hi,d⟩:=List.exists_of_findSome?_eq_some B;by_cases z:g[i]?=some b;{rw[if_pos z] at d;obtain⟨c,l,m⟩:=zA7.mp d;exact⟨i,c,z,l,m.symm⟩};rw[if_neg z] at d;cases d
 have O:Same H H2:=λb o z=>by
  have C:b≠s.heap.objs.size:=λe=>by rw[e,F _ (zA2 _)] at z;cases z
  show (if b=s.heap.objs.size then _ else _)=_;rw[if_neg C,z]
 have y:H2 s.heap.objs.size=some (.l (g.map V.ref)):=if_pos rfl;have J:∀(j:Nat)(b:γ)(c:Key×V),g[j]?=some b->f[j]?=some c->H2 b=some (.q [kV c.1,c.2]):=λj b c l m=>by have n:=G.above b (zB8 l);show (if b=s.heap.objs.size then _ else _)=_;rw[if_neg (Nat.ne_of_gt n),F b (zBa n)];exact tbAt j b c l m
 refine⟨.ref _,H2,I.many (t':=Z) kp O (λb o n d=>?_),rfl,q _ _ H2 O (F _ (zA2 _)) y (qak7 ⋯ J)⟩;by_cases C:b=s.heap.objs.size;{subst C;rw[y] at d;cases d;refine⟨zA2 _,by rw[zAa];lia,E.toList,c',?_,by simpa using e⟩;rw[v];exact LV.qaC5 (by rw[zAa,zAa]) λi x u A K=>by rw[zBd] at A K;cases z:g[i]? with|none=>rw[z] at A;cases A|some b=>rw[z] at A K;cases A;cases K;rfl};have d:(match H b with|some o=>some o|none=>t b)=some o:=by have:(if b=s.heap.objs.size then some (HO.l (g.map V.ref)) else match H b with|some o=>some o|none=>t b)=some o:=d;rwa[if_neg C] at this
 rw[n] at d;obtain⟨j,c,l,m,rfl⟩:=tbIn b o d;obtain⟨L,k,x,h3,h4,h5⟩:=G.pairs j b l;refine⟨zBa (G.above b (zB8 l)),by show 2<=Kl;decide,[L,x],?_,⟨_,h5,rfl,_,rfl⟩⟩;have P:=KV_at rel m h3;rw[P.1];exact .cons (LV.qba9 h4) (.cons P.2 .nil)
theorem qaF3{X:Cx}{o:Lb}{to:TE}{apos cpos:Pos}(e:PE X o to)(hbase:Ks o "items" X.env (eval o X.env)=eval o X.env:=by rfl)(hline:(apos.endLine==cpos.line)=true:=by rfl):PE X (.Call (.Attribute o "items" apos) [] [] cpos) (λj H Q=>to j H λx H1=>qaN3 x [] H1 Q):=by intro Dg s j H Q I h;refine wpAny_Call_method0_late hbase hline (thn (e Dg s j H _ I h) λv f b=>?_);obtain⟨x,H1,I1,g,d⟩:=b;obtain⟨a,c,rfl,_,i,q⟩:=id d;cases g;obtain⟨t1,t2,_⟩:=qaS3 I1 (.inl ⟨c,i⟩);exact⟨"dict", "dict.items",N9,Oa,F.type_dict_items,t1,t2,Calls.callWith_builtin rfl (PySem.evalArgs_none (qaH2 Dg f j H1 (.ref a) [] (.ref a) [] Q I1 rfl .nil d))⟩
def qay9:V->List V->Hp->VK->Prop:=λx vs H Q=>∃(l:γ)(ns:List Int)(k:Int),x=.ref l/\vs=[.int k]/\H l=some (.l (ns.map V.int))/\k∈ns/\Q .non (upd H l (.l ((ns.erase k).map V.int)))
theorem qaa7{k:Int}:∀{ns:List Int},k∈ns->∃j,ns[j]?=some k/\(∀(m:Nat)(x:Int),m<j->ns[m]?=some x->x≠k)/\ns.eraseIdx j=ns.erase k|y::ns,h=>by by_cases e:y=k;{subst e;exact⟨0,rfl,λm x a=>absurd a (zCk _),by rw[List.erase_cons_head];rfl⟩};obtain⟨j,c,d,f⟩:=qaa7 ((zAl.mp h).resolve_left λz=>e z.symm);refine⟨j+1,c,λm x a b=>?_,by rw[List.erase_cons_tail (by simpa using e),<-f];rfl⟩;cases m with|zero=>cases b;exact e|succ m=>exact d m x ⋯ b
theorem qau0:MtM X "list.remove" qay9:=by
 intro Dg s U H x R v S Q I J K h;obtain⟨l,d,k,rfl,rfl,D,L,q⟩:=h;cases J;obtain⟨u,rfl,M,rfl⟩:=K.one;obtain⟨z,b,n,r,T,e⟩:=I.lstM D;have f:=r.length;rw[zAa] at f;have g:∀m (c:m<b.length),∃t,b[m]=Nk (d[m]'⋯) t:=λm c=>by obtain⟨w,E,t,rfl⟩:=r.get (i:=m) (x:=.int (d[m]'⋯)) (by simp[show m<d.length by lia]);exact⟨t,by rw[zBl c] at E;exact Nv E⟩
 let G:V'->Bool:=λy=>match y with | .int i _=>i==k|_=>false
 obtain⟨j,N,p,A⟩:=qaa7 L;obtain⟨O,B⟩:=zA5.mp N;have o:∀m (c:m<b.toArray.size),G b.toArray[m]=(d[m]'(by simp at c;lia)==k):=λm c=>by
  obtain⟨t,e⟩:=g m (by simpa using c);have e:b.toArray[m]=Nk (d[m]'(by simp at c;lia)) t:=by simpa using e
  rw[e]
 refine Kz N6 ⟨_,e,rfl⟩ F.entry_list_remove (F.args_list_remove_2 _ _) (MeetsSeq.list_remove l b.toArray n (.int k M) G (λy P=>?_) j (by simp;lia) ?_ (λm c C=>?_) (by rw[zA3];lia)) ⟨e,?_⟩;{obtain⟨m,c,rfl⟩:=List.getElem_of_mem (by simpa using P:y∈b);obtain⟨t,e⟩:=g m c;rw[e];exact MeetsSeq.EqGives.int _ _ _ _};{rw[o];simp[B]};{rw[o];exact beq_false_of_ne (p m _ C (by simp[show m<d.length by simp at c;lia]))};refine⟨.non,_,I.lset (its':=b.eraseIdx j) D e (by simp) ?_ ?_,rfl,q⟩;{rw[<-A,show (d.eraseIdx j).map V.int=(d.map V.int).eraseIdx j from by simp[List.eraseIdx_eq_take_drop_succ,Mj,Nd]];exact r.eraseIdx _};rw[zAa];have:=List.length_erase_le (a:=k) (l:=d);lia
end L2
namespace LV
open PySem L2 PyProof.Rows
def gRem(ys xs:Ds):Option (Ds×D):=match xs with|[.int k]=>(intsD ys).bind λa=>if k∈a then some ((a.erase k).map D.int,.non) else none|_=>none
theorem qaN0{ys xs:Ds}{z:Ds×D}(h:gRem ys xs=some z):∃k ns,xs=[.int k]/\intsD ys=some ns/\k∈ns/\z=((ns.erase k).map D.int,.non):=by unfold gRem at h;split at h;{rename_i k;obtain⟨ns,c,a⟩:=zA1.mp h;by_cases b:k∈ns;{rw[if_pos b] at a;exact⟨k,ns,rfl,c,b,(Nv a).symm⟩};rw[if_neg b] at a;cases a};cases h
theorem qaZ5:Fv qay9 gRem:=by intro F H a n o Ael p s T f d Q g r i h q;obtain⟨k,j,rfl,l,m,e⟩:=qaN0 h;cases e;obtain⟨w,rfl,c⟩:=i.one_inv;obtain rfl:=c.int_inv;cases r.intsD l;exact⟨a,j,k,rfl,rfl,g,m,q _ .non [] [] (qZ8 _) .non λb=>by simp⟩
def qaT7(x:D):Option D:=match x with|.dct _ a=>gd (D.imms (a.map (·.2))=true) (.l false (a.map λkd=>.q [keyD kd.1,kd.2]))|_=>none
theorem qP4{F:γ->Prop}{H:Hp}:∀{c:List V}{kvs:List (Key×V)}{a:List (Key×D)},kvs.map (·.1)=a.map (·.1)->Oo F H (kvs.map (·.2)) (a.map (·.2)) []->Paired (PrK H) c kvs->Oo F H c (a.map λkd=>.q [keyD kd.1,kd.2]) []
 |[],[],[],_,_,_=>.nil|w::c,(k,v)::kvs,(k',d)::a,h,r,.cons ⟨b,hb,eb⟩ t=>by obtain⟨e,f⟩:=List.cons.inj h;subst (e);subst hb;have r:=r;generalize g:([]:List γ)=N at r;cases r with|@cons _ _ B _ _ B' r1 t1=>obtain⟨rfl,rfl⟩:=List.append_eq_nil_iff.mp g.symm;refine .cons (.q eb (.cons (A:=[]) ?_ (.cons r1 .nil))) (qP4 f t1 t);cases k with|inl i=>exact .int i|inr x=>exact .str x
 |[],_::_,_,_,_,t=>nomatch t|_::_,[],_,_,_,t=>nomatch t|_,[],_::_,h,_,_=>nomatch h|_,_::_,[],h,_,_=>nomatch h
theorem qaL2{c:Vc}{X:Cx}{o:Lb}{oa:Bool}{fa:FV}{p pos apos cpos:Pos}(hm:X.mg "list"=none)(u:VV c X o oa fa)(w:X.calm=true:=by rfl)(y:Gl X "list" := by rfl)(hbase:Ks o "items" X.env (eval o X.env)=eval o X.env:=by rfl)(hline:(apos.endLine==cpos.line)=true:=by rfl)(m:J' [.Call (.Attribute o "items" apos) [] [] cpos] X.env=(false,eval (.Call (.Attribute o "items" apos) [] [] cpos) X.env)::J' [] X.env:=by rfl)(i:(backTo pos (J' [] X.env)).any (·.1)=false:=by rfl):VV c X (.Call (.Name "list" p) [.Call (.Attribute o "items" apos) [] [] cpos] [] pos) true (f1 qaT7 fa):=by
 refine⟨PE.mono (cty (qaq1 w) hm (qc1 (qaF3 u.h hbase hline) qm1 m) y rfl ∅ ∅ m i) λO H Q j=>?_⟩;obtain⟨F,B,A,d,S,e,q⟩:=j;obtain⟨x,C,e2⟩:=qav8.mp e;cases x with
 |dct z D=>
  obtain⟨E,rfl⟩:=qk9 e2;refine⟨F,B,A,_,S,C,λv H1 B1 G n _=>?_⟩;obtain⟨a,b,A2,rfl,r,I,J,_⟩:=G.dct_inv;refine⟨a,b,rfl,rfl,.inl r,λp K=>?_⟩;have g:Same H1 (upd H1 p (.ext λh=>h.IsItemsView p a)):=Same.new K;refine⟨p,a,b,rfl,qb8,.inl (g _ _ r),λl N H2 s t L M=>?_⟩;have f:H1 l=none:=by cases z:H1 l with|none=>rfl|some o=>rw[g l o z] at t;cases t
  have k:H l=none:=by cases z:H l with|none=>rfl|some o=>rw[n l o z] at f;cases f
  exact q _ H2 [l] (.l L (qP4 I ((J.imms0 E).same (g.trans s)) M)) ((n.trans g).trans s) λ_=>qh8 k
 |_=>cases e2
end LV
namespace LV
open PySem L2
def tSlN(i:Nat)(tb:VT):VT:=λds Q xe=>(rdN i ds).isSome=true/\tb ds (λy ds1=>orF y.asI λh=>orF ((rdN i ds1).bind λx=>if noT x=true then gSl x none (some h) else none) λd=>Q d ds1) xe
theorem eslN(i:Nat)(k:VE c X b tb)(t:X.N[i]?=some x:=by rfl)(j:Vis X.env.scope x:=by first|exact Oj rfl|exact Oi (Oj rfl)|exact Oi (Oi rfl))(G:N' x:=by decide)(l:(x==("__classdict__" : Str))=false:=by decide):VE c X (.Subscript (.Name x p0) (.Slice none (some b) none p2) pos) (tSlN i tb):=by
 refine⟨λDg s σ H Q I n=>?_,λu Q Q' C J K e=>Nu (k.m _ _ _ _ _ (λd f=>qa5 λh=>qa5 λz=>K z f) e)⟩;obtain⟨F,u,A,C,S,x,L,q⟩:=n;refine qU9 qah9 (qm0 t j G l) qaj9 (qaj8 k.h) Dg s σ H Q I ?_;have D:=qi8 t Dg σ H s I;obtain⟨W,o⟩:=zB1.mp L;obtain⟨v,B0,j,_,_⟩:=S.name D o;refine⟨v,j,F,u,A,C,S,x,k.m _ _ _ _ _ (λY f q w H1 F1 T A1 M S1 Z O=>?_) (λ_ _ z=>z) q⟩;have p:Oy F H A F1 H1 A1:=O.count λb=>by rw[zA0];lia
 obtain⟨h,P,q⟩:=qa7.mp q;obtain⟨d,a,q⟩:=qa7.mp q;obtain⟨y,R,a⟩:=zA1.mp a;obtain⟨v',B,g,U,_⟩:=S1.name D R;rw[j] at g;cases g;by_cases e:noT y=true;{rw[if_pos e] at a;refine⟨h,M.asI P,os_sl U a (λys z=>by subst z;cases e) λw H' B' V r E=>?_⟩;exact q w H' F1 B' A1 V (S1.same r) (S1.new E r) (p.trans (E.stp r))};rw[if_neg e] at a;cases a
section
variable{c:Vc}{X:Cx}{o:Lb}{ta:VT}{own:Bool}{g:FV}{Y Z:Pos}{qual m:Str}{st:Lc}{f C:γ}{fd:ε}{ps:List Str}{k:Nat}{s:VSp}
def qax9(C:γ)(m:Str)(s:VSp)(ta:VT):VT:=λds Q xe=>ta ds (λd ds1=>d.isM C m=true/\s [d] (λr ys=>orF (Al [.no] ys ds1) λa=>Q r a) (λx ys=>orF (Al [.no] ys ds1) λa=>xe x a)) xe
theorem qaU6{pl:Sem Bool}(D:Md X.K C m qual st f fd ps)(u:Cls X.K C)(G:Ej cm X.prog X.w X.K X.mg X.base k f fd ps s)(y:Lands X c.E)(B:O0 cm k X.A)(e:VE c X o ta)(I:eval (.Call (.Attribute o m Z) [] [] Y) X.env=(do
 let ov<-eval o X.env
 standAt Z.atName
 let (f,first)<-holding [ov] (getMethod ov m pl)
 callWith Y f first (backTo Y (J' [] X.env)) (backToKw Y (Kw [] X.env))):=by rfl):VE c X (.Call (.Attribute o m Z) [] [] Y) (qax9 C m s ta):=by refine⟨PE.mono (qK5 e.h u D.me G.ok B D.b .nil y.passes I) λW H Q g=>?_,λn Q Q' p J L r=>e.m _ _ _ _ _ (λd i=>Nu (G.m _ _ _ _ _ (λd M=>qa5 λz=>L _ _) (λx M=>qa5 λz=>r _ _))) r⟩;obtain⟨F,n,A,p,S,x,q⟩:=g;refine⟨F,n,A,p,S,x,e.m _ _ _ _ _ (λd i ⟨N,q⟩ v H1 F1 T A1 t S1 O P=>?_) (λ_ _ z=>z) q⟩;obtain⟨a,R,U,rfl,j,l⟩:=t.isM N;refine⟨a,R,U,rfl,j,l,?_⟩;refine qaq2 qo8 G.m S x (.cons t .nil) (.no .nil) S1 (by rw[zAc];exact O) (by rw[zAc];exact P) (λd V h=>h) q
theorem qaU5{pl:Sem Bool}(D:Md X.K C m qual st f fd ps)(a:Cls X.K C)(G:Ej cm X.prog X.w X.K X.mg X.base k f fd ps s)(b:Lands X c.E)(d:O0 cm k X.A)(e:VV c X o own g)(h:eval (.Call (.Attribute o m Z) [] [] Y) X.env=(do
     let ov<-eval o X.env
     standAt Z.atName
     let (f,first)<-holding [ov] (getMethod ov m pl)
     callWith Y f first (backTo Y (J' [] X.env)) (backToKw Y (Kw [] X.env))):=by rfl):VE c X (.Call (.Attribute o m Z) [] [] Y) (qax9 C m s (B8 g)):=qaU6 D a G b d (qb4 e) h
end
end LV
namespace L2
open PySem PySem.Spec PyProof.Rows
theorem O0.u64(a:O0 cm k A):A.units+64<cLine:=a.units
end L2
namespace LV
open PySem L2
abbrev VH:=Exn->VTS
def spP0(g:D->Option D):Sp:=λvs H Q _=>∃F u d a A w,vs=[u]/\Ow F H u a A/\g a=some d/\d.flat=some w/\Q w H
section
variable{c:Vc}{X:Cx}{Y W:Pos}{m Z:Str}{st:Lc}{f C:γ}{fd:ε}{ps:List Str}{k:Nat}{g:D->Option D}
def fP0(C:γ)(m:Str)(g:D->Option D)(i:Nat):FV:=λds=>(rdN i ds).bind λx=>if x.isM C m=true then (g x).bind λd=>d.flat.map λ_=>d else none
theorem qaL1{pl:Sem Bool}(i:Nat){xn:Str}{p0:Pos}(D:Md X.K C m Z st f fd ps)(y:Cls X.K C)(G:Du X.prog X.w X.K X.mg X.base CX0 k f fd ps (spP0 g))(B:Room k X.A)(r:X.N[i]?=some xn:=by rfl)(E:Vis X.env.scope xn:=by first|exact Oj rfl|exact Oi (Oj rfl)|exact Oi (Oi rfl))(J:N' xn:=by decide)(h:(xn==("__classdict__" : Str))=false:=by decide)(L:eval (.Call (.Attribute (.Name xn p0) m W) [] [] Y) X.env=(do
 let ov<-eval (.Name xn p0) X.env
 standAt W.atName
 let (f,first)<-holding [ov] (getMethod ov m pl)
 callWith Y f first (backTo Y (J' [] X.env)) (backToKw Y (Kw [] X.env))):=by rfl):VV c X (.Call (.Attribute (.Name xn p0) m W) [] [] Y) true (fP0 C m g i):=by refine⟨λDg s V H Q I j=>?_⟩;obtain⟨F,T,A,d,S,e,q⟩:=j;refine qK5 (qm0 r E J h) y D.me G B D.b .nil Jk L Dg s V H Q I ?_;obtain⟨x,M,e⟩:=zA1.mp e;by_cases l:x.isM C m=true;{rw[if_pos l] at e;obtain⟨U,O,e⟩:=zA1.mp e;obtain⟨w,t,e⟩:=zA7.mp e;cases e;obtain⟨v,B0,n,u,_⟩:=S.name (qi8 r Dg V H s I) M;obtain⟨a,P,R,rfl,o,p⟩:=u.isM l;exact⟨.ref a,n,a,P,R,rfl,o,p,F,_,_,x,B0,w,rfl,u,O,t,q w H [] (Ow.ofFlat t) (λ_ _ z=>z) λ_=>New.nil⟩};rw[if_neg l] at e;cases e
end
end LV
namespace LV
open PySem L2
variable{pos:Pos}{rest:List Lc}{t:VTS}
section
variable{c:Vc}{X:Cx}{F:γ->Prop}{H:Hp}{Y:St}{ds:Ds}{A:List γ}{i j:Nat}{p:List Nat}{d:D}{w:V}
theorem qaJ1(h:i≠j):A4 (ds.set j d) i p=A4 ds i p:=by unfold A4;rw[zBj (Ne.symm h)]
def backN(j i:Nat)(p:List Nat)(w:V)(K:Ds->Prop)(ds:Ds):Prop:=∃d,ds[j]?=some d/\d≠.u/\A4 ds i p=some (.hole w)/\K (Bd (ds.set j .u) i p d)
theorem backN.mono{K K':Ds->Prop}(h:∀ds,K ds->K' ds)(q:backN j i p w K ds):backN j i p w K' ds:=let ⟨d,a,b,e,z⟩:=q;⟨d,a,b,e,h _ z⟩
noncomputable def backE(j i:Nat)(p:List Nat)(w:V)(e:VEnds):VEnds:=⟨backN j i p w e.nx,λd=>backN j i p w (e.rt d),backN j i p w e.bk,backN j i p w e.ct,λx=>backN j i p w (e.xe x)⟩
theorem backE.le{e a:VEnds}(h:e.Le a):(backE j i p w e).Le (backE j i p w a):=⟨λ_=>backN.mono h.nx,λd _=>backN.mono (h.rt d),λ_=>backN.mono h.bk,λ_=>backN.mono h.ct,λx _=>backN.mono (h.xe x)⟩
theorem Oz.back(S:Oz c F H Y ds A)(e:i≠j)(g:(Y++c.gv)[j]?=some (some w)){K:Ds->Prop}(h:backN j i p w K ds):∃a A',K a/\Locs F H (Y++c.gv) a A'/\∀b,A'.count b=A.count b:=by obtain⟨d,l,m,n,k⟩:=h;obtain⟨v,B,C,f,r,o,q⟩:=S.put1 l m;rw[g] at f;cases f;obtain⟨A1,L1,s⟩:=q .u [] (Kp.same λ_ _ z=>z) (λ_ _ z=>z) (.u _);obtain⟨u,t,B',C',g1,g2,g3,g4,g5⟩:=L1.place (by rw[qaJ1 e];exact n) (by intro z;cases z);cases g3;obtain⟨A2,L2,q2⟩:=g5 d B (Kp.same λ_ _ z=>z) (λ_ _ z=>z) r;exact⟨_,A2,k,L2,λb=>by have:=g4 b;rw[s] at this;rw[q2,o];simp at this ⊢;lia⟩
theorem qaA5{F:γ->Prop}{H H1:Hp}{σ1:St}{ds1:Ds}{A A1:List γ}{e:VEnds}{E:Ee}(y:i≠j)(I:c.W j=false)(S:Oz c F H1 σ1 ds1 A1)(z:(σ1++c.gv)[j]?=some (some w))(B:Oy F H A F H1 A1)(l:Lk c E F H A e)(q:t (backE j i p w e) ds1):Ek ⟨c.E,λk=>c.W k||k==j,σ1++c.gv,c.gv⟩ t E σ1 H1:=by
 refine⟨F,ds1,A1,backE j i p w e,⟨S.loc,S.ok,rfl,λ_ _=>rfl⟩,?_,q⟩;have fin:∀{g Y' H2 F' A' T K},backN j i p w K g->Oz ⟨c.E,λk=>c.W k||k==j,σ1++c.gv,c.gv⟩ F' H2 Y' g A'->Ok F' H2 (T++A')->Oy F H1 A1 F' H2 (T++A')->∃f A2,K f/\Oz c F' H2 Y' f A2/\Ok F' H2 (T++A2)/\Oy F H A F' H2 (T++A2):=λ{g Y' H2 F' A' T K} b S' D s=>by
  obtain⟨f,A2,k,L,G⟩:=S'.back y (by rw[S'.ag j (by simp)];exact z) b;have n:∀b,(T++A2).count b<=(T++A').count b:=λb=>by rw[zA0,zA0,G];exact zA2 _
  have u:=D.count n;exact⟨f,A2,k,⟨L,u.right,S.len.trans S'.len,λm C=>(S'.ag m (by simp[C])).trans (S.ag m C)⟩,u,B.trans (s.count n)⟩
 refine⟨λg Y' H' F' A' q S' s=>?_,λd g v Y' H' F' T A' q r S' o s=>?_,λg Y' H' F' A' q S' s=>?_,λg Y' H' F' A' q S' s=>?_,λx g Y' a H' F' A' q r S' s=>?_⟩;{obtain⟨f,A2,k,S2,_,h⟩:=fin (T:=[]) q S' S'.ok s;exact l.nx _ _ _ _ _ k S2 h};{obtain⟨f,A2,k,S2,u,h⟩:=fin q S' o s;exact l.rt _ _ _ _ _ _ _ _ k r S2 u h};{obtain⟨f,A2,k,S2,_,h⟩:=fin (T:=[]) q S' S'.ok s;exact l.bk _ _ _ _ _ k S2 h};{obtain⟨f,A2,k,S2,_,h⟩:=fin (T:=[]) q S' S'.ok s;exact l.ct _ _ _ _ _ k S2 h};obtain⟨f,A2,k,S2,_,h⟩:=fin (T:=[]) q S' S'.ok s;exact l.xe _ _ _ _ _ _ _ k r S2 h
theorem qay8(h:∀av,VSs ⟨c.E,λk=>c.W k||k==j,av,c.gv⟩ X rest t):PSs X rest (λE Y H=>Ek ⟨c.E,λk=>c.W k||k==j,Y++c.gv,c.gv⟩ t E Y H):=λDg s Y H E I q=>(h (Y++c.gv)).h Dg s Y H E I q
theorem Oz.dig{u:V}(S:Oz c F H Y ds A)(f:A4 ds i p=some d)(g:d≠.u)(h:(Y++c.gv)[i]?=some (some u))(j:Walk H u p w):∃B A0,Ow F H w d B/\Oz c F H Y (Bd ds i p (.hole w)) A0/\Ok F H (B++A0)/\∀b,(B++A0).count b=A.count b:=by
 obtain⟨B,C,r,k,l⟩:=S.place f g h j;obtain⟨A0,L0,m⟩:=l (.hole w) [] (Kp.same λ_ _ z=>z) (λ_ _ z=>z) (.hole _);have a:∀b,(B++A0).count b=A.count b:=λb=>by rw[zA0,m,k];simp
 have e:Ok F H (B++A0):=S.ok.count λb=>zCi (a b);exact⟨B,A0,r,⟨L0,e.right,S.len,S.ag⟩,e,a⟩
def sLoan(j:Nat)(pf:PF)(t:VTS):VTS:=λe ds=>orF (pf ds) λa=>a.1≠j/\∃d,A4 ds a.1 a.2=some d/\d≠.u/\∀w,t (backE j a.1 a.2 w e) ((Bd ds a.1 a.2 (.hole w)).set j d)
theorem Kd(j:Nat){x:Str}{e:Lb}{pf:PF}{pos':Pos}(J:X.N.Nodup)(K:VP c X e pf)(h:∀av,VSs ⟨c.E,λk=>c.W k||k==j,av,c.gv⟩ X rest t)(z:c.W j=false:=by rfl)(hi:X.N[j]?=some x:=by rfl)(L:Loc X.env.scope x:=by first|exact Oj rfl|exact Oi rfl)(b:swapsWith e (some (.Name x pos')) pos.line X.env=pure false:=by rfl)(M:X.fn x=true∨X.env.scope.names.lookup x=some .local:=by first|exact .inl rfl|exact .inr rfl|assumption):VSs c X (.Assign [.Name x pos'] e pos::rest) (sLoan j pf t):=by refine⟨λDg s Y H E I q=>?_,λe U C O=>qa5 λV ⟨a,d,g,n,q⟩=>⟨a,d,g,n,λw=>(h []).m _ _ _ (backE.le O) (q w)⟩⟩;have f:j<Y.length:=qi8 hi Dg Y H s I;refine qC4 (qaE7 J hi L K.h b M) (qay8 h) Dg s Y H E I ?_;obtain⟨F,C,A,e,S,l,q⟩:=q;obtain⟨⟨i,p⟩,o,v,d,D,G,q⟩:=qa7.mp q;refine⟨F,C,A,i,p,d,S,o,D,G,λu w H' P Q b=>?_⟩;obtain⟨B,A0,r,S0,R,y⟩:=(S.same b).dig D G P Q;obtain⟨A1,S1,T⟩:=S0.store z f r R;exact qaA5 v z S1 (by rw[zAn (by rw[zBk];exact f),zBn f]) ((Oy.same b).trans (T.pre y)) l (q w)
end
section
variable{prog:K8}{w:La}{A:K9}{E:V'->δ->Prop}
open PyProof.Rows in
theorem qab2{it l:γ}{its:Array V'}(a:l≠it):∀(n i:Nat)(s:δ)(Q:List V'->δ->Prop),s.heap.IsListIter it l i->s.heap.IsList l its->i+n<=its.size->(∀h',h'.IsListIter it l (i+n)->Heap.SameBut it s.heap h'->Q ((its.toList.drop i).take n) {s with heap:=h'})->K6 (K7 prog w) A (draw (.ref it) n) Q E s|0,i,s,Q,hi,_,_,hQ=>G' (hQ s.heap hi (Heap.SameBut.refl ..))|n+1,i,s,Q,hi,hl,hle,hQ=>by have b:i<its.size:=⋯;refine E' (wpAny_pyNext_list_item hi hl (x:=its[i]) (by simp[b]) λh d c=>E' (Ko (qab2 a n (i+1) _ _ d (hl.extBut c.extBut a) ⋯ λe f g=>G' ?_)));have:=hQ e (by rw[show i+(n+1)=i+1+n by lia];exact f) (c.trans g);rw[show its.toList.drop i=its[i]::its.toList.drop (i+1) by simp[zC4,b],List.take_succ_cons] at this;exact this
open PyProof.Rows in
theorem qac9{s:δ}{l:γ}{its:Array V'}{tg:List (Bool×(V'->Sem Unit))}{Q:Unit->δ->Prop}(i:A.handled=none)(a:s.heap.IsList l its)(j:tg.length=its.size)(c:tg.findIdx? (·.1)=none)(h:∀h',Heap.ExtBut s.heap.objs.size s.heap h'->K6 (K7 prog w) A (assignInOrder (tg.map (·.2)) its.toList) Q E {s with heap:=h'}):K6 (K7 prog w) A (unpack (.ref l) tg) Q E s:=by
 have d:l≠s.heap.objs.size:=by obtain⟨o,k,_⟩:=a;exact zAs (zAe k)
 unfold unpack;rw[j,c];refine E' (Ko ?_);unfold unpackItems notIterableAtAll;refine E' (E' (wpAny_specialOf a.typeIs slot_list_iter.lookup (G' ?_)));refine E' (Ko (wpAny_pyIter_list a (E' (Ko (qab2 d its.size 0 _ _ ⟨_,zAy _ rfl,rfl,rfl⟩ (a.push _) ⋯ λp m f=>?_)))));rw[L5,zAo (by simp),if_neg (by simp)];refine E' (Ko (wpAny_pyNext_list_end i m ((a.push _).extBut f.extBut d) (by simp) λn e2=>G' (h n λb o g e=>e2 b o g (f.extBut b o g (zA4 _ e)))))
end
def gLstT(n:Nat)(t:TGs):TG:=λv b H Q=>∃a xs,v=.ref a/\H a=some (.l xs)/\xs.length=n/\t xs b H Q
theorem qaX6{X:Cx}{es:List Lb}{k pos}{t:TGs}{n:Nat}(f:X.calm=true)(h:PGs X es t)(g:(K4 es X.env).length=n:=by rfl)(c:(K4 es X.env).findIdx? (·.1)=none:=by rfl):PG X (.Tuple es k pos) (gLstT n t):=by rintro Dg s z H v u Q I r ⟨a,i,rfl,j,l,q⟩;cases r;obtain⟨m,d,p,x⟩:=I.list (.inl (.inl j));rw[PyProof.Rows.assign_Tuple];refine E' (wpAny_standAt (qac9 (I.ok.hd f) p.isList (by rw[g,<-l,d.length];simp) c λy w=>?_));exact h Dg _ z H i _ Q (I.kept (t':=s.toks) λb o e=>w b o (zAs (zAe e)) e) (by simpa using d) q
section
variable{c:Vc}{X:Cx}
def sUnl(i f a g:Nat)(t:VTS):VTS:=λe ds=>∃b c d,ds[i]?=some (.l false [b,c,d])/\b.imm=true/\d.imm=true/\c≠.u/\i≠a/\∀w,t (backE a i [1] w e) ((((Bd ds i [1] (.hole w)).set f b).set a c).set g d)
theorem sunl(i v d x:Nat){f j o y:Str}{p0 p1 p2 G O:Pos}{k}(P:X.N.Nodup)(hc:X.calm=true)(h:∀av,VSs ⟨c.E,λk=>c.W k||k==d,av,c.gv⟩ X rest t)(hy:VP c X (.Name y G) λ_=>some (i,[]))(n0:v≠d:=by decide)(n2:x≠d:=by decide)(W0:c.W v=false:=by rfl)(W1:c.W d=false:=by rfl)(W2:c.W x=false:=by rfl)(i0:X.N[v]?=some f:=by rfl)(i1:X.N[d]?=some j:=by rfl)(i2:X.N[x]?=some o:=by rfl)(l0:Loc X.env.scope f:=by first|exact Oj rfl|exact Oi rfl)(l1:Loc X.env.scope j:=by first|exact Oj rfl|exact Oi rfl)(l2:Loc X.env.scope o:=by first|exact Oj rfl|exact Oi rfl)(f0:X.fn f=true∨X.env.scope.names.lookup f=some .local:=by first|exact .inl rfl|exact .inr rfl|assumption)(f1:X.fn j=true∨X.env.scope.names.lookup j=some .local:=by first|exact .inl rfl|exact .inr rfl|assumption)(f2:X.fn o=true∨X.env.scope.names.lookup o=some .local:=by first|exact .inl rfl|exact .inr rfl|assumption)(J:swapsWithSole [.Tuple [.Name f p0,.Name j p1,.Name o p2] k O] (.Name y G) pos.line X.env=pure false:=by rfl)(Q:swappedStores [.Tuple [.Name f p0,.Name j p1,.Name o p2] k O] (.Name y G) X.env=pure none:=by rfl):VSs c X (.Assign [.Tuple [.Name f p0,.Name j p1,.Name o p2] k O] (.Name y G) pos::rest) (sUnl i v d x t):=by
 refine⟨λDg s σ H E I q=>?_,λe e' K hl ⟨R,L,T,a,b,z,g,n,q⟩=>⟨R,L,T,a,b,z,g,n,λw=>(h []).m _ _ _ (backE.le hl) (q w)⟩⟩;have h0:v<σ.length:=qi8 i0 Dg σ H s I;have U:d<σ.length:=qi8 i1 Dg σ H s I;have h2:x<σ.length:=qi8 i2 Dg σ H s I;refine qC4 (qaO4 hy.h (qaX6 (n:=3) hc (qK4 (qO3 P i0 l0 f0) (qK4 (qO3 P i1 l1 f1) (qK4 (qO3 P i2 l2 f2) qaz4)))) J Q) (qay8 h) Dg s σ H E I ?_;obtain⟨F,K,A,e,S,l,R,L,T,D,m0,m2,V,Y,q⟩:=q;have hg:A4 K i []=some (.l false [R,L,T]):=by unfold A4;rw[D];rfl
 have Z:A4 K i [1]=some L:=by unfold A4;rw[D];rfl
 refine⟨F,K,A,i,[],_,S,rfl,hg,(λz=>nomatch z),λu w0 H' hu Q J=>?_⟩;cases Q;have S':=S.same J;obtain⟨B,C,r,_⟩:=S'.place hg (λz=>nomatch z) hu rfl;obtain⟨a,vs,Ael,rfl,ha,p,rfl⟩:=qG2 r;cases p with|@cons v0 _ _ a1 _ _ r0 p=>cases p with|@cons M _ _ a2 _ _ r1 p=>cases p with|@cons v2 _ _ a3 _ _ r2 p=>
 cases p;refine⟨a,_,rfl,ha,rfl,v0,_,rfl,M,_,rfl,v2,_,rfl,rfl,?_⟩;obtain⟨B,A0,rb,S0,o0,a0⟩:=S'.dig Z V hu (show Walk H' (.ref a) [1] M from⟨M,⟨a,rfl,.inr (.inl ⟨_,ha,rfl⟩)⟩,rfl⟩);obtain⟨A1,S1,s1⟩:=S0.store W1 U rb o0;cases r0.imm m0;cases r2.imm m2;obtain⟨A2,S2,s2⟩:=S1.store W0 (by rw[zBk];exact h0) r0 S1.ok;obtain⟨A3,S3,s3⟩:=S2.store W2 (by rw[zBk,zBk];exact h2) r2 S2.ok;rw[Ng _ _ (Ne.symm n0)] at S3;rw[Ng (i:=d) _ _ (Ne.symm n0)] at S3;refine qaA5 Y W1 S3 ?_ ((Oy.same J).trans ((s1.pre a0).trans (s2.trans s3))) l (q M);rw[zAn (by rw[zBk,zBk,zBk];exact U),zBj n2,zBn (by rw[zBk];exact U)]
end
section
variable{c:Vc}{X:Cx}
def Hx(i j:Nat)(f:FV):PF:=λds=>match rdN i ds,rdN j ds,f ds with|some _,some _,some (.int 0)=>some (i,[])|some _,some _,some (.int 1)=>some (j,[])|_,_,_=>none
theorem qaN1{F:γ->Prop}{H:Hp}{σ:St}{ds:Ds}{A:List γ}{i:Nat}{d:D}(S:Oz c F H σ ds A)(hi:i<σ.length)(h:rdN i ds=some d):∃v,σ[i]?=some (some v)/\(σ++c.gv)[i]?=some (some v)/\ds[i]?=some d/\d≠.u:=by obtain⟨b,e⟩:ds[i]?=some d/\d≠.u:=⟨(qm8.mp h).1,qo6 (qm8.mp h).2⟩;obtain⟨v,B,C,a,_⟩:=S.put1 b e;exact⟨v,by rw[zAn hi] at a;exact a,a,b,e⟩
theorem vpsel(i j:Nat){x y:Str}{p1 p2 G:Pos}{b:Lb}{ob:Bool}{f:FV}(J:VV c X b ob f)(hi:X.N[i]?=some x:=by rfl)(D:X.N[j]?=some y:=by rfl)(L:Vis X.env.scope x:=by first|exact Oj rfl|exact Oi (Oj rfl)|exact Oi (Oi rfl))(M:Vis X.env.scope y:=by first|exact Oj rfl|exact Oi (Oj rfl)|exact Oi (Oi rfl))(O:N' x:=by decide)(P:(x==("__classdict__" : Str))=false:=by decide)(R:N' y:=by decide)(T:(y==("__classdict__" : Str))=false:=by decide)(U:qac8 b:=by exact λ_ _=>rfl)(V:J' [.Name x p1,.Name y p2] X.env=(false,eval (.Name x p1) X.env)::J' [.Name y p2] X.env:=by rfl)(s2:J' [.Name y p2] X.env=(false,eval (.Name y p2) X.env)::J' [] X.env:=by rfl):VP c X (.Subscript (.List [.Name x p1,.Name y p2] G) b pos) (Hx i j f):=by
 refine⟨λDg s σ H Q I t=>?_⟩;obtain⟨F,m,A,i0,p,d,S,e,hg,hd,q⟩:=t;refine Ji qb5 (qat4 (qc1 (qm0 hi L O P) (qc1 (qm0 D M R T) qm1 s2) V)) J.h U Dg s σ H Q I ?_;have W:=qi8 hi Dg σ H s I;have Y:=qi8 D Dg σ H s I;unfold Hx at e;cases n:rdN i m with
 |none=>rw[n] at e;cases e
 |some d1=>
 cases e2:rdN j m with
 |none=>rw[n,e2] at e;cases e
 |some d2=>
 obtain⟨u,Z,z,g1,g2⟩:=qaN1 S W n;obtain⟨v,hv,C,g3,g4⟩:=qaN1 S Y e2;rw[n,e2] at e;refine⟨u,Z,v,hv,show 2<=Kl by decide,λa ha=>?_⟩;have same:=Same.new (u:=.l [u,v]) ha;have g:∀(k:Int) w,f m=some (.int k)->atI [u,v] k=some w->(∀H',Same H H'->Q w H')->liftV c ob f σ (upd H a (.l [u,v])) λy H2=>rIx X.K (.ref a) y H2 Q:=λk w l hk hq=>⟨F,m,A,.int k,S.same same,l,λy H' B r E _=>by
   cases r;exact .inl ⟨a,_,k,w,rfl,rfl,.inl (.inl (E _ _ qb8)),hk,hq H' λb o e=>E b o (same b o e)⟩⟩
 split at e
 . rename_i l
   cases e;exact g 0 u l rfl λH' s=>q u u H' z rfl s
 . rename_i l
   cases e;exact g 1 v l rfl λH' s=>q v v H' C rfl s
 cases e
end
def F9:D->D->Option D|.int i,.int j=>gd (small j=true) (.int (i*j))|_,_=>none
theorem qaH0{x y d:D}(h:F9 x y=some d):Fp x y=some d:=by unfold F9 at h;split at h;{rename_i i j;by_cases a:small j=true;{rw[qi1 a] at h;rw[<-h];exact qi1 (by rw[a,Bool.or_true])};unfold gd at h;rw[if_neg a] at h;cases h};cases h
theorem qaz8:A9 true Jp F9:=λF H v w x y B d Q r h q=>qk0 F H v w x y B d Q r (qaH0 h) q
end LV
namespace LV.My
open PySem L2 Row _root_.My
variable{N i j l r:Nat}{Q:DK}{R:Ds->D->Prop}{S ks:List Int}{b z':Bool}{d p x y:D}{ds ys:Ds}{e:VEnds}{f fa fb:FV}{fs:List (Str×D)}{g':Nat->Option Int}{hm:Int->Nat}{k sl:Int}{m:Str}{pf:PF}{qc:VTT}{s:VSp}{t u:VTS}{ta tb te:VT}{tr:VTB}{xe:XKd}{α:Type}
noncomputable def _root_.LV.D.whole:D->Bool|.int _=>true|_=>false
noncomputable def _root_.LV.D.within(l m:Int):D->Bool|.int i=>decide (l<=i)&&decide (i<=m)|_=>false
def _root_.LV.D.num:D->Bool:=D.within 0 1000000000000000000
noncomputable def fx3(g:D->D->D->Option D):Ds->Option D|[x,y,z]=>g x y z|_=>none
theorem qam8(h:Dh (fx1 g) ds Q xe):ds.length=1:=by match ds,h with|[_],_=>rfl
theorem qaR5(h:Dh (fx3 g) ds Q xe):ds.length=3:=by match ds,h with|[_,_,_],_=>rfl
theorem imm1(h:Dh (fx1 g) ds Q xe):G7 (wOf [true]) 0 ds=true:=by match ds,h with|[_],_=>rfl
theorem imm3(h:Dh (fx3 g) ds Q xe):G7 (wOf [true,true,true]) 0 ds=true:=by match ds,h with|[_,_,_],_=>rfl
theorem Ke(h:Dh (fx1 g) ds Q xe):∃x d,ds=[x]/\g x=some d/\Q d [x]:=by match ds,h with|[x],h=>obtain⟨d,e,q⟩:=qa7.mp h;exact⟨x,d,rfl,e,q⟩
theorem pure3(h:Dh (fx3 g) ds Q xe):∃x y z d,ds=[x,y,z]/\g x y z=some d/\Q d [x,y,z]:=by match ds,h with|[x,y,z],h=>obtain⟨d,e,q⟩:=qa7.mp h;exact⟨x,y,z,d,rfl,e,q⟩
theorem qD8{t:String}(h:x.kind=some t):x.known=true:=by cases x<;>first|rfl|cases h
def Ay(P:Ds->D->Prop):VSp:=λds Q _=>∃d,P ds d/\Q d ds
theorem qb2:Br (Ay P):=λ_ _ _ _ _ a _ ⟨d,p,q⟩=>⟨d,p,a _ _ q⟩
noncomputable def Ot(ps:Pr):Ds:=ps.map λp=>.q [.int p.1,.int p.2]
noncomputable def kvD(ps:Pr):List (Key×D):=ps.map λp=>(.inl p.1,.int p.2)
def Ac(z:Bool)(C:γ)(n:Int)(wr:Bool)(ps:Pr):D:=.ins z C [("rooms",.int n),("wraps",.bl wr),("homes",.l z (Ot ps)),("home_numbers",.dct z (kvD ps))]
noncomputable def Dw:Option Int->D|none=>.non|some k=>.int k
def Os(n:Nat)(g:Nat->Option Int):Ds:=(Lr n).map λi=>Dw (g i)
noncomputable def Op(ks:List Int):Ds:=ks.map .int
theorem qP5:∀ps:Pr,D.imms (Ot ps)=true|[]=>rfl|p::r=>by show (D.imms [.int p.1,.int p.2]&&D.imms (Ot r))=true;rw[qP5 r];rfl
theorem qi9:∀ks:List Int,D.imms (Op ks)=true|[]=>rfl|k::r=>by show (true&&D.imms (Op r))=true;rw[qi9 r];rfl
theorem qW1{α:Type}{f:α->D}(h:∀a,(f a).imm=true):∀l:List α,D.imms (l.map f)=true|[]=>rfl|a::r=>by show ((f a).imm&&D.imms (r.map f))=true;rw[h a,qW1 h r];rfl
theorem qaS9(o:Option Int):(Dw o).imm=true:=by cases o<;>rfl
theorem qE0(n:Nat)(g:Nat->Option Int):D.imms (Os n g)=true:=qW1 (λi=>qaS9 _) _
theorem qan7:∀ks:List Int,intsD (Op ks)=some ks|[]=>rfl|k::r=>by show (intsD (Op r)).map (λis=>k::is)=some (k::r);rw[qan7 r];rfl
theorem qE1:∀ks:List Int,flats (Op ks)=some (ks.map V.int)|[]=>rfl|k::r=>by show (Option.bind (some (V.int k)) λv=>(flats (Op r)).bind λa=>some (v::a))=_;rw[qE1 r];rfl
theorem qm3(ks:List Int):(Op ks).length=ks.length:=zAa _
theorem qr2(n:Nat)(g:Nat->Option Int):(Os n g).length=n:=by simp[Os]
theorem qQ0{n:Nat}{g:Nat->Option Int}(h:i<n):(Os n g)[i]?=some (Dw (g i)):=by unfold Os;rw[zBd,List.getElem?_range h];rfl
theorem qai2{n:Nat}{g:Nat->Option Int}{o:Option Int}:(Os n g).set i (Dw o)=Os n (λj=>if j=i then o else g j):=by apply List.ext_getElem?;intro j;by_cases a:j<n;{rw[qQ0 a];by_cases e:i=j;{subst e;rw[zBn (by rw[qr2];exact a),if_pos rfl]};rw[zBj e,qQ0 a,if_neg (Ne.symm e)]};rw[List.getElem?_eq_none (by rw[zBk,qr2];lia),List.getElem?_eq_none (by rw[qr2];lia)]
theorem qak6:∀ps:Pr,Ij (Ot ps)=some (kvD ps)|[]=>rfl|p::r=>by show (Option.bind (some ((Sum.inl p.1:Key),D.int p.2)) λq=>(Ij (Ot r)).bind λps=>some (q::ps))=_;rw[qak6 r];rfl
theorem qat1{ps:Pr}{m:Int}(h:¬k∈ps.map (·.1)):Fa (kvD ps) (.inl k) (.int m)=kvD (ps++[(k,m)]):=by unfold Fa;rw[if_neg];{unfold kvD;rw[zBh];rfl};intro e;obtain⟨q,a,e⟩:=List.any_eq_true.mp e;obtain⟨r,b,rfl⟩:=zAx.mp a;exact h (zAx.mpr ⟨r,b,Sum.inl.inj (zA8 e)⟩)
theorem qZ0:∀(a ps:Pr),((ps++a).map (·.1)).Nodup->qy3 (kvD ps) (kvD a)=kvD (ps++a)
 |[],ps,_=>by rw[zAc];rfl|q::a,ps,h=>by
  show qy3 (Fa (kvD ps) (.inl q.1) (.int q.2)) (kvD a)=_;have b:¬q.1∈ps.map (·.1):=by rw[zBh,zAz,zBq] at h;exact λz=>h.2.2 _ z _ zA9 rfl
  rw[qat1 b,qZ0 a (ps++[(q.1,q.2)]) (by rw[zAm];exact h),zAm];rfl
theorem qau2(h:(ps.map (·.1)).Nodup):qy3 [] (kvD ps)=kvD ps:=qZ0 ps [] h
theorem qaB7(h:(ps.map (·.1)).Nodup):Hm (.l z (Ot ps))=some (.dct false (kvD ps)):=by show (Ij (Ot ps)).map (λps=>D.dct false (qy3 [] ps))=_;rw[qak6];show some (D.dct false (qy3 [] (kvD ps)))=_;rw[qau2 h]
theorem qax8(k:Int):∀ps:Pr,Dv (kvD ps) (.inl k)=(ps.lookup k).map .int
 |[]=>rfl|(p,m)::r=>by
  show Dv ((.inl p,.int m)::kvD r) _=_;by_cases e:p=k;{subst e;simp[Dv,zAu]};have a:Dv ((.inl p,D.int m)::kvD r) (.inl k)=Dv (kvD r) (.inl k):=by simp[Dv,zBy,e]
  rw[a,qax8 k r];have:(k==p)=false:=by simpa using λz=>e z.symm
  simp only[zAu,this]
theorem qa0{o:Option α}{a:α}{k:α->Prop}(e:o=some a)(h:k a):orF o k:=by rw[e];exact h
theorem Dm{p:Prop}[Decidable p]{a b:Prop}(h:p)(x:a):if p then a else b:=by rw[if_pos h];exact x
theorem Gs{p:Prop}[Decidable p]{a b:Prop}(h:¬p)(x:b):if p then a else b:=by rw[if_neg h];exact x
theorem ite_b{p:Bool}{a b:Prop}(h1:p=true->a)(h2:p=false->b):if p=true then a else b:=by cases p with|true=>exact h1 rfl|false=>exact h2 rfl
noncomputable def Iv:Option Int->D|some f=>.int f|none=>.non
theorem Iw(b:rdN i ds=some x)(h:s [x] (λd ys=>orF (Al [.sl i] ys (ds.set i .u)) λa=>Q d a) (λe ys=>orF (Al [.sl i] ys (ds.set i .u)) λa=>xe e a)):qn3 s [] (tbN i A7) ds Q xe:=⟨by rw[b];rfl,by show orF (rdN i ds) _;rw[b];exact h⟩
theorem qC3{f:Ds->Option D}(e:f ds=some d)(q:Q d ds):Dh f ds Q xe:=qa0 e q
theorem qs7(e:R ds d)(q:Q d ds):Ay R ds Q xe:=⟨d,e,q⟩
theorem qb9{K:Ds->List Pl->Ds->Prop}(a:rdN i ds=some x)(h:tr ds (λxs ps ds1=>orF (rdN i ds1) λd=>K (d::xs) (.sl i::ps) (ds1.set i .u)) xe):tbN i tr ds K xe:=⟨by rw[a];rfl,h⟩
theorem qc0(b:f ds=some y)(h:tr ds (λxs ps a=>K (y::xs) (.no::ps) a) xe):tbV (B7 f) tr ds K xe:=qa0 b h
theorem rd0{r:Ds}(h:d.known=true):rdN 0 (d::r)=some d:=qm8.mpr ⟨rfl,h⟩
theorem qap1{β:Type}(f:α->β)(l:List α):l.filterMap (λa=>some (f a))=l.map f:=by simp
section
variable{z:Bool}{C:γ}{n:Int}{wr:Bool}{ps:Pr}
theorem qv1{f:Str}(h:fs.lookup f=some d):D.fld C f (.ins z C fs)=some d:=by show (if C=C then fs.lookup f else none)=some d;rw[if_pos rfl,h]
theorem qc2:D.fld C "rooms" (Ac z C n wr ps)=some (.int n):=qv1 (by rfl)
theorem qp0:D.fld C "wraps" (Ac z C n wr ps)=some (.bl wr):=qv1 (by rfl)
theorem qav5:D.fld C "homes" (Ac z C n wr ps)=some (.l z (Ot ps)):=qv1 (by rfl)
theorem qI2:D.fld C "home_numbers" (Ac z C n wr ps)=some (.dct z (kvD ps)):=qv1 (by rfl)
theorem qan6(h:fs.lookup m=none):(D.ins z C fs).isM C m=true:=by show (decide (C=C)&&(fs.lookup m).isNone)=true;rw[zAj rfl,h];rfl
theorem qg7(h:([("rooms",.int n),("wraps",.bl wr),("homes",.l z (Ot ps)),("home_numbers",.dct z (kvD ps))]:List (Str×D)).lookup m=none):(Ac z C n wr ps).isM C m=true:=qan6 h
theorem Au(h:fa ds=some x)(h':g x=some y):f1 g fa ds=some y:=qav8.mpr ⟨x,h,h'⟩
theorem Af(h:fa ds=some x)(h':fb ds=some y)(h2:g x y=some d):f2 g fa fb ds=some d:=qaJ9.mpr ⟨x,y,h,h',h2⟩
theorem qf6:(D.ins false C fs).ownI C=some fs:=by show (if C=C then some fs else none)=some fs;rw[if_pos rfl]
end
theorem qp9{C:γ}(b:rdN i ds=some p)(hm:p.isM C m=true)(h:tr ds (λxs ps ds1=>orF (rdN i ds1) λd=>s (d::(xs++[])) (λr ys=>orF (Al (.sl i::ps) ys (ds1.set i .u)) λa=>Q r a) (λx ys=>orF (Al (.sl i::ps) ys (ds1.set i .u)) λa=>xe x a)) xe):qE6 C m s [] i tr ds Q xe:=⟨qa0 b hm,h⟩
theorem Ix{f:Ds->Option D}(a:rdN i ds=some x)(e:f [x]=some d)(b:Al [.sl i] [x] (ds.set i .u)=some ds)(q:Q d ds):qn3 (Dh f) [] (tbN i A7) ds Q xe:=Iw a (qC3 e (qa0 b q))
theorem qL7(c:rdN i ds=some x)(b:rdN j ds=some y)(a:rdN i (ds.set j .u)=some x)(r:R [x,y] d)(e:Al [.sl i,.sl j] [x,y] ((ds.set j .u).set i .u)=some ds)(q:Q d ds):qn3 (Ay R) [] (tbN i (tbN j A7)) ds Q xe:=qb9 c (qb9 b (qa0 b (qa0 a (qs7 r (qa0 e q)))))
theorem Iy{w:D}(e:rdN i ds=some x)(f:rdN j ds=some y)(c:rdN l ds=some w)(a:rdN j (ds.set l .u)=some y)(b:rdN i ((ds.set l .u).set j .u)=some x)(r:R [x,y,w] d)(g:Al [.sl i,.sl j,.sl l] [x,y,w] (((ds.set l .u).set j .u).set i .u)=some ds)(q:Q d ds):qn3 (Ay R) [] (tbN i (tbN j (tbN l A7))) ds Q xe:=qb9 e (qb9 f (qb9 c (qa0 c (qa0 a (qa0 b (qs7 r (qa0 g q)))))))
theorem qL6{C:γ}(c:rdN i ds=some p)(hm:p.isM C m=true)(b:rdN j ds=some x)(a:rdN i (ds.set j .u)=some p)(r:R [p,x] d)(e:Al [.sl i,.sl j] [p,x] ((ds.set j .u).set i .u)=some ds)(q:Q d ds):qE6 C m (Ay R) [] i (tbN j A7) ds Q xe:=qp9 c hm (qb9 b (qa0 b (qa0 a (qs7 r (qa0 e q)))))
theorem qau3{C:γ}(e:rdN i ds=some p)(hm:p.isM C m=true)(f:rdN j ds=some x)(c:rdN l ds=some y)(a:rdN j (ds.set l .u)=some x)(b:rdN i ((ds.set l .u).set j .u)=some p)(r:R [p,x,y] d)(g:Al [.sl i,.sl j,.sl l] [p,x,y] (((ds.set l .u).set j .u).set i .u)=some ds)(q:Q d ds):qE6 C m (Ay R) [] i (tbN j (tbN l A7)) ds Q xe:=qp9 e hm (qb9 f (qb9 c (qa0 c (qa0 a (qa0 b (qs7 r (qa0 g q)))))))
theorem Ey{t:VT}(h:∀(Q:DK)(xe:XKd),Q (.bl true) ds->t ds Q xe)(h2:u e ds):Gf (sIf (ttNot (ttE t)) n G6) u e ds:=h _ _ h2
theorem if_e{t:VT}(h:∀(Q:DK)(xe:XKd),Q (.bl b) ds->t ds Q xe)(h1:b=true->u e ds)(h2:b=false->v e ds):sIf (ttE t) u v e ds:=h _ _ (by
 exact ite_b h1 h2)
theorem if_v(h:f ds=some (.bl b))(h1:b=true->u e ds)(h2:b=false->v e ds):sIf (ttV f) u v e ds:=by show orF ((f ds).bind D.asB) _;rw[h];exact ite_b h1 h2
theorem Ga{u:VT}(h:f ds=some (.bl b))(h1:b=true->u ds Q xe)(h2:b=false->v ds Q xe):tIfE (ttV f) u v ds Q xe:=by show orF ((f ds).bind D.asB) _;rw[h];exact ite_b h1 h2
theorem qo4(e:f ds=some d)(q:Q d ds):B7 f ds Q xe:=qa0 e q
theorem qm4(b:Bool)(h:f ds=some (.bl b))(h1:b=true->u {e with nx:=w e} ds)(h2:b=false->w e ds):Gf (sIf (ttV f) u G6) w e ds:=if_v h h1 h2
theorem qf4{t:VT}(h:t ds e.rt e.xe):sRet t e ds:=h
theorem qf5(d:D)(h:f ds=some d)(q:e.rt d ds):sRet (B7 f) e ds:=qa0 h q
theorem As(a:Ds)(h:ds=a)(q:t e a):t e ds:=h ▸ q
theorem qan5{z:Bool}(h:rdN i ds=some (.l z ys)):A6 (fx2 gIsi) (A5 (rdN i) (A5 (kC (D.ty "list")) λ_=>some [])) ds=some (.bl true):=by unfold A6 A5;rw[h];rfl
theorem qL9{z:Bool}(h:rdN i ds=some (.l z ys)):A6 (fx1 E5) (A5 (rdN i) λ_=>some []) ds=some (.int (ys.length:Nat)):=by unfold A6 A5;rw[h];rfl
theorem qi3{Q:Bool->Ds->Prop}(h:f ds=some (.bl b))(q:Q b ds):ttV f ds Q xe:=by show orF ((f ds).bind D.asB) _;rw[h];exact q
theorem qt4{Q:Bool->Ds->Prop}(h:f ds=some (.bl b))(q:Q (!b) ds):ttNot (ttV f) ds Q xe:=qi3 h q
theorem qy0{t u:VTT}{Q:Bool->Ds->Prop}(b c:Bool)(h1:∀Q:Bool->Ds->Prop,Q b ds->t ds Q xe)(h2:b=false->∀Q:Bool->Ds->Prop,Q c ds->u ds Q xe)(q:Q (b||c) ds):ttOr t u ds Q xe:=h1 _ (by
 cases b with
 |false=>exact h2 rfl _ q
 |true=>exact q)
theorem ql0{t u:VTT}{Q:Bool->Ds->Prop}(b c:Bool)(h1:∀Q:Bool->Ds->Prop,Q b ds->t ds Q xe)(h2:b=true->∀Q:Bool->Ds->Prop,Q c ds->u ds Q xe)(q:Q (b&&c) ds):ttAnd t u ds Q xe:=h1 _ (by
 cases b with
 |false=>exact q
 |true=>exact h2 rfl _ q)
theorem Kf(b:Bool)(h:∀Q:Bool->Ds->Prop,Q b ds->qc ds Q e.xe)(h1:b=true->t e ds)(h2:b=false->u e ds):sIf qc t u e ds:=h _ (ite_b h1 h2)
theorem qh0(b:Bool)(h:∀Q:Bool->Ds->Prop,Q b ds->qc ds Q e.xe)(h1:b=true->t {e with nx:=w e} ds)(h2:b=false->w e ds):Gf (sIf qc t G6) w e ds:=h _ (ite_b h1 h2)
theorem qao2{t:VT}(h:∀(Q:DK)(xe:XKd),Q (.bl true) ds->t ds Q xe)(h2:e.nx ds):sIf (ttNot (ttE t)) n G6 e ds:=h _ _ h2
theorem qaB2(h:f ds=some (.bl true))(h2:u e ds):Gf (sIf (ttNot (ttV f)) n G6) u e ds:=qt4 (Q:=λk a=>if k=true then n {e with nx:=u e} a else u e a) (xe:=e.xe) h h2
theorem qaI5:G1 C (Ac z C n wr ps) (.adr C)=some (.bl true):=by show (if C=C then (Ac z C n wr ps).isC C else none)=_;rw[if_pos rfl];show (if C=C then some (D.bl true) else none)=_;rw[if_pos rfl]
theorem qh6{g:VTG}{t:VTS}{e:VEnds}(I:Nat->Ds->Prop):∀(xs:List D)(i:Nat)(ds:Ds),I i ds->(∀(j:Nat)(x:D),xs[j]?=some x->∀ds,I (i+j) ds->∀K:Ds->Prop,(∀a,I (i+j+1) a->K a)->g x ds λds1=>t {e with nx:=K,ct:=K,bk:=e.nx} ds1)->(∀a,I (i+xs.length) a->e.nx a)->Dr g t e xs ds|[],_,ds,h,_,hn=>hn ds h|x::xs,i,ds,h,hs,hn=>hs 0 x rfl ds h _ λa f=>qh6 I xs (i+1) a f (λj y k b c K l=>hs (j+1) y k b (by rw[show i+(j+1)=i+1+j by lia];exact c) K λd m=>l d (by rw[show i+1+j+1=i+(j+1)+1 by lia];exact m)) λb c=>hn b (by rw[zAq,show i+(xs.length+1)=i+1+xs.length by lia];exact c)
theorem qW4(h:f ds=some (.int n))(a:Fw n=true)(k:Dr g t e (Bm 0 n.toNat) ds):J0 (G8 (tbV (B8 f) A7)) g t e ds:=by show orF (f ds) _;rw[h];exact⟨rfl,a,k⟩
theorem Iz(a:0<=n)(h1:n<=1000):Fw n=true:=by unfold Fw;rw[zAj ⋯,zAj ⋯];rfl
theorem Kg{m:Nat}(h:(Bm 0 m)[j]?=some x):j<m/\x=.int (j:Int):=by by_cases a:j<m;{rw[qaj3 a] at h;cases h;exact⟨a,by rw[Int.zero_add]⟩};rw[List.getElem?_eq_none (by unfold Bm;rw[zAa,zB9];lia)] at h;cases h
def Ec(p:Int->Bool)(y:D):Option D:=y.asI.bind λk=>if p k=true then some (.int k) else none
theorem qZ4{p:Int->Bool}(h:p k=true):Ec p (.int k)=some (.int k):=if_pos h
theorem qZ5{p:Int->Bool}(h:p k=false):Ec p (.int k)=none:=if_neg (by rw[h];decide)
theorem qD9(p:Int->Bool):∀ks:List Int,(Op ks).filterMap (Ec p)=Op (ks.filter p)|[]=>rfl|k::ks=>by show Nc (Ec p) (D.int k::Op ks)=_;rw[zCb];cases h:p k with|true=>rw[qZ4 h,L6 h];show D.int k::(Op ks).filterMap (Ec p)=_;rw[qD9 p ks];rfl|false=>rw[qZ5 h,zCc (by rw[h];decide),qD9 p ks]
theorem qbc5(h1:fa ds=some (.bl a))(h2:fb ds=some (.bl b)):fOr fa fb ds=some (.bl (a||b)):=by unfold fOr;rw[h1,h2];cases a<;>rfl
theorem qap2(h1:fa ds=some (.bl a))(h2:fb ds=some (.bl b)):fAnd fa fb ds=some (.bl (a&&b)):=by unfold fAnd;rw[h1,h2];cases a<;>rfl
theorem qb0(ds1:Ds)(h1:∀K:Ds->Prop,K ds1->t {e with nx:=K} ds)(h2:u e ds1):Gf t u e ds:=h1 (u e) h2
theorem qc3(R:Ds->Prop)(h1:∀K:Ds->Prop,(∀ds1,R ds1->K ds1)->t {e with nx:=K} ds)(h2:∀ds1,R ds1->u e ds1):Gf t u e ds:=h1 (u e) h2
theorem qag4(I:Nat->Ds->Prop)(n:Nat)(h:I n ds)(c:∀n ds,I n ds->∀K:Ds->Prop,(∀m a,m<n->I m a->K a)->qc ds (λb ds1=>if b=true then t {e with nx:=K,ct:=K,bk:=e.nx} ds1 else e.nx ds1) e.xe):qaM8 qc t e ds:=by
 have d:∀N n ds,n<N->I n ds->whN qc t e N ds:=by intro N;induction N with|zero=>intro n ds h;exact absurd h (zCk _)|succ N f=>intro n ds i h;exact c n ds h _ λm a j g=>f m a ⋯ g
 exact⟨n+1,d (n+1) n ds (Nat.lt_succ_self n) h⟩
theorem qax3(f:rdN i ds=some x)(c:rdN j ds=some y)(b:rdN i (ds.set j .u)=some x)(h:s [x,y] (λd ys=>orF (Al [.sl i,.sl j] ys ((ds.set j .u).set i .u)) λa=>Q d a) (λe ys=>orF (Al [.sl i,.sl j] ys ((ds.set j .u).set i .u)) λa=>xe e a)):qn3 s [] (tbN i (tbN j A7)) ds Q xe:=qb9 f (qb9 c (qa0 c (qa0 b h)))
theorem qbd4{w:D}(g:rdN i ds=some x)(k:rdN j ds=some y)(f:rdN l ds=some w)(b:rdN j (ds.set l .u)=some y)(c:rdN i ((ds.set l .u).set j .u)=some x)(h:s [x,y,w] (λd ys=>orF (Al [.sl i,.sl j,.sl l] ys (((ds.set l .u).set j .u).set i .u)) λa=>Q d a) (λe ys=>orF (Al [.sl i,.sl j,.sl l] ys (((ds.set l .u).set j .u).set i .u)) λa=>xe e a)):qn3 s [] (tbN i (tbN j (tbN l A7))) ds Q xe:=qb9 g (qb9 k (qb9 f (qa0 f (qa0 b (qa0 c h)))))
theorem qba1{C:γ}{k:Nat}{w:D}(f:rdN i ds=some p)(hm:p.isM C m=true)(g:rdN j ds=some x)(h:rdN l ds=some y)(e:rdN k ds=some w)(a:rdN l (ds.set k .u)=some y)(b:rdN j ((ds.set k .u).set l .u)=some x)(c:rdN i (((ds.set k .u).set l .u).set j .u)=some p)(r:R [p,x,y,w] d)(n:Al [.sl i,.sl j,.sl l,.sl k] [p,x,y,w] ((((ds.set k .u).set l .u).set j .u).set i .u)=some ds)(q:Q d ds):qE6 C m (Ay R) [] i (tbN j (tbN l (tbN k A7))) ds Q xe:=qp9 f hm (qb9 g (qb9 h (qb9 e (qa0 e (qa0 a (qa0 b (qa0 c (qs7 r (qa0 n q)))))))))
theorem qo1(h:ds[i]?=some d)(a:d.known=true):rdN i ds=some d:=qm8.mpr ⟨h,a⟩
def O1(ns:List Int)(b:D):Prop:=∃x y z,b=bagD x y z ns/\Bg x y z ns
theorem O1.known{ns:List Int}{b:D}(h:O1 ns b):b.known=true:=by obtain⟨x,y,z,rfl,_⟩:=h;rfl
def qT3:VSp:=λds Q _=>∃b m a,ds=[b,.int m]/\O1 a b/\0<m/\m<2 ^ 200/\∀v c,0<=v->v<m->O1 a c->Q (.int v) [c,.int m]
theorem qf0{b:D}{ns:List Int}{m:Int}(d:ds[i]?=some b)(B:O1 ns b)(e:f ds=some (.int m))(g:0<m)(h1:m<2 ^ 200)(q:∀v a,0<=v->v<m->O1 ns a->Q (.int v) (ds.set i a)):qn3 qT3 [] (tbN i (tbV (B7 f) A7)) ds Q xe:=by have c:=qo1 d B.known;refine qb9 c (qc0 e (qa0 c ⟨b,m,ns,rfl,B,g,h1,λv a h j B'=>?_⟩));show Q (.int v) ((ds.set i .u).set i a);rw[List.set_set];exact q v a h j B'
theorem Gu{i j:Int}(h:small j=true):Fp (.int i) (.int j)=some (.int (i*j)):=qi1 (by rw[h,Bool.or_true])
theorem Gv{i j:Int}(h:small i=true):Fp (.int i) (.int j)=some (.int (i*j)):=qi1 (by rw[h,Bool.true_or])
theorem I8{i j:Int}(h:0<j)(h1:j<2 ^ 200):gDiv (.int i) (.int j)=some (.int (i/j)):=qi1 (by show (decide (0<j)&&decide (j<2 ^ 200))=true;rw[zAj h,zAj h1];rfl)
theorem Er{x:Int}(h:0<n):Ih (.int x) (.int n)=some (.int (x%n)):=qi1 (zAj h)
theorem qaD7{i:Int}(h:-(2 ^ 64)<i)(h':i<2 ^ 64):small i=true:=by unfold small;rw[zAj h,zAj h'];rfl
theorem Dt{z:Bool}{g:Nat->Option Int}(h:r<N):gIx (.l z (Os N g)) (.int (r:Int))=some (Dw (g r)):=qac6 (qQ0 h)
theorem I9{g:Nat->Option Int}(h:r<N):ixN (Os N g).length (r:Int)=some r:=by rw[qr2];unfold ixN;simp[h]
theorem qJ4{n:Nat}{g:Nat->Option Int}{c:Int}:(Os n g).set i (.int c)=Os n (Row.set g i c):=qai2 (o:=some c)
theorem qaG6(N:Nat):(Ls N [D.non]).flatten=Os N (λ_=>none):=by unfold Os;induction N with|zero=>rfl|succ N a=>rw[List.replicate_succ',List.flatten_append,a,M7,zBh];rfl
theorem qV7(a:0<=n)(h1:n<=64):Fp (.l false [.non]) (.int n)=some (.l false (Os n.toNat λ_=>none)):=by rw[<-qaG6];exact qi1 ⟨rfl,by show 1*n.toNat<=1000000;lia,⋯,⋯⟩
theorem qi0{g:Nat->Option Int}(h:∀i,i<N->g i=g' i):Os N g=Os N g':=by unfold Os;apply Mw;intro i a;rw[h i (zAr.mp a)]
theorem qaa3(h:f ds=some (.int n))(a:Fw n=true)(k:Dr g t e (Bm 0 n.toNat) ds):J0 (G8 (tbV (B7 f) A7)) g t e ds:=by show orF (f ds) _;rw[h];exact⟨a,k⟩
theorem qav4{g:VTG}{n:Int}(h:rdN i ds=some (.int n))(a:Fw n=true)(k:Dr g t e (Bm 0 n.toNat) (ds.set i .u)):J0 (G8 (tbN i A7)) g t e ds:=by refine⟨by rw[h];rfl,?_⟩;exact qa0 h ⟨a,k⟩
theorem qV5{z:Bool}:gInB true (.int k) (.l z (Op ks))=some (.bl (!decide (k∈ks))):=by show ((flats (Op ks)).bind λa=>some (D.bl (if true=true then !inV (.int k) a else inV (.int k) a)))=_;rw[qE1];show some (D.bl (!inV (.int k) (ks.map V.int)))=_;rw[qan9]
theorem qaS1{z:Bool}:gInB false (.int k) (.l z (Op ks))=some (.bl (decide (k∈ks))):=by show ((flats (Op ks)).bind λa=>some (D.bl (if false=true then !inV (.int k) a else inV (.int k) a)))=_;rw[qE1];show some (D.bl (inV (.int k) (ks.map V.int)))=_;rw[qan9]
theorem qH9(lo:Int)(n:Nat):(Bm lo n).length=n:=by unfold Bm;rw[zAa,zB9]
theorem qq0(e:f ds=some d)(hi:d.imm=true)(q:Q d ds):B8 f ds Q xe:=qa0 e ⟨hi,q⟩
theorem qA7(h:f ds=some d)(hi:d.imm=true)(q:e.nx (ds.set i d)):Eo (B8 f) (gNm i) e ds:=qq0 h hi q
theorem qt8(h:f ds=some d)(q:e.nx (ds.set i d)):Eo (B7 f) (gNm i) e ds:=qo4 h q
theorem qaB3{n:Nat}{K:Ds->Prop}(hi:ds[i]?=some (.l false ys))(a:fb ds=some (.int k))(b:ixN ys.length k=some n)(q:K (ds.set i (.l false (ys.set n d)))):Hs (λ_=>some (i,[])) fb d ds K:=by refine qa0 rfl ?_;refine qa0 (by show (A4 ds i []).bind D.own=_;rw[qM5 hi];rfl) ?_;refine qa0 (by rw[a];rfl) ?_;refine qa0 b ?_;rw[qJ3 hi];exact q
theorem qN5{n:Nat}(a:f ds=some d)(b:d.imm=true)(hi:ds[i]?=some (.l false ys))(c:fb ds=some (.int k))(g:ixN ys.length k=some n)(q:e.nx (ds.set i (.l false (ys.set n d)))):Eo (B8 f) (Hs (λ_=>some (i,[])) fb) e ds:=qq0 a b (qaB3 hi c g q)
theorem qG6{n:Nat}(a:f ds=some d)(hi:ds[i]?=some (.l false ys))(b:fb ds=some (.int k))(c:ixN ys.length k=some n)(q:e.nx (ds.set i (.l false (ys.set n d)))):Eo (B7 f) (Hs (λ_=>some (i,[])) fb) e ds:=qo4 a (qaB3 hi b c q)
theorem qd3(b:f ds=some y)(hi:y.imm=true)(h:tr ds (λxs ps a=>K (y::xs) (.no::ps) a) xe):tbV (B8 f) tr ds K xe:=qq0 b hi h
theorem qac7(hi:ds[i]?=some (.l false ys))(a:f ds=some d)(b:ys.length<big)(q:Q .non (ds.set i (.l false (ys++[d])))):Ea gApp i (tbV (B7 f) A7) ds Q xe:=by
 have e:(rdN i ds).bind D.own=some ys:=by rw[qo1 hi rfl];rfl
 refine⟨by rw[e];rfl,qc0 a ?_⟩;exact qa0 e (qa0 (if_pos b) q)
theorem qbe3(hi:ds[i]?=some (.l false ys))(a:ds[j]?=some d)(b:d.known=true)(c:i≠j)(f:ys.length<big)(q:Q .non ((ds.set j .u).set i (.l false (ys++[d])))):Ea gApp i (tbN j A7) ds Q xe:=by
 have e:(rdN i ds).bind D.own=some ys:=by rw[qo1 hi rfl];rfl
 have e2:(rdN i (ds.set j .u)).bind D.own=some ys:=by rw[qo1 (by rw[zBj (Ne.symm c)];exact hi) rfl];rfl
 refine⟨by rw[e];rfl,qb9 (qo1 a b) ?_⟩;exact qa0 (qo1 a b) (qa0 e2 (qa0 (if_pos f) q))
theorem qal9{g:Ds->Ds->Option (Ds×D)}{p:List Nat}{d0:D}(h1:pf ds=some (i,p))(h2:(A4 ds i p).bind D.own=some ys)(a:ds[i]?=some d0)(h:tr (ds.set i .u) (λxs _ ds1=>orF (g ys xs) λz=>Q z.2 (Bd (ds1.set i d0) i p (.l false z.1))) xe):Ex g pf tr ds Q xe:=by unfold Ex;rw[h1];show orF ((A4 ds i p).bind D.own) _;rw[h2];rw[a];exact h
theorem qbe0{f:Int->Int->Int}{a:FV}{x y:Int}(hi:ds[i]?=some (.l false ys))(b:fb ds=some (.int k))(c:0<=k)(d:ys[k.toNat]?=some (.int x))(g:a ds=some (.int y))(q:e.nx (ds.set i (.l false (ys.set k.toNat (.int (f x y)))))):sAugV f (λ_=>some (i,[])) fb a e ds:=by refine qa0 rfl ?_;refine qa0 (by show (A4 ds i []).bind D.own=_;rw[qM5 hi];rfl) ?_;refine qa0 (by rw[b];rfl) ⟨c,?_⟩;refine qa0 (by rw[d];rfl) ?_;refine qa0 (by rw[g];rfl) ?_;rw[qJ3 hi];exact q
theorem Fj(b:Bool)(h:fa ds=some (.bl b))(h1:b=true->tb ds Q xe)(h2:b=false->Q (.bl false) ds):Hn (B7 fa) tb ds Q xe:=qo4 (xe:=xe) (Q:=λx ds=>orF x.asB λk=>if k=true then tb ds Q xe else Q (.bl false) ds) h (ite_b h1 h2)
theorem qu9{K:Ds->Prop}(h:K (ds.set i d)):gNm i d ds K:=h
theorem qb3(h:K [] [] ds):A7 ds K xe:=h
theorem qg3(h:te ds (λ_ a=>e.nx a) e.xe):sExpr te e ds:=h
theorem qM4{K:Ds->Prop}(h:K ((ds.set i x).set j y)):gTupV 2 (qaJ4 (gNm i) (qaJ4 (gNm j) gNilV)) (.q [x,y]) ds K:=⟨rfl,h⟩
theorem Kh{Q:Bool->Ds->Prop}(h:Q true ds):qYes ds Q xe:=h
theorem qan1:Op S++[.int k]=Op (S++[k]):=by unfold Op;rw[zBh];rfl
theorem qg5(h:ta ds (λx ds1=>tr ds1 (λxs ps a=>K (x::xs) (.no::ps) a) xe) xe):tbV ta tr ds K xe:=h
theorem qaL6(a:fa ds=some x)(b:fb ds=some y)(c:x.imm=true)(d:y.imm=true):A6 gTup (A5 fa (A5 fb λ_=>some [])) ds=some (.q [x,y]):=by unfold A6 A5;rw[a,b];refine qi1 ⟨?_,by show 2<=1000000;decide⟩;show (x.imm&&(y.imm&&true))=true;rw[c,d];rfl
theorem qM8:B9 ys none (some (r:Int))=ys.take r:=by unfold B9;have a:HT.sIx ys.length ys.length (some ((r:Nat):Int))=min r ys.length:=HT.qai9 _ _ r;rw[a,HT.qU6,L5,Nat.sub_zero];by_cases h:r<=ys.length;{rw[zCj h]};rw[Nat.min_eq_right ⋯,Mb,zAo ⋯]
theorem qbc6(h:y∈enD ys):∃i v,y=.q [.int (i:Nat),v]/\ys[i]?=some v:=by obtain⟨⟨v,i⟩,a,rfl⟩:=zAx.mp h;exact⟨i,v,rfl,List.mem_zipIdx_iff_getElem?.mp a⟩
theorem Ki{g:Nat->Option Int}(h:d∈Os N g):d=.non∨∃k,d=.int k:=by unfold Os at h;obtain⟨i,_,rfl⟩:=zAx.mp h;cases g i with|none=>exact .inl rfl|some k=>exact .inr ⟨k,rfl⟩
theorem qx3{Q:Bool->Ds->Prop}(h:ta ds (λx ds1=>orF ((fb ds1).bind (g x)) λd=>orF d.asB λb=>Q b ds1) xe):ttE (t2v g ta fb) ds Q xe:=h
theorem qe0(h:tr ds (λxs ps ds1=>s (xs++[]) (λd ys=>orF (Al ps ys ds1) λa=>Q d a) (λx ys=>orF (Al ps ys ds1) λa=>xe x a)) xe):qn3 s [] tr ds Q xe:=h
theorem Kj:∀(l:Ds),(∀d∈l,d=.non∨∃k,d=.int k)->Dl (eqN 20) l l=some true
 |[],_=>rfl|d::l,h=>by
  have c:eqN 20 d d=some true:=by rcases h d zA9 with rfl|⟨k,rfl⟩;{rfl};show some (k==k)=_;rw[zB3]
  show ((eqN 20 d d).bind λa=>(Dl (eqN 20) l l).bind λb=>some (a&&b))=_;rw[c,Kj l λx e=>h x (zA6 _ e)];rfl
theorem qbc0{z:Bool}{g:Nat->Option Int}(h:∀i,i<N->g i=g' i):gEq (.l z (Os N g)) (.l z' (Os N g'))=some (.bl true):=by rw[qi0 h];show (Dl (eqN 20) (Os N g') (Os N g')).map D.bl=_;rw[Kj _ λ_=>Ki];rfl
theorem t2_of(b:fa ds=some x)(hi:x.imm=true)(h:tb ds (λy a=>orF (g x y) λd=>Q d a) xe):t2 g (B8 fa) tb ds Q xe:=qq0 b hi h
theorem qaD2(b:fa ds=some x)(h:tb ds (λy a=>orF (g x y) λd=>Q d a) xe):t2 g (B7 fa) tb ds Q xe:=qo4 b h
theorem qt5(h:ta ds (λx ds1=>orF ((fb ds1).bind (g x)) λd=>Q d ds1) xe):t2v g ta fb ds Q xe:=h
theorem qaM1(h:ta ds (λx ds1=>orF (fb ds1) λy=>y.imm=true/\orF (g x y) λd=>Q d ds1) xe):Jn g ta fb ds Q xe:=h
theorem qG2(h:tr ds (λxs _ ds1=>xs.length<=big/\Q (.l false xs) ds1) xe):tLstV tr ds Q xe:=h
theorem qe1(h:te ds (λd a=>e.nx (a.set i d)) e.xe):Eo te (gNm i) e ds:=h
theorem qaK8(h:ta ds (λx ds1=>orF x.asB λk=>if k=true then tb ds1 Q xe else Q (.bl false) ds1) xe):Hn ta tb ds Q xe:=h
theorem qP3(h:tr ds (λxs ps ds1=>s (.ins false C []::(xs++[])) (λd ys=>d.isN=some true/\orF ys.head? λself=>orF (Al ps ys.tail ds1) λa=>Q self a) (λx ys=>orF (Al ps ys.tail ds1) λa=>xe x a)) xe):qS2 C s [] tr ds Q xe:=h
theorem eq_ks:∀ks c:List Int,Dl (eqN 20) (Op ks) (Op c)=some (decide (ks=c))|[],[]=>rfl|[],_::_=>rfl|_::_,[]=>rfl|k::ks,l::c=>by show ((some (k==l)).bind λa=>(Dl (eqN 20) (Op ks) (Op c)).bind λb=>some (a&&b))=_;rw[eq_ks ks c];show some ((k==l)&&decide (ks=c))=_;by_cases h:k=l;{subst h;simp};simp[h]
theorem Gb(h:te ds (λd ds1=>Q d.fz ds1) xe):tFzV te ds Q xe:=h
def okN:Nat->D->Bool|n+1,.l _ xs=>xs.all (okN n)|n+1,.q xs=>xs.all (okN n)|_,x=>x.flat.isSome
theorem qp1{f:D->D->Option Bool}:∀{xs:List D},(∀x∈xs,f x x=some true)->Dl f xs xs=some true|[],_=>rfl|x::xs,h=>by show ((f x x).bind λa=>(Dl f xs xs).bind λb=>some (a&&b))=_;rw[h x zA9,qp1 λy c=>h y (zA6 _ c)];rfl
theorem qW6(h:x.flat.isSome=true):eqZ x x=some true:=by cases x with|non=>rfl|bl b=>show some (eqV (.bl b) (.bl b))=_;rw[qE2 rfl]|int i=>show some (eqV (.int i) (.int i))=_;rw[qE2 rfl]|str i=>show some (eqV (.str i) (.str i))=_;rw[qE2 rfl]|_=>cases h
theorem qE3:∀{n:Nat}{x:D},okN n x=true->eqN n x x=some true|0,x,h=>by rw[qW7];refine qW6 ?_;cases x<;>exact h|n+1,x,h=>by cases x with|l z b=>exact qp1 λy a=>qE3 (zBe.mp h y a)|q b=>exact qp1 λy a=>qE3 (zBe.mp h y a)|_=>exact qW6 h
theorem qW2(h:x.flat.isSome=true):gNe x x=some (.bl false):=by
 have e:eqT x x=some true:=by cases x with|l z a=>cases h|q a=>cases h|_=>exact qW6 h
 unfold gNe;rw[e];rfl
theorem qbd3{src:List (Option Nat)}{g:VTG}{qf:VTT}(h:tr ds (λxs _ ds1=>orF (Im xs) λj=>Fw j=true/\F8 src g qf te (Bm 0 j.toNat) ds1 Q) xe):tCR1 src (G8 tr) g qf te ds Q xe:=h
theorem qaR6(h:(Op ks)[i]?=some y):∃z,ks[i]?=some z/\y=.int z:=by unfold Op at h;rw[zBd] at h;cases e:ks[i]? with|none=>rw[e] at h;cases h|some z=>rw[e] at h;exact⟨z,rfl,(Nv h).symm⟩
theorem qA1(h:ks[i]?=some k):ks.take (i+1)=ks.take i++[k]:=by rw[Lx,h];rfl
theorem qV6(b:ks.Nodup)(h:ks[i]?=some k):¬k∈ks.take i:=λz=>by
 obtain⟨j,a⟩:=List.getElem?_of_mem z;rw[List.getElem?_take] at a;split at a
 .rename_i hlt
  obtain⟨d,c⟩:=zA5.mp h;obtain⟨e,e2⟩:=zA5.mp a
  have:=(Mm b).mp (e2.trans c.symm)
  lia
 cases a
theorem _root_.Row.Kept.free{n:Nat}{wr:Bool}{g:Nat->Option Int}(KP:Kept n wr hm g S)(a:(S++[k]).Sublist ks)(b:∀q,¬Crowd n wr hm ks q):∃e,Gz n wr hm g k e:=by by_cases h:∃e,Gz n wr hm g k e;{exact h};obtain⟨q,c⟩:=KP.crowd λe z=>h ⟨e,z⟩;exact absurd (c.mono a) (b q)
theorem qao8:∀ps:Pr,D.fzs (Ot ps)=Ot ps|[]=>rfl|p::r=>congrArg (D.q [.int p.1,.int p.2]::·) (qao8 r)
theorem qaU0:∀ps:Pr,D.fzk (kvD ps)=kvD ps|[]=>rfl|p::r=>congrArg ((Sum.inl p.1,D.int p.2)::·) (qaU0 r)
theorem qao9:(Ac z C n wr ps).fz=Ac true C n wr ps:=by show D.ins true C [("rooms",.int n),("wraps",.bl wr),("homes",.l true (D.fzs (Ot ps))),("home_numbers",.dct true (D.fzk (kvD ps)))]=_;rw[qao8,qaU0];rfl
theorem qbe5(h:A.length+B.length<=1000):Gk (.l z (Op A)) (.l z' (Op B))=some (.l false (Op (A++B))):=by rw[show Op (A++B)=Op A++Op B from zBh];exact qi1 ⟨qi9 A,qi9 B,by rw[qm3,qm3];unfold big;lia⟩
theorem co_to(h:tr ds (λxs _ ds1=>orF (gc xs) λd=>Q d ds1) xe):tcO gc (G8 tr) ds Q xe:=h
theorem qI5{l m n:Int}(h1:l<=n)(h2:n<=m):(D.int n).within l m=true:=by show (decide (l<=n)&&decide (n<=m))=true;rw[zAj h1,zAj h2];rfl
theorem qc9{p:List Nat}{w:V}{ps:List Pl}(h:A4 ds i p=some (.hole w)):Al (.pl i p w::ps) (y::ys) ds=Al ps ys (Bd ds i p y):=by show (match A4 ds i p with|some (.hole a)=>if a=w then Al ps ys (Bd ds i p y) else none|_=>none)=_;rw[h];exact if_pos rfl
theorem qo5{C:γ}(a:rdN i ds=some p)(hm:p.isM C m=true)(r:R [p] d)(b:Al [.sl i] [p] (ds.set i .u)=some ds)(q:Q d ds):qE6 C m (Ay R) [] i A7 ds Q xe:=qp9 a hm (qb3 (qa0 a (qs7 r (qa0 b q))))
theorem qD5{C:γ}{p:List Nat}(h1:pf ds=some (i,p))(h2:A4 ds i p=some d)(hm:d.isM C m=true)(h:∀w,tr (Bd ds i p (.hole w)) (λxs ps ds1=>s (d::(xs++[])) (λr ys=>orF (Al (Pl.pl i p w::ps) ys ds1) λa=>Q r a) (λx ys=>orF (Al (Pl.pl i p w::ps) ys ds1) λa=>xe x a)) xe):qS1 C m s [] pf tr ds Q xe:=qa0 h1 (qa0 h2 ⟨hm,h⟩)
theorem qar5(h:tr ds (λxs _ ds1=>xs.length<=big/\Q (.q xs) ds1) xe):tTupV tr ds Q xe:=h
theorem qaM2(h:ta ds (λx ds1=>tb ds1 (λy a=>orF (g x y) λd=>Q d a) xe) xe):t2 g ta tb ds Q xe:=h
def Om(n:Int)(wr:Bool)(ps:Pr):D:=.q [.int n,.bl wr,.l true (Ot ps)]
theorem qaV4(hi:ds[i]?=some (.l false ys))(a:f ds=some d)(b:d.imm=true)(c:ys.length<big)(q:Q .non (ds.set i (.l false (ys++[d])))):Ea gApp i (tbV (B8 f) A7) ds Q xe:=by
 have e:(rdN i ds).bind D.own=some ys:=by rw[qo1 hi rfl];rfl
 refine⟨by rw[e];rfl,qd3 a b ?_⟩;exact qa0 e (qa0 (if_pos c) q)
local macro_rules | `(tactic| walk_at "s")=>`(tactic| exact⟨rfl,rfl,rfl,by decide +kernel,rfl,by decide +kernel,by decide +kernel⟩)
local macro_rules | `(tactic| walk_at "m")=>`(tactic| (intro _ _ _ _ _ k l;repeat' first|exact id|exact k _ _|exact l _ _|refine Exists.imp λ_=>?_|refine And.imp ?_ ?_|refine Ol ?_ ?_|refine forall_imp λ_=>?_))
local macro_rules | `(tactic| walk_at "l")=>`(tactic| (intro _ _ _ h;(repeat (first|refine Exists.elim h λ_ h=>?_|refine And.elim (λh _=>?_) h));rw[h];exact⟨rfl,rfl⟩))
theorem lt2:2<=big:=by show 2<=1000000;decide
theorem lt3:3<=big:=by show 3<=1000000;decide
theorem lt4:4<=big:=by show 4<=1000000;decide
noncomputable def top(i:Nat):Lc:=PySem.Challenge.pw_homeward_k61_growing_step_by_step.main.body.getD i (.Pass ⟨0,0,0,0⟩)
abbrev qay3:Lc:=top 0
abbrev qB3:Lc:=top 12
abbrev qh1:Lc:=top 13
abbrev qw6:Lc:=top 14
abbrev qs0:Lc:=top 15
abbrev qi6:Lc:=top 16
abbrev ql3:Lc:=top 17
abbrev qx1:Lc:=qd8 (top 18) 0
abbrev qh2:Lc:=qd8 (top 18) 1
abbrev ql5:Lc:=qd8 (top 18) 2
abbrev qx2:Lc:=qd8 (top 18) 4
abbrev qC0:Lc:=qd8 (top 18) 5
abbrev qh3:Lc:=qd8 (top 18) 6
abbrev qr9:Lc:=top 20
abbrev qe4:Lc:=top 21
abbrev qB2:Lc:=top 22
abbrev qw5:Lc:=top 23
abbrev qB4:Lc:=top 24
abbrev qw9:Lc:=top 26
abbrev ql4:Lc:=top 27
abbrev ql2:Lc:=top 28
abbrev qB5:Lc:=top 29
abbrev qw7:Lc:=top 30
abbrev qn7:Lc:=top 32
abbrev qj8:Lc:=top 33
abbrev qw8:Lc:=top 34
abbrev qB9:Lc:=qd8 (top 35) 0
abbrev qi7:Lc:=qd8 (top 35) 1
abbrev qj9:Lc:=qd8 (top 35) 2
abbrev qB8:Lc:=qd8 (top 35) 3
abbrev qn8:Lc:=qd8 (top 35) 4
abbrev qJ7:Lc:=qd8 (top 35) 5
abbrev qB7:Lc:=qd8 (top 35) 6
abbrev qB6:Lc:=qd8 (top 35) 7
abbrev qx0:Lc:=qd8 (top 35) 8
abbrev qn6:Lc:=top 36
abbrev qw4:Lc:=top 39
abbrev ql7:Lc:=qd8 (top 40) 0
abbrev qe5:Lc:=qd8 (top 40) 1
abbrev qo0:Lc:=qd8 (top 40) 2
abbrev ql6:Lc:=qd8 (top 40) 3
abbrev qf3:Lc:=qd8 (top 40) 4
abbrev qh4:Lc:=qd8 (top 40) 5
abbrev ql8:Lc:=qd8 (top 40) 6
abbrev qU3:Lc:=top 42
abbrev qaD9:Lc:=top 43
abbrev qai6:Lc:=top 44
abbrev qai8:Lc:=top 45
abbrev qC2:Lc:=top 46
abbrev qK1:Lc:=top 47
abbrev qai7:Lc:=top 48
abbrev qn9:Lc:=top 49
abbrev qU4:Lc:=top 50
abbrev qJ8:Lc:=top 51
abbrev qK0:Lc:=top 52
abbrev qU5:Lc:=top 53
abbrev qC1:Lc:=top 54
abbrev qJ9:Lc:=top 55
abbrev Gw:Lc:=top 56
set_option genInjectivity false in
set_option genSizeOf false in
structure Adr where
 f0:γ
 d0:ε
 f1:γ
 d1:ε
 f2:γ
 d2:ε
 f3:γ
 d3:ε
 f4:γ
 d4:ε
 f5:γ
 d5:ε
 f6:γ
 d6:ε
 f7:γ
 d7:ε
 f8:γ
 d8:ε
 f9:γ
 d9:ε
 f10:γ
 d10:ε
 f11:γ
 d11:ε
 f12:γ
 d12:ε
 f13:γ
 d13:ε
 f14:γ
 d14:ε
 f15:γ
 d15:ε
 f16:γ
 d16:ε
 f17:γ
 d17:ε
 f18:γ
 d18:ε
 f19:γ
 d19:ε
 f20:γ
 d20:ε
 f21:γ
 d21:ε
 f22:γ
 d22:ε
 f23:γ
 d23:ε
 f24:γ
 d24:ε
 f25:γ
 d25:ε
 f26:γ
 d26:ε
 f27:γ
 d27:ε
 f28:γ
 d28:ε
 f29:γ
 d29:ε
 f30:γ
 d30:ε
 f31:γ
 d31:ε
 f32:γ
 d32:ε
 f33:γ
 d33:ε
 f34:γ
 d34:ε
 f35:γ
 d35:ε
 f36:γ
 d36:ε
 f37:γ
 d37:ε
 f38:γ
 d38:ε
 f39:γ
 d39:ε
 f40:γ
 d40:ε
 f41:γ
 d41:ε
 f42:γ
 d42:ε
 f43:γ
 d43:ε
 f44:γ
 d44:ε
 f45:γ
 d45:ε
 f46:γ
 d46:ε
 f47:γ
 d47:ε
 f48:γ
 d48:ε
 f49:γ
 d49:ε
 f50:γ
 d50:ε
 f51:γ
 d51:ε
 f52:γ
 d52:ε
 f53:γ
 d53:ε
 f54:γ
 d54:ε
 f55:γ
 d55:ε
 f56:γ
 d56:ε
 f57:γ
 d57:ε
 f58:γ
 d58:ε
 Ck:Tok
 Cq:Tok
 Cp:Tok
 Cj:Tok
 C4:γ
 C6:γ
 C5:γ
structure Txt(K:Nx)(mg:Str->Option V')(a:Adr):Prop where
 d0:Df K mg "_wall" "_wall" qay3 a.f0 a.d0 ["k"]
 d1:Df K mg "is_whole" "is_whole" qB3 a.f1 a.d1 ["thing"]
 d2:Df K mg "is_whole_within" "is_whole_within" qh1 a.f2 a.d2 ["thing", "least", "most"]
 d3:Df K mg "is_number" "is_number" qw6 a.f3 a.d3 ["thing"]
 d4:Df K mg "are_parted" "are_parted" qs0 a.f4 a.d4 ["numbers"]
 d5:Df K mg "is_number_pair" "is_number_pair" qi6 a.f5 a.d5 ["thing"]
 d6:Df K mg "is_home_list" "is_home_list" ql3 a.f6 a.d6 ["thing"]
 d7:Md K a.C4 "__init__" "Plan.__init__" qx1 a.f7 a.d7 ["self", "rooms", "wraps", "homes"]
 d8:Md K a.C4 "homes_told" "Plan.homes_told" qh2 a.f8 a.d8 ["self"]
 d9:Md K a.C4 "is_room" "Plan.is_room" ql5 a.f9 a.d9 ["self", "thing"]
 d10:Md K a.C4 "home" "Plan.home" qx2 a.f10 a.d10 ["self", "key"]
 d11:Md K a.C4 "far" "Plan.far" qC0 a.f11 a.d11 ["self", "key", "room"]
 d12:Md K a.C4 "goes_ahead" "Plan.goes_ahead" qh3 a.f12 a.d12 ["self", "room", "one", "other"]
 d13:Df K mg "room_ahead" "room_ahead" qr9 a.f13 a.d13 ["plan", "room"]
 d14:Df K mg "word_by_room_ahead" "word_by_room_ahead" qe4 a.f14 a.d14 ["plan", "rooms", "room"]
 d15:Df K mg "word_due" "word_due" qB2 a.f15 a.d15 ["plan", "rooms", "room"]
 d16:Df K mg "is_turned" "is_turned" qw5 a.f16 a.d16 ["plan", "rooms"]
 d17:Df K mg "fault_of" "fault_of" qB4 a.f17 a.d17 ["plan", "rooms"]
 d18:Df K mg "are_crowd" "are_crowd" qw9 a.f18 a.d18 ["plan", "keys", "room"]
 d19:Df K mg "crowded_room" "crowded_room" ql4 a.f19 a.d19 ["plan", "keys"]
 d20:Df K mg "refuse_crowd" "refuse_crowd" ql2 a.f20 a.d20 ["plan", "keys"]
 d21:Df K mg "bring_in" "bring_in" qB5 a.f21 a.d21 ["plan", "rooms", "key"]
 d22:Df K mg "house_all" "house_all" qw7 a.f22 a.d22 ["plan", "keys"]
 d23:Df K mg "room_behind" "room_behind" qn7 a.f23 a.d23 ["plan", "room"]
 d24:Df K mg "is_drawn_from" "is_drawn_from" qj8 a.f24 a.d24 ["plan", "rooms", "room"]
 d25:Df K mg "draw_back" "draw_back" qw8 a.f25 a.d25 ["plan", "rooms", "room"]
 d26:MdN K a.C6 "__init__" "Row.__init__" qB9 a.f26 a.d26 ["self", "plan", "rooms"]
 d27:Md K a.C6 "rooms_held" "Row.rooms_held" qi7 a.f27 a.d27 ["self"]
 d28:Md K a.C6 "keys_held" "Row.keys_held" qj9 a.f28 a.d28 ["self"]
 d29:Md K a.C6 "many" "Row.many" qB8 a.f29 a.d29 ["self"]
 d30:Md K a.C6 "room_of" "Row.room_of" qn8 a.f30 a.d30 ["self", "key"]
 d31:Md K a.C6 "put" "Row.put" qJ7 a.f31 a.d31 ["self", "key"]
 d32:Md K a.C6 "take" "Row.take" qB7 a.f32 a.d32 ["self", "key"]
 d33:Md K a.C6 "undo" "Row.undo" qB6 a.f33 a.d33 ["self"]
 d34:Md K a.C6 "deeds" "Row.deeds" qx0 a.f34 a.d34 ["self"]
 d35:Df K mg "row_of_keys" "row_of_keys" qn6 a.f35 a.d35 ["plan", "keys"]
 d36:Df K mg "row_sized" "row_sized" qw4 a.f36 a.d36 ["row", "rooms"]
 d37:Md K a.C5 "__init__" "Growing.__init__" ql7 a.f37 a.d37 ["self", "homes"]
 d38:Md K a.C5 "house_anew" "Growing.house_anew" qe5 a.f38 a.d38 ["self", "rooms"]
 d39:Md K a.C5 "put" "Growing.put" qo0 a.f39 a.d39 ["self", "key"]
 d40:Md K a.C5 "take" "Growing.take" ql6 a.f40 a.d40 ["self", "key"]
 d41:Md K a.C5 "rooms_now" "Growing.rooms_now" qf3 a.f41 a.d41 ["self"]
 d42:Md K a.C5 "row_now" "Growing.row_now" qh4 a.f42 a.d42 ["self"]
 d43:Md K a.C5 "anew" "Growing.anew" ql8 a.f43 a.d43 ["self"]
 d44:Df K mg "_law_whole" "_law_whole" qU3 a.f44 a.d44 ["_law_found"]
 d45:Df K mg "_law_bag" "_law_bag" qaD9 a.f45 a.d45 ["_law_script"]
 d46:Df K mg "_law_take" "_law_take" qai6 a.f46 a.d46 ["_law_bag_here", "_law_many"]
 d47:Df K mg "_law_home" "_law_home" qai8 a.f47 a.d47 ["_law_plan", "_law_key"]
 d48:Df K mg "_law_passing" "_law_passing" qC2 a.f48 a.d48 ["_law_plan", "_law_keys_here"]
 d49:Df K mg "_law_housed" "_law_housed" qK1 a.f49 a.d49 ["_law_plan", "_law_keys_here"]
 d50:Df K mg "_law_keys" "_law_keys" qai7 a.f50 a.d50 ["_law_bag_here", "_law_many"]
 d51:Df K mg "_law_told_homes" "_law_told_homes" qn9 a.f51 a.d51 ["_law_bag_here", "_law_keys_here"]
 d52:Df K mg "_law_grown" "_law_grown" qU4 a.f52 a.d52 ["_law_size", "_law_many"]
 d53:Df K mg "_law_shrunk" "_law_shrunk" qJ8 a.f53 a.d53 ["_law_size", "_law_many"]
 d54:Df K mg "_law_is_row" "_law_is_row" qK0 a.f54 a.d54 ["_law_row", "_law_plan", "_law_due"]
 d55:Df K mg "_law_alike" "_law_alike" qU5 a.f55 a.d55 ["_law_row", "_law_plan", "_law_there", "_law_moved"]
 d56:Df K mg "_law_stepped" "_law_stepped" qC1 a.f56 a.d56 ["_law_row", "_law_state", "_law_key"]
 d57:Df K mg "_law_picked" "_law_picked" qJ9 a.f57 a.d57 ["_law_bag_here", "_law_keys_here", "_law_there", "_law_turn", "_law_phases"]
 d58:Df K mg "law" "law" Gw a.f58 a.d58 ["_law_script"]
 Cv:mg "MOST_NUMBER"=some (.int 1000000000000000000 a.Ck)
 Cs:mg "MOST_ROOMS"=some (.int 64 a.Cq)
 D0:mg "MOST_HOMES"=some (.int 64 a.Cp)
 Cu:mg "LEAST_ROOMS"=some (.int 4 a.Cj)
 De:mg "abs"=none
 Da:mg "all"=none
 D1:mg "bool"=none
 D5:mg "dict"=none
 D2:mg "enumerate"=none
 Cz:mg "int"=none
 Cc:mg "isinstance"=none
 Co:mg "len"=none
 Ct:mg "list"=none
 Db:mg "max"=none
 Cr:mg "range"=none
 Dc:mg "set"=none
 D6:mg "sorted"=none
 D9:mg "tuple"=none
 C9:Cl K mg "Plan" a.C4
 D3:Mk K a.C4 a.f7
 Ca:qg1 K a.C4 "rooms"
 Cg:qg1 K a.C4 "wraps"
 Cw:qg1 K a.C4 "homes"
 Ch:qg1 K a.C4 "home_numbers"
 D8:IsO K a.C4
 C8:Cl K mg "Row" a.C6
 D7:Mk K a.C6 a.f26
 Cd:qg1 K a.C6 "plan"
 Ce:qg1 K a.C6 "held"
 Ci:qg1 K a.C6 "done"
 D4:IsO K a.C6
 C7:Cl K mg "Growing" a.C5
 Cy:Mk K a.C5 a.f37
 Cb:qg1 K a.C5 "row"
 Cf:qg1 K a.C5 "housed_anew"
section
variable{P:K8}{w:La}{K:Nx}{mg:Str->Option V'}{base:Heap}{a:Adr}
theorem qG9:qa8 ["thing"] ["thing"] (qa2 qB3):=by walk_at "s"
def qad1:VSp:=Dh (fx1 λx=>x.kind.map λ_=>.bl x.whole)
theorem qae5(T:Txt K mg a):VFn P w K mg base 1 a.f1 a.d1 ["thing"] qad1:=by refine VFn.mk' T.d1.F qG9 (wOf [true]) qz9 (λ_ _ _=>qam8) (λ_ _ _=>imm1) (λ_ _ _ _ _ _ _ c=>⟨_,(Ag (Ap (qa4 (Jt (vbi qj2 qM9.ops T.Cc (qa3 (vnm 0) (qa3 (vty "int" T.Cz) qa6 rfl) rfl)) (G4 (vnot (vbi qj2 qM9.ops T.Cc (qa3 (vnm 0) (qa3 (vty "bool" T.D1) qa6 rfl) rfl)))))))),λf Q g h=>?_⟩);obtain⟨x,d,rfl,e,q⟩:=Ke h;obtain⟨t,b,rfl⟩:=zA7.mp e;cases x<;>first|exact q|cases b
theorem qk4:qa8 ["thing", "least", "most"] ["thing", "least", "most"] (qa2 qh1):=by walk_at "s"
def qv4:VSp:=Dh (fx3 λx l m=>x.kind.bind λ_=>l.asI.bind λi=>m.asI.map λj=>.bl (x.within i j))
theorem qd5(T:Txt K mg a):VFn P w K mg base 2 a.f2 a.d2 ["thing", "least", "most"] qv4:=by
 refine VFn.mk' T.d2.F qk4 (wOf [true,true,true]) qz9 (λ_ _ _=>qaR5) (λ_ _ _=>imm3) (λ_ _ _ _ _ _ _ b=>⟨_,(Ag (Ap (Fb (Aj T.d1 (qae5 T) qa1 (rm b) (vaN 0 Ad)) (G3 (qa4 (vch Hd os_le Hd os_le (vnm 1) (vnm 0) (vnm 2))))))),λo Q p h=>?_⟩);obtain⟨x,l,m,d,rfl,e,q⟩:=pure3 h;obtain⟨t,c,e⟩:=zA1.mp e;obtain⟨i,f,e⟩:=zA1.mp e;obtain⟨j,g,rfl⟩:=zA7.mp e;cases l<;>cases f;cases m<;>cases g;cases x with
 |int n=>
  refine⟨rfl,?_⟩;show orF (f3 gLe gLe (rdN 1) (rdN 0) (rdN 2) [.int n,.int i,.int j]) _;have k:f3 gLe gLe (rdN 1) (rdN 0) (rdN 2) [.int n,.int i,.int j]=some (.bl (decide (i<=n)&&decide (n<=j))):=by show (if decide (i<=n)=true then some (D.bl (decide (n<=j))) else some (.bl false))=_;cases decide (i<=n)<;>rfl
  rw[k];exact q
 |_=>first|exact⟨rfl,q⟩|cases c
theorem qO2:qa8 ["numbers"] ["numbers"] (qa2 qs0):=by walk_at "s"
def qN8:VSp:=Ay λds d=>∃z ks,ds=[.l z (Op ks)]/\ks.length<=1000/\d=.bl (decide ks.Nodup)
theorem qO9(T:Txt K mg a):VFn P w K mg base 1 a.f4 a.d4 ["numbers"] qN8:=by
 refine VFn.mk2 T.d4.F qO2 (wOf [true]) qb2 (by walk_at "l") (λ_ _ _ _ _ _ _ e=>⟨_,(Ag (Ap (qa4 (v2 (Aw (qs4 e.u64) (qa9 _)) Bp (vlenS T.Co T.Dc (vnm 0)) (vbi qq2 qq1.ops T.Co (qa3 (vnm 0) qa6 rfl)))))),λj Q k h=>?_⟩);obtain⟨d,⟨z,b,rfl,f,rfl⟩,q⟩:=h;have g:f1 Hv (rdN 0) [.l z (Op b)]=some (.int (qo7 b)):=by show ((intsD (Op b)).bind λc=>gd (c.length<=1000) (.int (qo7 c)))=_;rw[qan7];exact qi1 f
 have e2:f2 gEq (f1 Hv (rdN 0)) (A6 (fx1 E5) (A5 (rdN 0) λx=>some [])) [.l z (Op b)]=some (.bl (decide b.Nodup)):=by show ((f1 Hv (rdN 0) [.l z (Op b)]).bind λx=>gEq x (.int (Op b).length))=_;rw[g,qm3];show some (D.bl ((qo7 b:Int)==(b.length:Int)))=_;have:=qW8 b;by_cases h:b.Nodup;{rw[zAj h,this.mpr h,zB3]};have i:¬((qo7 b:Int)=(b.length:Int)):=λz=>h (this.mp (by exact_mod_cast z));rw[zB6 h,beq_false_of_ne i]
 exact qa0 e2 q
theorem qA8:qa8 ["thing"] ["thing"] (qa2 qw6):=by walk_at "s"
def qr6:VSp:=Dh (fx1 λx=>x.kind.map λ_=>.bl x.num)
theorem qc4(T:Txt K mg a):VFn P w K mg base 3 a.f3 a.d3 ["thing"] qr6:=by refine VFn.mk' T.d3.F qA8 (wOf [true]) qz9 (λ_ _ _=>qam8) (λ_ _ _=>imm1) (λ_ _ _ _ _ _ _ b=>⟨_,(Ag (Ap (Aj T.d2 (qd5 T) qa1 (rm b) (vaN 0 (vaV (qa4 Ae) (vaV (qa4 (vgi T.Cv)) Ad)))))),λf Q g h=>?_⟩);obtain⟨x,d,rfl,e,q⟩:=Ke h;obtain⟨t,c,rfl⟩:=zA7.mp e;cases x<;>first|exact⟨rfl,q⟩|cases c
theorem qz0:qa8 ["thing"] ["thing"] (qa2 qi6):=by walk_at "s"
def _root_.LV.D.pairB:D->Bool|.q [x,y]=>x.num&&y.num|_=>false
def _root_.LV.D.kinded:D->Bool|.q ds=>(ds.all λd=>d.kind.isSome&&d.imm)&&decide (ds.length<=1000)|_=>true
def qy8:VSp:=Dh (fx1 λx=>if x.kinded=true then x.kind.map λ_=>.bl x.pairB else none)
theorem qz2(T:Txt K mg a):VFn P w K mg base 4 a.f5 a.d5 ["thing"] qy8:=by
 refine VFn.mk' T.d5.F qz0 (wOf [true]) qz9 (λ_ _ _=>qam8) (λ_ _ _=>imm1) (λ_ _ _ _ _ _ _ f=>⟨_,(Ag (Ap (Fb (qa4 (vbi qj2 qM9.ops T.Cc (qa3 (vnm 0) (qa3 (vty "tuple" T.D9) qa6 rfl) rfl))) (Fb (qa4 (v2 (Aw (qs4 f.u64) (qa9 _)) Bp (vbi qq2 qq1.ops T.Co (qa3 (vnm 0) qa6 rfl)) Ae)) (Fb (Aj T.d3 (qc4 T) qa1 (rm f) (vaV (qb4 (v2 (Ax qb5) Aq (vnm 0) Ae)) Ad)) (G3 (Aj T.d3 (qc4 T) qa1 (rm f) (vaV (qb4 (v2 (Ax qb5) Aq (vnm 0) Ae)) Ad)))))))),λb Q m h=>?_⟩);obtain⟨x,d,rfl,e,q⟩:=Ke h;cases x with
 |q b=>
  by_cases c:(D.q b).kinded=true
  .rw[if_pos c] at e;cases e;have c:=zAg.mp c;have i:=zBe.mp c.1;match b with
   |[]=>exact q|[_]=>exact q|[x,y]=>
    have j:=zAg.mp (i x (by simp));have l:=zAg.mp (i y (by simp));obtain⟨t,n⟩:=zB1.mp j.1;obtain⟨u,o⟩:=zB1.mp l.1;refine⟨j.2,?_⟩;refine qa0 (a:=D.bl x.num) (by show (x.kind.map _)=_;rw[n];rfl) ?_;refine ite_b (λg=>⟨l.2,qa0 (a:=D.bl y.num) (by show (y.kind.map _)=_;rw[o];rfl) ?_⟩) λg=>?_
    .have:(D.q [x,y]).pairB=y.num:=by show (x.num&&y.num)=_;rw[g];rfl
     rw[this] at q;exact q
    have:(D.q [x,y]).pairB=false:=by show (x.num&&y.num)=_;rw[g];rfl
    rw[this] at q;exact q
   |x::y::z::r=>
    have e2:f2 gEq (A6 (fx1 E5) (A5 (rdN 0) λx=>some [])) (kC (D.int 2)) [.q (x::y::z::r)]=some (.bl false):=by
     show some (D.bl (((x::y::z::r).length:Int)==2))=_;have:(((x::y::z::r).length:Int)==2)=false:=by
      have:((x::y::z::r).length:Int)≠2:=by simp;lia
      simpa using this
     rw[this]
    have:orF (f2 gEq (A6 (fx1 E5) (A5 (rdN 0) λx=>some [])) (kC (D.int 2)) [.q (x::y::z::r)]) (λd=>orF d.asB λk=>if k=true then Hn (qn3 qr6 [] (tbV (B8 (f2 gIx (rdN 0) (kC (D.int 0)))) A7)) (qn3 qr6 [] (tbV (B8 (f2 gIx (rdN 0) (kC (D.int 1)))) A7)) [.q (x::y::z::r)] (λd b=>Q d (fin (wOf [true]) 0 [.q (x::y::z::r)] b)) (λp b=>m p (fin (wOf [true]) 0 [.q (x::y::z::r)] b)) else Q (.bl false) [.q (x::y::z::r)]):=by rw[e2];exact q
    exact this
  rw[if_neg c] at e;cases e
 |_=>first|(cases e;exact q)|cases e
theorem qF4:qa8 ["thing"] ["thing"] (qa2 ql3):=by walk_at "s"
noncomputable def Hb:D->Option Int|.q (.int k::_)=>some k|_=>none
def _root_.LV.D.homesB:D->Bool|.l _ ys=>decide (ys.length<=64)&&(ys.all D.pairB&&decide (ys.filterMap Hb).Nodup)|_=>false
def _root_.LV.D.lstOk(p:D->Bool):D->Bool|.l _ ys=>D.imms ys&&ys.all p&&decide (ys.length<=1000)|x=>x.kind.isSome
def Kk(y:D):Bool:=y.kind.isSome&&y.kinded
theorem qaQ6(h:x.num=true):∃n,x=.int n/\An n:=by cases x with|int n=>have:=zAg.mp h;exact⟨n,rfl,zA8 this.1,zA8 this.2⟩|_=>cases h
theorem qL2(h:An n):(D.int n).num=true:=by show (decide (0<=n)&&decide (n<=1000000000000000000))=true;rw[zAj h.1,zAj h.2];rfl
theorem qaP7(h:y.pairB=true):∃k m,y=.q [.int k,.int m]/\An k/\An m:=by cases y with|q a=>(match a,h with|[x,y],h=>have h:=zAg.mp h;obtain⟨k,rfl,b⟩:=qaQ6 h.1;obtain⟨m,rfl,c⟩:=qaQ6 h.2;exact⟨k,m,rfl,b,c⟩)|_=>cases h
theorem qaj7:∀{ys:Ds},ys.all D.pairB=true->∃ps:Pr,ys=Ot ps/\∀p∈ps,An p.1/\An p.2|[],_=>⟨[],rfl,λp h=>by simp at h⟩|y::r,h=>by rw[Ly,zBi] at h;obtain⟨k,m,rfl,b,c⟩:=qaP7 h.1;obtain⟨ps,rfl,d⟩:=qaj7 h.2;refine⟨(k,m)::ps,rfl,λp a=>?_⟩;rcases zAl.mp a with rfl|a;{exact⟨b,c⟩};exact d p a
theorem qan4:∀ps:Pr,(Ot ps).filterMap Hb=ps.map (·.1)|[]=>rfl|p::r=>by show p.1::(Ot r).filterMap Hb=_;rw[qan4 r];rfl
theorem qaV5:∀{ps:Pr},(∀p∈ps,An p.1/\An p.2)->(Ot ps).all D.pairB=true|[],_=>rfl|p::r,h=>by show (((D.int p.1).num&&(D.int p.2).num)&&(Ot r).all D.pairB)=true;rw[qL2 (h p zA9).1,qL2 (h p zA9).2,qaV5 λq a=>h q (zA6 _ a)];rfl
theorem qaV6:∀ps:Pr,(Ot ps).all Kk=true|[]=>rfl|p::r=>by show (true&&(Ot r).all Kk)=true;rw[qaV6 r];rfl
theorem qu8(h:qt3 ps):(D.l z (Ot ps)).homesB=true/\(D.l z (Ot ps)).lstOk Kk=true:=by
 have a:(Ot ps).length<=64:=by simpa[Ot] using h.len
 constructor;{show (decide ((Ot ps).length<=64)&&((Ot ps).all D.pairB&&decide ((Ot ps).filterMap Hb).Nodup))=true;rw[zAj a,qaV5 h.nums,qan4,zAj h.nd];rfl};show (D.imms (Ot ps)&&(Ot ps).all Kk&&decide ((Ot ps).length<=1000))=true;rw[qP5,qaV6,zAj ⋯];rfl
theorem qac1{α:Type}(f:α->Bool):∀l:List α,bools (l.map λa=>.bl (f a))=some (l.map f)|[]=>rfl|a::r=>by show (bools (r.map λa=>D.bl (f a))).map (λb=>f a::b)=_;rw[qac1 f r];rfl
theorem qaV7(f:α->Bool)(l:List α):gAll (.l false (l.map λa=>.bl (f a)))=some (.bl (l.all f)):=by show (bools (l.map λa=>D.bl (f a))).map (λb=>D.bl (b.all id))=_;rw[qac1];show some (D.bl ((l.map f).all id))=_;rw[Nh];rfl
def qE8:VSp:=Ay λds d=>∃x,ds=[x]/\x.lstOk Kk=true/\d=.bl x.homesB
theorem qq8(T:Txt K mg a):VFn P w K mg base 5 a.f6 a.d6 ["thing"] qE8:=by
 refine VFn.mk2 T.d6.F qF4 (wOf [true]) qb2 (by walk_at "l") (λ_ _ _ _ _ _ _ A=>⟨_,(Ab (sif (tor (Bj (tv (vbi qj2 qM9.ops T.Cc (qa3 (vnm 0) (qa3 (vty "list" T.Ct) qa6 rfl) rfl)))) (G2 (q2 (Am Bk (qa9 _)) Bn (vbi qq2 qq1.ops T.Co (qa3 (vnm 0) qa6 rfl)) (vgi T.D0)))).te (Ag (Ap (qa4 vbl))) Av) (Ag (Ap (Fb (ebi (qac0 rfl) qaU7.ops T.Da (Ep (vaV (ecN (NY:=["pair"]) (src:=[none]) 0 (blk (λf C g H0 i=>(Bf 0 (show (["pair"]:List Str).Nodup by decide +kernel))) (λf C g H0 i=>Fi) (λf C g H0 i=>(Aj T.d5 (qz2 T) L2.qa1 (rm A) (vaN 0 Ad))))) Ad))) (G3 (Aj T.d4 (qO9 T) qa1 (rm A) (vaV (ecN (NY:=["pair"]) (src:=[none]) 0 (blk (λf C g H0 i=>(Bf 0 (show (["pair"]:List Str).Nodup by decide +kernel))) (λf C g H0 i=>Fi) (λf C g H0 i=>(qb4 (v2 (Ax qb5) Aq (vnm 0) Ae))))) Ad))))))),λJ Q L h=>?_⟩);obtain⟨d,⟨x,rfl,j,rfl⟩,q⟩:=h;cases x with
 |l z b=>
  have j:=zAg.mp j;have k:=zAg.mp j.1;have B:=zA8 j.2;refine ite_b (p:=decide ((64:Int)<(b.length:Nat))) (λh=>?_) (λh=>?_)
  .have o:¬b.length<=64:=by have:=zA8 h;lia
   have:(D.l z b).homesB=false:=by show (decide (b.length<=64)&&_)=false;rw[zB6 o];rfl
   rw[this] at q;exact q
  have o:b.length<=64:=by have:=zB0 h;lia
  have E:(D.l z b).homesB=(b.all D.pairB&&decide (b.filterMap Hb).Nodup):=by show (decide (b.length<=64)&&_)=_;rw[zAj o];rfl
  have m:=zBe.mp k.2;refine⟨k.1,?_⟩;refine qj7 (λι=>∃d,ι=[d]) (λy=>some (.bl y.pairB)) b [] _ (by show 0+b.length<big;unfold big;lia) ⟨_,rfl⟩ ?_ ?_;{rintro y s ι u ⟨d,rfl⟩ R v c;have G:=zAg.mp (m y s);obtain⟨t,H⟩:=zB1.mp G.1;refine Iw (x:=y) (rd0 (qD8 H)) (qa0 (a:=D.bl y.pairB) ?_ ?_);{show (if y.kinded=true then y.kind.map _ else none)=_;rw[if_pos G.2,H];rfl};exact⟨c,v _ ⟨_,rfl⟩⟩};rintro ι ⟨d,rfl⟩;rw[zB4,qap1];refine qa0 (qaV7 D.pairB b) (ite_b (λr=>?_) λr=>?_)
  .obtain⟨n,rfl,M⟩:=qaj7 r;refine⟨qP5 n,qj7 (λι=>∃d,ι=[d]) (λy=>(Hb y).map .int) (Ot n) [] _ (by show 0+(Ot n).length<big;unfold big;lia) ⟨_,rfl⟩ ?_ ?_⟩;{rintro y s ι u ⟨d,rfl⟩ R v c;obtain⟨p,I,rfl⟩:=zAx.mp s;exact⟨rfl,c,v _ ⟨_,rfl⟩⟩};rintro ι ⟨d,rfl⟩;have e:[]++(Ot n).filterMap (λy=>(Hb y).map D.int)=Op (n.map (·.1)):=by rw[zB4];unfold Ot Op;rw[M0,zC2];exact qap1 _ _
   rw[e];rw[E,r,qan4] at q;exact⟨_,⟨false,_,rfl,by simp;simp[Ot] at o;lia,rfl⟩,q⟩
  rw[E,r] at q;exact q
 |_=>first|exact q|cases j
theorem qU1:qa8 ["self", "rooms", "wraps", "homes"] ["self", "rooms", "wraps", "homes"] (qa2 qx1):=by walk_at "s"
def qT1(C:γ):VSp:=λds Q _=>∃n wr z ps,ds=[.ins false C [],.int n,.bl wr,.l z (Ot ps)]/\1<=n/\n<=64/\qt3 ps/\Q .non [Ac false C n wr ps,.int n,.bl wr,.l z (Ot ps)]
theorem qaA6:Hl (.l z (Ot ps))=some (.l false (Ot ps)):=qi1 (qP5 ps)
theorem qD1(T:Txt K mg a):VFn P w K mg base 6 a.f7 a.d7 ["self", "rooms", "wraps", "homes"] (qT1 a.C4):=by refine VFn.mk2 T.d7.F qU1 (wOf [true,true,true,true]) (by walk_at "m") (by walk_at "l") (λ_ _ _ _ _ _ _ f=>⟨_,(Ab (sif (Bj (te (Aj T.d2 (qd5 T) qa1 (rm f) (vaN 1 (vaV (qa4 Ae) (vaV (qa4 (vgi T.Cs)) Ad)))))) (Ag qk3) Av) (Ab (sif (Bj (tv (vbi qj2 qM9.ops T.Cc (qa3 (vnm 2) (qa3 (vty "bool" T.D1) qa6 rfl) rfl)))) (Ag qk3) Av) (Ab (sif (Bj (te (Aj T.d6 (qq8 T) qa1 (rm f) (vaN 3 Ad)))) (Ag qk3) Av) (Ab (Fg rfl (vpn 0) (qb4 (vnm 1)) T.C9.cl T.Ca) (Ab (Fg rfl (vpn 0) (qb4 (vnm 2)) T.C9.cl T.Cg) (Ab (Fg rfl (vpn 0) (qa4 (Fc qj1 qQ5.ops T.Ct (qa3 (vnm 3) qa6 rfl))) T.C9.cl T.Cw) (Ag (Fg rfl (vpn 0) (qa4 (Fc (qQ9 rfl) qaB9.ops T.D5 (qa3 (vnm 3) qa6 rfl))) T.C9.cl T.Ch)))))))),λk Q g h=>?_⟩);obtain⟨n,wr,z,c,rfl,i,j,e,q⟩:=h;refine qb0 [.ins false a.C4 [],.int n,.bl wr,.l z (Ot c)] (λK b=>?_) (qb0 [.ins false a.C4 [],.int n,.bl wr,.l z (Ot c)] (λK b=>b) (qb0 [.ins false a.C4 [],.int n,.bl wr,.l z (Ot c)] (λK b=>?_) ?_));{refine qao2 (λQ g q=>qe0 (qb9 (x:=.int n) rfl (qc0 (y:=.int 1) rfl (qc0 (y:=.int 64) rfl (qb3 (qa0 (a:=D.int n) rfl (qC3 (d:=D.bl true) ?_ q))))))) b;show some (D.bl ((D.int n).within 1 64))=_;rw[qI5 i j]};{refine Iw rfl ⟨D.bl true,⟨_,rfl,(qu8 e).2,by rw[(qu8 e).1]⟩,b⟩};refine qb0 [.ins false a.C4 [("rooms",.int n)],.int n,.bl wr,.l z (Ot c)] (λK b=>⟨rfl,qa0 (a:=(0,[])) rfl (qa0 qf6 ⟨∅,b⟩)⟩) ?_;refine qb0 [.ins false a.C4 [("rooms",.int n),("wraps",.bl wr)],.int n,.bl wr,.l z (Ot c)] (λK b=>⟨rfl,qa0 (a:=(0,[])) rfl (qa0 qf6 ⟨by show 1<100;decide,b⟩)⟩) ?_;refine qb0 [.ins false a.C4 [("rooms",.int n),("wraps",.bl wr),("homes",.l false (Ot c))],.int n,.bl wr,.l z (Ot c)] (λK b=>?_) ?_;{refine qa0 (qaA6 (z:=z)) ?_;exact qa0 (a:=(0,[])) rfl (qa0 qf6 ⟨by show 2<100;decide,b⟩)};refine qa0 (qaB7 (z:=z) e.nd) ?_;exact qa0 (a:=(0,[])) rfl (qa0 qf6 ⟨by show 3<100;decide,q⟩)
theorem qF5:qa8 ["self", "thing"] ["self", "thing"] (qa2 ql5):=by walk_at "s"
def qF0(C:γ):VSp:=Ay λds d=>∃z n wr ps x t,ds=[Ac z C n wr ps,x]/\x.kind=some t/\d=.bl (x.within 0 (n-1))
theorem qq9(T:Txt K mg a):VFn P w K mg base 3 a.f9 a.d9 ["self", "thing"] (qF0 a.C4):=by refine VFn.mk2 T.d9.F qF5 (wOf [true,true]) qb2 (by walk_at "l") (λ_ _ _ _ _ _ _ f=>⟨_,(Ag (Ap (Aj T.d2 (qd5 T) qa1 (rm f) (vaN 1 (vaV (qa4 Ae) (vaV (qa4 (v2 (Ah qK7) qK6 (A8 rfl (vnm 0) T.C9.cl T.Ca) Ae)) Ad)))))),λi Q j h=>?_⟩);obtain⟨d,⟨z,n,wr,b,x,t,rfl,c,rfl⟩,q⟩:=h;have e:rdN 1 [Ac z a.C4 n wr b,x]=some x:=qm8.mpr ⟨rfl,qD8 c⟩;have g:f2 gSub (f1 (D.fld a.C4 "rooms") (rdN 0)) (kC (.int 1)) [Ac z a.C4 n wr b,x]=some (.int (n-1)):=Af (Au rfl qc2) rfl rfl;show qn3 _ _ (tbN 1 _) [Ac z a.C4 n wr b,x] _ _;refine qb9 e ?_;refine qc0 (y:=.int 0) rfl ?_;refine qc0 g ?_;refine qa0 e ?_;refine qC3 (d:=.bl (x.within 0 (n-1))) ?_ (qa0 rfl q);show x.kind.bind _=_;rw[c];rfl
theorem qU2:qa8 ["self", "key"] ["self", "key"] (qa2 qx2):=by walk_at "s"
def qT2(C:γ):VSp:=Ay λds d=>∃z n wr ps k,ds=[Ac z C n wr ps,.int k]/\1<=n/\An k/\d=.int (qd2 n ps k)
theorem qao6{z:Bool}{ps:Pr}(h:fa ds=some (.dct z (kvD ps)))(a:rdN i ds=some (.int k)):fget fa (rdN i) (rdN i) ds=some (.int ((ps.lookup k).getD k)):=by unfold fget;rw[h,a];show gd (((Dv (kvD ps) (.inl k)).getD (.int k)).imm=true) ((Dv (kvD ps) (.inl k)).getD (.int k))=_;rw[qax8];cases ps.lookup k<;>rfl
theorem qau1{x:Int}(h:1<=n):Ih (.int x) (.int n)=some (.int (x%n)):=qi1 (zAj ⋯)
theorem qs5(T:Txt K mg a):VFn P w K mg base 4 a.f10 a.d10 ["self", "key"] (qT2 a.C4):=by refine VFn.mk2 T.d10.F qU2 (wOf [true,true]) qb2 (by walk_at "l") (λ_ _ _ _ _ _ _ b=>⟨_,(Ab (sif (Bj (te (Aj T.d3 (qc4 T) qa1 (rm b) (vaN 1 Ad)))) (Ag qk3) Av) (Ag (Ap (qa4 (v2 (Ah qo3) qo2 (vget (hu_of b) (A8 rfl (vnm 0) T.C9.cl T.Ch) (vnm 1) (vnm 1) ⟨rfl,rfl,rfl,rfl⟩) (A8 rfl (vnm 0) T.C9.cl T.Ca)))))),λg Q i h=>?_⟩);obtain⟨d,⟨z,n,wr,c,k,rfl,e,f,rfl⟩,q⟩:=h;have key:orF (f2 Ih (fget (f1 (D.fld a.C4 "home_numbers") (rdN 0)) (rdN 1) (rdN 1)) (f1 (D.fld a.C4 "rooms") (rdN 0)) [Ac z a.C4 n wr c,.int k]) (λd=>Q d [Ac z a.C4 n wr c,.int k]):=qa0 (Af (qao6 (Au rfl qI2) rfl) (Au rfl qc2) (qau1 e)) q;exact Iw rfl (qC3 (d:=D.bl true) (by show some (D.bl (D.int k).num)=_;rw[qL2 f]) (qa0 rfl (qa0 (a:=true) rfl key)))
theorem qH2:qa8 ["self", "key", "room", "steps"] ["self", "key", "room"] (qa2 qC0):=by walk_at "s"
def qad7(C:γ):VSp:=Ay λds d=>∃z n wr ps k r,ds=[Ac z C n wr ps,.int k,.int r]/\1<=n/\An k/\0<=r/\r<n/\d=Iv (B6 n wr ps k r)
theorem Ja(a:An k):fx1 (λx=>x.kind.map λ_=>.bl x.num) [.int k]=some (.bl true):=by show some (D.bl (D.int k).num)=_;rw[qL2 a]
theorem qay6{r:Int}(d:0<=r)(h1:r<n):∃z' c a b x t,[Ac z C n wr ps,.int r]=[Ac z' C c a b,x]/\x.kind=some t/\D.bl true=.bl (x.within 0 (c-1)):=⟨z,n,wr,ps,_,_,rfl,rfl,by rw[qI5 d ⋯]⟩
theorem qk7(T:Txt K mg a):VFn P w K mg base 5 a.f11 a.d11 ["self", "key", "room"] (qad7 a.C4):=by refine VFn.mk2 T.d11.F qH2 (wOf [true,true,true]) qb2 (by walk_at "l") (λ_ _ _ _ _ _ _ e=>⟨_,(Ab (sif (Bj (te (Aj T.d3 (qc4 T) qa1 (rm e) (vaN 1 Ad)))) (Ag qk3) Av) (Ab (sif (Bj (te (qj0 0 T.d9 T.C9.cl (qq9 T) qa1 (rm e) (vaN 2 Ad)))) (Ag qk3) Av) (Ab (Ak 3 qH2.nd (e2n 2 (Ah qK7) qK6 (qj0 0 T.d10 T.C9.cl (qs5 T) qa1 (rm e) (vaN 1 Ad)))) (Ab (sif (tv (A8 rfl (vnm 0) T.C9.cl T.Cg)) (Ag (Ap (qa4 (v2 (Ah qo3) qo2 (vnm 3) (A8 rfl (vnm 0) T.C9.cl T.Ca))))) Av) (Ag (Ap (eif (q2 (Am He (qa9 _)) Jq (vnm 3) Ae) (qb4 (vnm 3)) (qa4 Ba)))))))),λs Q i h=>?_⟩);obtain⟨d,⟨z,n,wr,c,k,r,rfl,j,m,f,g,rfl⟩,q⟩:=h;refine Ey (λQ i q=>Ix (x:=.int k) rfl (Ja m) rfl q) ?_;refine Ey (λQ i q=>qL6 (p:=Ac z a.C4 n wr c) (x:=.int r) rfl (qg7 rfl) rfl rfl (qay6 f g) rfl q) ?_;refine qb0 [Ac z a.C4 n wr c,.int k,.int r,.int (r-qd2 n c k)] (λK o=>?_) ?_;{exact⟨rfl,qL6 (p:=Ac z a.C4 n wr c) (x:=.int k) (d:=.int (qd2 n c k)) rfl (qg7 rfl) rfl rfl ⟨z,n,wr,c,k,rfl,j,m,rfl⟩ rfl (qa0 (a:=D.int (r-qd2 n c k)) rfl o)⟩};unfold B6 at q;refine qm4 wr (Au rfl qp0) (λh=>?_) (λh=>?_);{subst h;exact qf5 (.int ((r-qd2 n c k)%n)) (Af rfl (Au rfl qc2) (qau1 j)) q};subst h;refine qf4 (Ga (b:=decide (0<=r-qd2 n c k)) rfl (λh=>?_) (λh=>?_));{rw[if_neg ∅,if_pos (zA8 h)] at q;exact⟨rfl,q⟩};rw[if_neg ∅,if_neg (zB0 h)] at q;exact q
theorem qg6:qa8 ["self", "room", "one", "other", "one_far", "other_far"] ["self", "room", "one", "other"] (qa2 qh3):=by walk_at "s"
def qv6(C:γ):VSp:=Ay λds d=>∃z n wr ps r x y,ds=[Ac z C n wr ps,.int r,.int x,.int y]/\1<=n/\0<=r/\r<n/\An x/\An y/\d=.bl (qI4 n wr ps r x y)
theorem qav6{C:γ}{z:Bool}{n:Int}{wr:Bool}{ps:Pr}{r:Int}(h1:1<=n)(f:An k)(g:0<=r)(h:r<n):∃z' c a b e d,[Ac z C n wr ps,.int k,.int r]=[Ac z' C c a b,.int e,.int d]/\1<=c/\An e/\0<=d/\d<c/\Iv (B6 n wr ps k r)=Iv (B6 c a b e d):=⟨z,n,wr,ps,k,r,rfl,h1,f,g,h,rfl⟩
theorem qk6(T:Txt K mg a):VFn P w K mg base 6 a.f12 a.d12 ["self", "room", "one", "other"] (qv6 a.C4):=by
 refine VFn.mk2 T.d12.F qg6 (wOf [true,true,true,true]) qb2 (by walk_at "l") (λ_ _ _ _ _ _ _ j=>⟨_,(Ab (sif (Bj (te (qj0 0 T.d9 T.C9.cl (qq9 T) qa1 (rm j) (vaN 1 Ad)))) (Ag qk3) Av) (Ab (sif (Bj (te (Aj T.d3 (qc4 T) qa1 (rm j) (vaN 2 Ad)))) (Ag qk3) Av) (Ab (sif (Bj (te (Aj T.d3 (qc4 T) qa1 (rm j) (vaN 3 Ad)))) (Ag qk3) Av) (Ab (Ak 4 qg6.nd (qj0 0 T.d11 T.C9.cl (qk7 T) qa1 (rm j) (vaN 2 (vaN 1 Ad)))) (Ab (Ak 5 qg6.nd (qj0 0 T.d11 T.C9.cl (qk7 T) qa1 (rm j) (vaN 3 (vaN 1 Ad)))) (Ab (sif (q2 (Am Ev (qa9 _)) Eu (vnm 4) Ba) (Ag (Ap (qa4 vbl))) Av) (Ab (sif (q2 (Am Ev (qa9 _)) Eu (vnm 5) Ba) (Ag (Ap (qa4 vbl))) Av) (Ag (Ap (qa4 (vor (v2 (Aw Bk (qa9 _)) Bn (vnm 4) (vnm 5)) (G4 (Jt (v2 (Aw (qs4 j.u64) (qa9 _)) Bp (vnm 4) (vnm 5)) (G4 (v2 (Aw Ef (qa9 _)) Et (vnm 2) (vnm 3)))))))))))))))),λA Q k h=>?_⟩);obtain⟨d,⟨z,n,wr,c,r,x,y,rfl,o,e,i,s,t,rfl⟩,q⟩:=h;refine Ey (λQ k q=>qL6 (p:=Ac z a.C4 n wr c) (x:=.int r) rfl (qg7 rfl) rfl rfl (qay6 e i) rfl q) ?_;refine Ey (λQ k q=>Ix (x:=.int x) rfl (Ja s) rfl q) ?_;refine Ey (λQ k q=>Ix (x:=.int y) rfl (Ja t) rfl q) ?_;refine qb0 [Ac z a.C4 n wr c,.int r,.int x,.int y,Iv (B6 n wr c x r),.u] (λK m=>?_) ?_;{exact qau3 (p:=Ac z a.C4 n wr c) (x:=.int x) (y:=.int r) rfl (qg7 rfl) rfl rfl rfl rfl (qav6 o s e i) rfl m};refine qb0 [Ac z a.C4 n wr c,.int r,.int x,.int y,Iv (B6 n wr c x r),Iv (B6 n wr c y r)] (λK m=>?_) ?_;{exact qau3 (p:=Ac z a.C4 n wr c) (x:=.int y) (y:=.int r) rfl (qg7 rfl) rfl rfl rfl rfl (qav6 o t e i) rfl m};unfold qI4 at q;cases u:B6 n wr c x r with
 |none=>rw[u] at q;exact q|some f=>
  rw[u] at q;cases v:B6 n wr c y r with
  |none=>rw[v] at q;exact q|some g=>
   rw[v] at q;refine qm4 false rfl nofun λ_=>?_
   refine qm4 false rfl nofun λ_=>?_
   exact qf5 _ (qbc5 (a:=decide (g<f)) rfl (qap2 (a:=decide (f=g)) (b:=decide (x<y)) rfl rfl)) q
theorem qO1:qa8 ["plan", "room"] ["plan", "room"] (qa2 qr9):=by walk_at "s"
def qN7(C:γ):VSp:=Ay λds d=>∃z n wr ps r,ds=[Ac z C n wr ps,.int r]/\d=(if 0<r then .int (r-1) else if wr=true then .int (n-1) else .non)
theorem qO8(T:Txt K mg a):VFn P w K mg base 1 a.f13 a.d13 ["plan", "room"] (qN7 a.C4):=by refine VFn.mk2 T.d13.F qO1 (wOf [true,true]) qb2 (by walk_at "l") (λ_ _ _ _ _ _ _ e=>⟨_,(Ab (sif (q2 (Am Bk (qa9 _)) Bn (vnm 1) Ae) (Ag (Ap (qa4 (v2 (Ah qK7) qK6 (vnm 1) Ae)))) Av) (Ag (Ap (eif (tv (A8 rfl (vnm 0) T.C9.cl T.Cg)) (qa4 (v2 (Ah qK7) qK6 (A8 rfl (vnm 0) T.C9.cl T.Ca) Ae)) (qa4 Ba))))),λf Q g h=>?_⟩);obtain⟨d,⟨z,n,wr,c,r,rfl,rfl⟩,q⟩:=h;refine As [Ac z a.C4 n wr c,.int r] rfl ?_;refine qm4 (decide (0<r)) rfl (λh=>?_) λh=>?_;{rw[if_pos (zA8 h)] at q;exact q};rw[if_neg (zB0 h)] at q;refine qf4 (Ga (b:=wr) (Au rfl qp0) (λh=>?_) (λh=>?_));{rw[if_pos h] at q;exact qo4 (d:=.int (n-1)) (Af (Au rfl qc2) rfl rfl) q};rw[if_neg (by rw[h];decide)] at q;exact q
theorem qd9:qa8 ["plan", "rooms", "room", "ahead", "thing"] ["plan", "rooms", "room"] (qa2 qe4):=by walk_at "s"
def okG(n:Int)(wr:Bool)(ps:Pr)(g:Nat->Option Int):Prop:=∃S,Kept n.toNat wr (On n ps) g S/\∀k∈S,An k
theorem okG.num{n:Int}{wr:Bool}{ps:Pr}{g:Nat->Option Int}(h:okG n wr ps g)(hi:i<n.toNat)(e:g i=some k):An k:=let ⟨_,K,q⟩:=h;q k ((K.h.2 k).mpr ⟨i,hi,e⟩)
def qp4(C:γ):VSp:=Ay λds d=>∃z n wr ps z' g r k,ds=[Ac z C n wr ps,.l z' (Os n.toNat g),.int (r:Nat)]/\1<=n/\r<n.toNat/\okG n wr ps g/\g r=some k/\0<Aa n.toNat (On n ps k) r/\d=.non
theorem qp8(T:Txt K mg a):VFn P w K mg base 7 a.f14 a.d14 ["plan", "rooms", "room"] (qp4 a.C4):=by
 refine VFn.mk2 T.d14.F qd9 (wOf [true,true,true]) qb2 (by walk_at "l") (λ_ _ _ _ _ _ _ s=>⟨_,(Ab (Ak 3 qd9.nd (Aj T.d13 (qO8 T) qa1 (rm s) (vaN 0 (vaN 2 Ad)))) (Ab (Ak 4 qd9.nd (qb4 (v2 (Ax qb5) Aq (vnm 1) (vnm 3)))) (Ab (sif (q2 (Am Ev (qa9 _)) Eu (vnm 4) Ba) (Ag (Ap (qa4 Fq))) Av) (Ab (sif (Gn (te (Aj T.d3 (qc4 T) qa1 (rm s) (vaN 4 Ad))) (Ew (Bj (te (qj0 0 T.d12 T.C9.cl (qk6 T) qa1 (rm s) (vaN 3 (vaN 4 (vaV (qb4 (v2 (Ax qb5) Aq (vnm 1) (vnm 2))) Ad)))))))).te (Ag (Ap (qa4 Fq))) Av) (Ag (Ap (qa4 Ba))))))),λL Q M h=>?_⟩);obtain⟨d,⟨z,n,wr,b,t,g,r,k,rfl,A,c,u,j,G,rfl⟩,q⟩:=h;obtain⟨S,KP,N⟩:=id u;have H:=u.num c j;have e:=Row.qq6 (n:=n.toNat) c;obtain⟨x,m,I⟩:=KP.o.ord r k c j G;have f:=u.num e m;have B:=λi=>KP.ln i r k c j;have O:=dor n.toNat (On n b k) r;have J:=por n.toNat r;have C:=(qN3 (ps:=b) A e (λi=>KP.ln i _ x e m) (λi=>by have:=B i;lia)).mpr I;have E:(if 0<((r:Nat):Int) then D.int ((r:Int)-1) else if wr=true then D.int (n-1) else .non)=.int (Row.prev n.toNat r:Nat):=by rcases J with⟨e1,e2⟩|⟨e1,e2⟩;{rw[if_neg ⋯,if_pos (by cases wr with|true=>rfl|false=>have:=B rfl;lia),e2];congr 1;lia};rw[if_pos ⋯,e2];congr 1;lia
 generalize Row.prev n.toNat r=p at e E m C;refine As [Ac z a.C4 n wr b,.l t (Os n.toNat g),.int (r:Nat),.u,.u] rfl ?_;refine qb0 [Ac z a.C4 n wr b,.l t (Os n.toNat g),.int (r:Nat),.int (p:Nat),.u] (λK v=>qL7 (x:=Ac z a.C4 n wr b) (y:=.int (r:Nat)) (d:=.int (p:Nat)) rfl rfl rfl ⟨z,n,wr,b,(r:Nat),rfl,E.symm⟩ rfl v) ?_;refine qb0 [Ac z a.C4 n wr b,.l t (Os n.toNat g),.int (r:Nat),.int (p:Nat),.int x] (λK v=>qA7 (d:=.int x) (Af rfl rfl ((Dt e).trans (by rw[m];rfl))) rfl v) ?_;refine qm4 false rfl nofun λ_=>?_
 refine qh0 false (λQ q=>ql0 true false (λQ q=>Ix (x:=.int x) (d:=.bl true) rfl (Ja f) rfl q) (λ_ Q q=>?_) q) nofun λ_=>q
 refine qp9 (p:=Ac z a.C4 n wr b) rfl (qg7 rfl) (qb9 (x:=.int (p:Nat)) rfl (qb9 (x:=.int x) rfl (qd3 (y:=.int k) (Af rfl rfl ((Dt c).trans (by rw[j];rfl))) rfl (qb3 (qa0 (a:=D.int x) rfl (qa0 (a:=D.int (p:Nat)) rfl (qa0 (a:=Ac z a.C4 n wr b) rfl (qs7 (d:=.bl (qI4 n wr b (p:Int) x k)) ⟨z,n,wr,b,(p:Nat),x,k,rfl,A,⋯,⋯,f,H,rfl⟩ ?_))))))));rw[C];exact q
theorem qv8:qa8 ["plan", "rooms", "room", "key", "far"] ["plan", "rooms", "room"] (qa2 qB2):=by walk_at "s"
theorem qaQ0{k:Int}{g:Nat->Option Int}:∀l:List Nat,(∀i∈l,g i≠some k)->∃a,flats (l.map λi=>Dw (g i))=some a/\inV (.int k) a=false|[],_=>⟨[],rfl,rfl⟩|i::l,h=>by obtain⟨a,d,e2⟩:=qaQ0 l λj f=>h j (zA6 _ f);rw[zAz];cases c:g i with|none=>exact⟨.non::a,by show ((flats _).bind λb=>some (V.non::b))=_;rw[d];rfl,by show (eqV .non (.int k)||inV (.int k) a)=_;rw[e2];rfl⟩|some j=>exact⟨.int j::a,by show ((flats _).bind λb=>some (V.int j::b))=_;rw[d];rfl,by show (decide (j=k)||inV (.int k) a)=_;rw[e2,zB6 λe=>(h i zA9) (by rw[c,e])];rfl⟩
def qad0(C:γ):VSp:=Ay λds d=>∃z n wr ps z' g r,ds=[Ac z C n wr ps,.l z' (Os n.toNat g),.int (r:Nat)]/\1<=n/\r<n.toNat/\okG n wr ps g/\d=.non
theorem qae4(T:Txt K mg a):VFn P w K mg base 8 a.f15 a.d15 ["plan", "rooms", "room"] (qad0 a.C4):=by
 refine VFn.mk2 T.d15.F qv8 (wOf [true,true,true]) qb2 (by walk_at "l") (λ_ _ _ _ _ _ _ s=>⟨_,(Ab (Ak 3 qv8.nd (qb4 (v2 (Ax qb5) Aq (vnm 1) (vnm 2)))) (Ab (sif (q2 (Am Ev (qa9 _)) Eu (vnm 3) Ba) (Ag (Ap (qa4 Ba))) Av) (Ab (sif (Bj (te (Aj T.d3 (qc4 T) qa1 (rm s) (vaN 3 Ad)))) (Ag (Ap (qa4 Fq))) Av) (Ab (sif (q2 (Am qz8 (by with_unfolding_all rfl)) Fy (vnm 3) (vsl (vnm 1) Go (Gq (vnm 2)))) (Ag (Ap (qa4 Fq))) Av) (Ab (Ak 4 qv8.nd (qj0 0 T.d11 T.C9.cl (qk7 T) qa1 (rm s) (vaN 3 (vaN 2 Ad)))) (Ab (sif (q2 (Am Ev (qa9 _)) Eu (vnm 4) Ba) (Ag (Ap (qa4 Fq))) Av) (Ab (sif (q2 (Am (qs4 s.u64) (qa9 _)) Bp (vnm 4) Ae) (Ag (Ap (qa4 Ba))) Av) (Ag (Ap (Aj T.d14 (qp8 T) qa1 (rm s) (vaN 0 (vaN 1 (vaN 2 Ad))))))))))))),λJ Q L h=>?_⟩);obtain⟨d,⟨z,n,wr,c,f,g,r,rfl,u,b,v,rfl⟩,q⟩:=h;obtain⟨S,KP,M⟩:=id v;refine As [Ac z a.C4 n wr c,.l f (Os n.toNat g),.int (r:Nat),.u,.u] rfl ?_;cases j:g r with
 |none=>refine qb0 [Ac z a.C4 n wr c,.l f (Os n.toNat g),.int (r:Nat),.non,.u] (λK m=>qA7 (d:=.non) (Af rfl rfl ((Dt b).trans (by rw[j];rfl))) rfl m) ?_;exact qm4 true rfl (λ_=>q) nofun|some k=>
  have B:=v.num b j;refine qb0 [Ac z a.C4 n wr c,.l f (Os n.toNat g),.int (r:Nat),.int k,.u] (λK m=>qA7 (d:=.int k) (Af rfl rfl ((Dt b).trans (by rw[j];rfl))) rfl m) ?_;refine qm4 false rfl nofun λ_=>?_
  refine qh0 false (λQ q=>(show ttNot _ _ _ _ from(show ttE _ _ _ _ from Ix (x:=.int k) (d:=.bl true) rfl (Ja B) rfl (qa0 (a:=true) rfl q)))) nofun λ_=>?_
  obtain⟨t,C,E⟩:=qaQ0 (k:=k) (g:=g) (Lr r) λi G e=>by have:=zAr.mp G;have:=KP.o.inj i r k ⋯ b e j;lia
  have A:B9 (Os n.toNat g) none (some (r:Int))=Os r g:=by rw[qM8];unfold Os;rw[<-Mj,List.take_range,zCj ⋯]
  refine qm4 false (Af (x:=.int k) (y:=.l false (Os r g)) rfl ?_ ?_) nofun λ_=>?_
  {show gd (D.imms (B9 (Os n.toNat g) none (some (r:Int)))=true) (D.l false (B9 (Os n.toNat g) none (some (r:Int))))=_;rw[A];exact qi1 (qE0 _ _)};{show ((flats (Os r g)).bind λt=>some (D.bl (if false=true then !inV (.int k) t else inV (.int k) t)))=_;unfold Os;rw[C];show some (D.bl (inV (.int k) t))=_;rw[E]};have H:=qQ4 (ps:=c) u b λI=>KP.ln I r k b j;refine qb0 [Ac z a.C4 n wr c,.l f (Os n.toNat g),.int (r:Nat),.int k,.int (Aa n.toNat (On n c k) r:Nat)] (λK m=>qe1 (qau3 (p:=Ac z a.C4 n wr c) (x:=.int k) (y:=.int (r:Nat)) rfl (qg7 rfl) rfl rfl rfl rfl (qav6 u B ⋯ ⋯) rfl (by rw[H];exact m))) ?_;refine qm4 false rfl nofun λ_=>?_
  refine qm4 (decide (Aa n.toNat (On n c k) r=0)) (Af rfl rfl (by show some (D.bl (((Aa n.toNat (On n c k) r:Nat):Int)==0))=_;congr 2;by_cases h:Aa n.toNat (On n c k) r=0<;>simp[h])) (λ_=>q) λh=>?_;exact qf4 (Iy (x:=Ac z a.C4 n wr c) (y:=.l f (Os n.toNat g)) (w:=.int (r:Nat)) rfl rfl rfl rfl rfl ⟨z,n,wr,c,f,g,r,k,rfl,u,b,v,j,by have:=zB0 h;lia,rfl⟩ rfl q)
theorem qT8:qa8 ["plan", "rooms"] ["plan", "rooms"] (qa2 qw5):=by walk_at "s"
def farP(n:Int)(ps:Pr):D->Bool|.q [.int i,.int k]=>decide (0<Aa n.toNat (On n ps k) i.toNat)|_=>false
theorem qaK0(ys:Ds):(enD ys).length=ys.length:=by unfold enD;rw[zAa,List.length_zipIdx]
def qS6(C:γ):VSp:=Ay λds d=>∃z n wr ps z' g,ds=[Ac z C n wr ps,.l z' (Os n.toNat g)]/\1<=n/\n<=64/\okG n wr ps g/\d=.bl false
theorem qV2(T:Txt K mg a):VFn P w K mg base 6 a.f16 a.d16 ["plan", "rooms"] (qS6 a.C4):=by
 refine VFn.mk2 T.d16.F qT8 (wOf [true,true]) qb2 (by walk_at "l") (λ_ _ _ _ _ _ _ E=>⟨_,(Ag (Ap (ebi (qac0 rfl) qaU7.ops T.Da (Ep (vaV (ecEN (NY:=["room", "key", "plan"]) (src:=[none,none,some 0]) 1 T.D2 (blk (λs C t H0 u=>(Hr (n:=2) rfl (qQ3 (Bf 0 (show (["room", "key", "plan"]:List Str).Nodup by decide +kernel)) (qQ3 (Bf 1 (show (["room", "key", "plan"]:List Str).Nodup by decide +kernel)) Hq)))) (λs C t H0 u=>Fi) (λs C t H0 u=>(Fb (qa4 (v2 (Aw qm2 (qa9 _)) qs2 (vnm 1) Ba)) (G3 (e2v (Aw Bk (qa9 _)) Bn (qj0 2 T.d11 T.C9.cl (qk7 T) L2.qa1 (rm E) (vaN 1 (vaN 0 Ad))) Ae)))))) Ad))))),λM Q N h=>?_⟩);obtain⟨d,⟨z,n,wr,b,G,g,rfl,m,O,A,rfl⟩,q⟩:=h;obtain⟨S,KP,U⟩:=id A;refine As [Ac z a.C4 n wr b,.l G (Os n.toNat g)] rfl (qf4 ⟨qE0 _ _,?_⟩);refine qj7 (λι=>∃o r,ι=[o,r,Ac z a.C4 n wr b]) (λy=>some (.bl (farP n b y))) (enD (Os n.toNat g)) [] _ (by show 0+(enD _).length<big;rw[qaK0,qr2];unfold big;lia) ⟨_,_,rfl⟩ ?_ ?_
 .rintro y H ι I ⟨o,r,rfl⟩ R B f;obtain⟨i,v,rfl,j⟩:=qbc6 H;have e:i<n.toNat:=by have:=(zA5.mp j).1;rwa[qr2] at this
  rw[qQ0 e] at j;obtain rfl:=Nv j;refine qM4 (Kh (Dm rfl ?_));cases c:g i with|none=>exact Fj false rfl nofun λ_=>⟨f,by have:=B [.int (i:Nat),Dw (g i),Ac z a.C4 n wr b] ⟨_,_,rfl⟩;rw[c] at this;exact this⟩|some k=>refine Fj true rfl (λ_=>?_) nofun;refine qau3 (p:=Ac z a.C4 n wr b) (x:=.int k) (y:=.int (i:Nat)) rfl (qg7 rfl) rfl rfl rfl rfl (qav6 m (A.num e c) ⋯ ⋯) rfl ?_;have this:=B [.int (i:Nat),Dw (g i),Ac z a.C4 n wr b] ⟨_,_,rfl⟩;rw[c] at this;rw[qQ4 m e λJ=>KP.ln J i k e c];refine qa0 (a:=D.bl (decide (0<Aa n.toNat (On n b k) i))) ?_ ⟨f,this⟩;show some (D.bl (decide (((Aa n.toNat (On n b k) i:Nat):Int)>0)))=_;congr 2;exact zBu.mpr ⋯
 rintro ι ⟨o,r,rfl⟩;rw[zB4,qap1];refine qa0 (qaV7 (farP n b) (enD (Os n.toNat g))) ?_;obtain⟨i,j,L⟩:=KP.c;rw[show (enD (Os n.toNat g)).all (farP n b)=false from List.all_eq_false.mpr ⟨_,zB8 (LV.qaU4 (qQ0 j)),?_⟩];{exact q};cases c:g i with|none=>exact nofun|some k=>show ¬decide (0<Aa n.toNat (On n b k) i)=true;rw[(qb6 (Eh m k) j).mpr (L k c).symm];exact nofun
theorem qv9:qa8 ["plan", "rooms", "room", "word"] ["plan", "rooms"] (qa2 qB4):=by walk_at "s"
def qad2(C:γ):VSp:=Ay λds d=>∃z n wr ps z' g,ds=[Ac z C n wr ps,.l z' (Os n.toNat g)]/\1<=n/\n<=64/\okG n wr ps g/\d=.non
theorem qae6(T:Txt K mg a):VFn P w K mg base 9 a.f17 a.d17 ["plan", "rooms"] (qad2 a.C4):=by
 refine VFn.mk2 T.d17.F qv9 (wOf [true,true]) qb2 (by walk_at "l") (λ_ _ _ _ _ _ _ o=>⟨_,(Ab (sif (tor (Bj (tv (vbi qj2 qM9.ops T.Cc (qa3 (vnm 1) (qa3 (vty "list" T.Ct) qa6 rfl) rfl)))) (G2 (q2 (Am (qh5 o.u64) (qa9 _)) Bo (vbi qq2 qq1.ops T.Co (qa3 (vnm 1) qa6 rfl)) (A8 rfl (vnm 0) T.C9.cl T.Ca)))).te (Ag (Ap (qa4 (E6 (qa3 Fq (qa3 Ae qa6 rfl) rfl))))) Av) (Ab (qT5 Nw T.Cr (Ep (vaV (qb4 (A8 rfl (vnm 0) T.C9.cl T.Ca)) Ad)) (Bf 2 qv9.nd) (Ab (Ak 3 qv9.nd (Aj T.d15 (qae4 T) qa1 (rm o) (vaN 0 (vaN 1 (vaN 2 Ad))))) (Ag (sif (q2 (Am qm2 (qa9 _)) qs2 (vnm 3) Ba) (Ag (Ap (qa4 (E6 (qa3 (vnm 3) (qa3 (vnm 2) qa6 rfl) rfl))))) Av)))) (Ag (Ap (eif (te (Aj T.d16 (qV2 T) qa1 (rm o) (vaN 0 (vaN 1 Ad)))) (qa4 (E6 (qa3 Fq (qa3 Ae qa6 rfl) rfl))) (qa4 Ba)))))),λf Q v h=>?_⟩);obtain⟨d,⟨z,n,wr,c,e,g,rfl,p,s,r,rfl⟩,q⟩:=h;refine As [Ac z a.C4 n wr c,.l e (Os n.toNat g),.u,.u] rfl ?_;have i:f2 gNe (A6 (fx1 E5) (A5 (rdN 1) λ_=>some [])) (f1 (D.fld a.C4 "rooms") (rdN 0)) [Ac z a.C4 n wr c,.l e (Os n.toNat g),.u,.u]=some (.bl false):=Af (qL9 rfl) (Au rfl qc2) (by rw[qr2,show ((n.toNat:Nat):Int)=n by lia];exact qW2 rfl);refine qh0 false (λQ q=>qy0 false false (λQ q=>qt4 (qan5 rfl) q) (λ_ Q q=>qi3 i q) q) nofun λ_=>?_
 refine qc3 (λf=>∃d k,f=[Ac z a.C4 n wr c,.l e (Os n.toNat g),d,k]) (λK m=>?_) ?_;{refine qW4 (Au rfl qc2) (Iz ⋯ ⋯) ?_;refine qh6 (λ_ f=>∃d k,f=[Ac z a.C4 n wr c,.l e (Os n.toNat g),d,k]) _ 0 _ ⟨_,_,rfl⟩ ?_ λf h=>m _ h;rintro j x t f ⟨d,k,rfl⟩ K m;obtain⟨u,rfl⟩:=Kg t;refine qb0 [Ac z a.C4 n wr c,.l e (Os n.toNat g),.int (j:Nat),.non] (λK m=>Iy (x:=Ac z a.C4 n wr c) (y:=.l e (Os n.toNat g)) (w:=.int (j:Nat)) rfl rfl rfl rfl rfl ⟨z,n,wr,c,e,g,j,rfl,p,u,r,rfl⟩ rfl m) ?_;exact if_v (b:=false) rfl nofun λ_=>m _ ⟨_,_,rfl⟩};rintro f ⟨d,k,rfl⟩;exact qf4 (qL7 (x:=Ac z a.C4 n wr c) (y:=.l e (Os n.toNat g)) (d:=.bl false) rfl rfl rfl ⟨z,n,wr,c,e,g,rfl,p,s,r,rfl⟩ rfl (qa0 (a:=false) rfl (Gs ∅ q)))
theorem qw0:qa8 ["self", "plan", "rooms", "held", "fault"] ["self", "plan", "rooms"] (qa2 qB9):=by walk_at "s"
def Oq(zr:Bool)(C CP:γ)(n:Int)(wr:Bool)(ps:Pr)(g:Nat->Option Int)(dn:Ds):D:=.ins zr C [("plan",Ac true CP n wr ps),("held",.l zr (Os n.toNat g)),("done",.l zr dn)]
abbrev rA(a:Adr)(n:Int)(wr:Bool)(ps:Pr)(g:Nat->Option Int)(dn:Ds):D:=Oq false a.C6 a.C4 n wr ps g dn
abbrev kL(S:List Int):D:=.l false (Op S)
abbrev rL(n:Int)(g:Nat->Option Int):D:=.l false (Os n.toNat g)
section
variable{zr:Bool}{C CP:γ}{n:Int}{wr:Bool}{ps:Pr}{g:Nat->Option Int}{dn:Ds}
theorem qe2:D.fld C "plan" (Oq zr C CP n wr ps g dn)=some (Ac true CP n wr ps):=qv1 (by rfl)
theorem qu1:D.fld C "held" (Oq zr C CP n wr ps g dn)=some (.l zr (Os n.toNat g)):=qv1 (by rfl)
theorem qY2:D.fld C "done" (Oq zr C CP n wr ps g dn)=some (.l zr dn):=qv1 (by rfl)
theorem qc6(h:([("plan",Ac true CP n wr ps),("held",.l zr (Os n.toNat g)),("done",.l zr dn)]:List (Str×D)).lookup m=none):(Oq zr C CP n wr ps g dn).isM C m=true:=qan6 h
end
theorem qv2:D.fidx C "held" (Oq zr C CP n wr ps g dn)=some 1:=by show (if C=C then List.findIdx? (λq:Str×D=>("held" : Str)==q.1) [("plan",Ac true CP n wr ps),("held",.l zr (Os n.toNat g)),("done",.l zr dn)] else none)=_;rw[if_pos rfl];rfl
theorem qbd8{p:List Nat}{w:V}{d0:D}(h:A4 ds i p=some (.hole w)):bk1 i p w d0 ds=some (Bd ds i p d0):=by unfold bk1 Al;rw[h];simp only[if_true];unfold Al;rfl
theorem qW5{f:Str}(h:te ds (λd ds1=>orF (pf ds1) λq=>orF ((A4 ds1 q.1 q.2).bind (D.ownI C)) λfs=>fs.length<100/\e.nx (Bd ds1 q.1 q.2 (.ins false C (Ff f d fs)))) e.xe):sFldV C f te pf e ds:=h
theorem mv_to(h:rdN i ds=some d)(q:Q d (ds.set i .u)):tMv i ds Q xe:=qa0 h q
theorem qaS4{zr:Bool}{C CP:γ}{n:Int}{wr:Bool}{ps:Pr}{g:Nat->Option Int}{dn:Ds}:(Oq zr C CP n wr ps g dn).isC C=some (.bl true):=if_pos rfl
theorem qaj1{zr:Bool}{C CP:γ}{n:Int}{wr:Bool}{ps:Pr}{g:Nat->Option Int}{dn:Ds}(h:∀i,i<n.toNat->g i=g' i):Oq zr C CP n wr ps g dn=Oq zr C CP n wr ps g' dn:=by unfold Oq;rw[qi0 h]
def qad6(C CP:γ):VSp:=λds Q _=>∃n wr ps r g S,ds=[.ins false C [],Ac true CP n wr ps,r]/\1<=n/\n<=64/\(∀k∈S,An k)/\Kept n.toNat wr (On n ps) g S/\(r=.non/\g=(λ_=>none)∨∃z,r=.l z (Os n.toNat g))/\Q .non [Oq false C CP n wr ps g [],Ac true CP n wr ps,r]
theorem qH5(T:Txt K mg a):VFn P w K mg base 10 a.f26 a.d26 ["self", "plan", "rooms"] (qad6 a.C6 a.C4):=by
 refine VFn.mkE T.d26.F qw0 (wOf [true,true,true]) (λj Q Q' k o p _ h=>by obtain⟨n,wr,c,r,g,S,e,s,t,u,v,A,q⟩:=h;exact⟨n,wr,c,r,g,S,e,s,t,u,v,A,p _ _ q⟩) (λj Q k h=>by obtain⟨n,wr,c,r,g,S,e,_⟩:=h;rw[e];rfl) (λj Q k h=>by obtain⟨n,wr,c,r,g,S,e,_⟩:=h;rw[e];rfl) (λ_ _ _ _ _ _ _ i=>⟨_,(Ab (sif (Bj (tv (vbi (qX3 T.D8 T.C9.cl) qaK3.ops T.Cc (qa3 (vnm 1) (qa3 (vcls a.C4 T.C9.m) qa6 rfl) rfl)))) (Ag qk3) Av) (Ab (sif (Gn (q2 (Am qm2 (qa9 _)) qs2 (vnm 2) Ba) (Ew (Bj (tv (vbi qj2 qM9.ops T.Cc (qa3 (vnm 2) (qa3 (vty "list" T.Ct) qa6 rfl) rfl)))))).te (Ag qk3) Av) (Ab (Ak 3 qw0.nd (eif (q2 (Am Ev (qa9 _)) Eu (vnm 2) Ba) (qa4 (v2 (Ah qj3) qk0 (Bq (qa3 Ba qa6 rfl)) (A8 rfl (vnm 1) T.C9.cl T.Ca))) (qa4 (Fc qj1 qQ5.ops T.Ct (qa3 (vnm 2) qa6 rfl))))) (Ab (Ak 4 qw0.nd (Aj T.d17 (qae6 T) qa1 (rm i) (vaN 1 (vaN 3 Ad)))) (Ab (sif (q2 (Am qm2 (qa9 _)) qs2 (vnm 4) Ba) (Ag qk3) Av) (Ab (Fg rfl (vpn 0) (qb4 (vnm 1)) T.C8.cl T.Cd) (Ab (Fg rfl (vpn 0) (emv 3) T.C8.cl T.Ce) (Ag (Fg rfl (vpn 0) (qa4 (Bq qa6)) T.C8.cl T.Ci))))))))),λj Q k h=>?_⟩);obtain⟨n,wr,c,r,g,S,rfl,B,l,C,KP,i,q⟩:=h;have D:r.known=true:=by rcases i with⟨rfl,_⟩|⟨z,rfl⟩<;>rfl
 refine As [.ins false a.C6 [],Ac true a.C4 n wr c,r,.u,.u] rfl ?_;refine qaB2 (show G1 a.C4 (Ac true a.C4 n wr c) (.adr a.C4)=some (.bl true) from qaI5) ?_;refine qh0 false (λQ q=>?_) nofun λ_=>?_
 {rcases i with⟨rfl,_⟩|⟨z,rfl⟩;{exact ql0 false false (λQ q=>qi3 (b:=false) (Af rfl rfl rfl) q) nofun q};exact ql0 true false (λQ q=>qi3 (b:=true) (Af rfl rfl rfl) q) (λ_ Q q=>qt4 (b:=true) (qan5 rfl) q) q};refine qb0 [.ins false a.C6 [],Ac true a.C4 n wr c,r,rL n g,.u] (λK f=>qe1 ?_) ?_;{rcases i with⟨rfl,rfl⟩|⟨z,rfl⟩;{exact Ga (b:=true) (Af rfl rfl rfl) (λ_=>qo4 (Af rfl (Au rfl qc2) (qV7 ⋯ l)) f) nofun};exact Ga (b:=false) (Af rfl rfl rfl) nofun λ_=>qo4 (d:=rL n g) (show Hl (.l z (Os n.toNat g))=_ from qi1 (qE0 _ _)) f};refine qb0 [.ins false a.C6 [],Ac true a.C4 n wr c,r,rL n g,.non] (λK f=>qe1 ?_) ?_;{exact qL7 (x:=Ac true a.C4 n wr c) (y:=rL n g) (d:=.non) rfl rfl rfl ⟨true,n,wr,c,false,g,rfl,B,l,⟨S,KP,C⟩,rfl⟩ rfl f};refine qh0 false (λQ q=>qi3 (b:=false) (Af rfl rfl rfl) q) nofun λ_=>?_
 refine qb0 [.ins false a.C6 [("plan",Ac true a.C4 n wr c)],Ac true a.C4 n wr c,r,rL n g,.non] (λK f=>qW5 (qq0 (d:=Ac true a.C4 n wr c) rfl rfl (qa0 (a:=(0,[])) rfl (qa0 qf6 ⟨∅,f⟩)))) ?_;refine qb0 [.ins false a.C6 [("plan",Ac true a.C4 n wr c),("held",rL n g)],Ac true a.C4 n wr c,r,.u,.non] (λK f=>qW5 (mv_to (d:=rL n g) rfl (qa0 (a:=(0,[])) rfl (qa0 qf6 ⟨by show 1<100;decide,f⟩)))) ?_;exact qW5 (qo4 (d:=.l false []) rfl (qa0 (a:=(0,[])) rfl (qa0 qf6 ⟨by show 2<100;decide,q⟩)))
theorem qi5:qa8 ["self"] ["self"] (qa2 qf3):=by walk_at "s"
def growD(zg:Bool)(CG C CP:γ)(n:Int)(ps:Pr)(g:Nat->Option Int)(dn:Ds)(h:Int):D:=.ins zg CG [("row",Oq zg C CP n true ps g dn),("housed_anew",.int h)]
section
variable{zg:Bool}{CG C CP:γ}{n:Int}{ps:Pr}{g:Nat->Option Int}{dn:Ds}{h:Int}
theorem qao4:D.fld CG "row" (growD zg CG C CP n ps g dn h)=some (Oq zg C CP n true ps g dn):=qv1 (by rfl)
theorem qaa1:D.fld CG "housed_anew" (growD zg CG C CP n ps g dn h)=some (.int h):=qv1 (by rfl)
theorem qg8(hm:([("row",Oq zg C CP n true ps g dn),("housed_anew",.int h)]:List (Str×D)).lookup m=none):(growD zg CG C CP n ps g dn h).isM CG m=true:=qan6 hm
theorem qaJ8:D.fidx CG "row" (growD zg CG C CP n ps g dn h)=some 0:=by show (if CG=CG then List.findIdx? (λq:Str×D=>("row" : Str)==q.1) [("row",Oq zg C CP n true ps g dn),("housed_anew",.int h)] else none)=_;rw[if_pos rfl];rfl
theorem qx4{r:Ds}:(D.fidx CG "row" (growD zg CG C CP n ps g dn h)).map (λn=>((0:Nat),[n]))=some (0,[0]):=by rw[qaJ8];rfl
end
def qr7(CG C CP:γ):VSp:=Ay λds d=>∃zg n ps g dn h,ds=[growD zg CG C CP n ps g dn h]/\d=.int n
theorem qc5(T:Txt K mg a):VFn P w K mg base 1 a.f41 a.d41 ["self"] (qr7 a.C5 a.C6 a.C4):=by refine VFn.mk2 T.d41.F qi5 (wOf [true]) qb2 (by walk_at "l") (λ_ _ _ _ _ _ _ b=>⟨_,(Ag (Ap (qb4 (A8 rfl (A8 rfl (A8 rfl (vnm 0) T.C7.cl T.Cb) T.C8.cl T.Cd) T.C9.cl T.Ca)))),λc Q e h=>?_⟩);obtain⟨d,⟨f,n,i,g,j,h,rfl,rfl⟩,q⟩:=h;exact qf4 (qq0 (d:=.int n) (Au (Au (Au rfl qao4) qe2) qc2) rfl q)
theorem qF6:qa8 ["self", "homes"] ["self", "homes"] (qa2 ql7):=by walk_at "s"
def qF2(CG C CP:γ):VSp:=λds Q _=>∃z ps,ds=[.ins false CG [],.l z (Ot ps)]/\qt3 ps/\Q .non [growD false CG C CP 4 ps (λ_=>none) [] 0,.l z (Ot ps)]
theorem qr0(T:Txt K mg a):VFn P w K mg base 12 a.f37 a.d37 ["self", "homes"] (qF2 a.C5 a.C6 a.C4):=by refine VFn.mk2 T.d37.F qF6 (wOf [true,true]) (by walk_at "m") (by walk_at "l") (λ_ _ _ _ _ _ _ c=>⟨_,(Ab (sif (Bj (te (Aj T.d6 (qq8 T) qa1 (rm c) (vaN 1 Ad)))) (Ag qk3) Av) (Ab (Fg rfl (vpn 0) (qbc9 (ndv:=[]) T.C8 T.D7 T.d26.bn (qH5 T) qa1 (rm c) (vaV (Iq (Ho T.C9 T.D3 T.d7 (qD1 T) qa1 (rm c) (vaV (qa4 (vgi T.Cu)) (vaV (qa4 vbl) (vaN 1 Ad))))) Ad)) T.C7.cl T.Cb) (Ag (Fg rfl (vpn 0) (qa4 Ae) T.C7.cl T.Cf)))),λg Q e h=>?_⟩);obtain⟨z,b,rfl,G,q⟩:=h;refine As [.ins false a.C5 [],.l z (Ot b)] rfl ?_;refine Ey (λQ e q=>Iw (x:=.l z (Ot b)) rfl ⟨D.bl true,⟨_,rfl,(qu8 G).2,by rw[(qu8 G).1]⟩,qa0 (a:=[.ins false a.C5 [],.l z (Ot b)]) rfl q⟩) ?_;refine qb0 [.ins false a.C5 [("row",rA a 4 true b (λ_=>none) [])],.l z (Ot b)] (λK f=>qW5 (qg5 (Gb (qP3 (qc0 (y:=.int 4) rfl (qc0 (y:=.bl true) rfl (qb9 (x:=.l z (Ot b)) rfl (qb3 (qa0 (a:=D.l z (Ot b)) rfl ⟨4,true,z,b,rfl,∅,∅,G,rfl,?_⟩))))))))) ?_;{refine qa0 (a:=Ac false a.C4 4 true b) rfl (qa0 (a:=[.ins false a.C5 [],.l z (Ot b)]) rfl (qb3 ?_));rw[qao9];refine⟨4,true,b,.non,λ_=>none,[],rfl,∅,∅,nofun,Kept.none ∅ (Eh ∅),.inl ⟨rfl,rfl⟩,rfl,?_⟩;refine qa0 (a:=rA a 4 true b (λ_=>none) []) rfl ?_;refine qa0 (a:=[D.ins false a.C5 [],D.l z (Ot b)]) rfl ?_;exact qa0 (a:=(0,[])) rfl (qa0 qf6 ⟨∅,f⟩)};exact qW5 (qo4 (d:=.int 0) rfl (qa0 (a:=(0,[])) rfl (qa0 qf6 ⟨by show 1<100;decide,q⟩)))
theorem qz1:qa8 ["self"] ["self"] (qa2 qi7):=by walk_at "s"
def qy9(C CP:γ):VSp:=Ay λds d=>∃zr n wr ps g dn,ds=[Oq zr C CP n wr ps g dn]/\d=.l false (Os n.toNat g)
theorem qe3(T:Txt K mg a):VFn P w K mg base 1 a.f27 a.d27 ["self"] (qy9 a.C6 a.C4):=by refine VFn.mk2 T.d27.F qz1 (wOf [true]) qb2 (by walk_at "l") (λ_ _ _ _ _ _ _ f=>⟨_,(Ag (Ap (qa4 (Fc qj1 qQ5.ops T.Ct (qa3 (A8 rfl (vnm 0) T.C8.cl T.Ce) qa6 rfl))))),λi Q j h=>?_⟩);obtain⟨d,⟨b,n,wr,c,g,e,rfl,rfl⟩,q⟩:=h;refine As [Oq b a.C6 a.C4 n wr c g e] rfl ?_;refine qf5 (rL n g) ?_ q;unfold A6 A5;rw[Au rfl qu1];exact qi1 (qE0 _ _)
theorem qw1:qa8 ["self"] ["self"] (qa2 qh2):=by walk_at "s"
def qv5(C:γ):VSp:=Ay λds d=>∃z n wr ps,ds=[Ac z C n wr ps]/\d=.l false (Ot ps)
theorem qaI4{z:Bool}{ps:Pr}:qaT7 (.dct z (kvD ps))=some (.l false (Ot ps)):=by
 have b:((kvD ps).map λa=>D.q [keyD a.1,a.2])=Ot ps:=by unfold kvD Ot;rw[zC2];rfl
 show gd (D.imms ((kvD ps).map (·.2))=true) (.l false ((kvD ps).map λa=>D.q [keyD a.1,a.2]))=_;rw[b];refine qi1 ?_;unfold kvD;rw[zC2];exact qW1 (λ_=>rfl) ps
theorem qx8(T:Txt K mg a):VFn P w K mg base 1 a.f8 a.d8 ["self"] (qv5 a.C4):=by refine VFn.mk2 T.d8.F qw1 (wOf [true]) qb2 (by walk_at "l") (λ_ _ _ _ _ _ _ c=>⟨_,(Ag (Ap (qa4 (qaL2 T.Ct (A8 rfl (vnm 0) T.C9.cl T.Ch))))),λe Q f h=>?_⟩);obtain⟨d,⟨z,n,wr,b,rfl,rfl⟩,q⟩:=h;exact qf5 (.l false (Ot b)) (Au (Au rfl qI2) qaI4) q
theorem qB0:qa8 ["self"] ["self"] (qa2 qj9):=by walk_at "s"
noncomputable def Gc(y:D):Option D:=match y with|.int k=>some (.int k)|_=>none
theorem qW0(N:Nat)(g:Nat->Option Int):(Os N g).filterMap Gc=Op ((Lr N).filterMap g):=by unfold Os Op;rw[M0,List.map_filterMap];refine congrArg (λf=>Nc f (Lr N)) (funext λi=>?_);show Gc (Dw (g i))=(g i).map D.int;cases g i<;>rfl
def qA4(C CP:γ):VSp:=Ay λds d=>∃zr n wr ps g dn,ds=[Oq zr C CP n wr ps g dn]/\n<=64/\d=.l false (Op ((Lr n.toNat).filterMap g))
theorem qf8(T:Txt K mg a):VFn P w K mg base 1 a.f28 a.d28 ["self"] (qA4 a.C6 a.C4):=by
 refine VFn.mk2 T.d28.F qB0 (wOf [true]) qb2 (by walk_at "l") (λ_ _ _ _ _ _ _ u=>⟨_,(Ag (Ap (eAlt (ecP (NY:=["key"]) (src:=[none]) (Bl rfl (vpn 0) T.C8.cl T.Ce) (blk (λi C j H0 m=>(Bf 0 (show (["key"]:List Str).Nodup by decide +kernel))) (λi C j H0 m=>(F6 (q2 (Am qm2 (qa9 _)) qs2 (vnm 0) Ba))) (λi C j H0 m=>(qb4 (vnm 0))))) (ecL (NY:=["key"]) (src:=[none]) (qb4 (A8 rfl (vnm 0) T.C8.cl T.Ce)) (blk (λi C j H0 m=>(Bf 0 (show (["key"]:List Str).Nodup by decide +kernel))) (λi C j H0 m=>(F6 (q2 (Am qm2 (qa9 _)) qs2 (vnm 0) Ba))) (λi C j H0 m=>(qb4 (vnm 0)))))))),λv Q x h=>?_⟩);obtain⟨d,⟨r,n,wr,s,g,t,rfl,z,rfl⟩,q⟩:=h;refine As [Oq r a.C6 a.C4 n wr s g t] rfl ?_;have step:∀(y:D),y∈Os n.toNat g->∀(d:D)(c:Ds)(R:Ds->Ds->Prop),(∀ι',(∃d,ι'=[d])->R (c++(Gc y).toList) ι')->c.length<big->gNm 0 y [d] λι1=>ttV (f2 gIsn (rdN 0) (kC .non)) ι1 (λb ι2=>if b=true then B8 (rdN 0) ι2 (λd ι3=>c.length<big/\R (c++[d]) ι3) (λ_ _=>False) else R c ι2) (λ_ _=>False):=λy o d c R p f=>by have this:=p [y] ⟨_,rfl⟩;refine qu9 ?_;rcases Ki o with rfl|⟨k,rfl⟩;{have this:R (c++[]) _:=this;rw[zAc] at this;exact qi3 (b:=false) (Af rfl rfl rfl) (Gs ∅ this)};exact qi3 (b:=true) (Af rfl rfl rfl) (Dm rfl (qq0 (d:=.int k) rfl rfl ⟨f,this⟩))
 cases r with|false=>refine qf4 (.inl (qa0 (a:=(0,[1])) (by show (D.fidx a.C6 "held" (rA a n wr s g t)).map (λn=>(0,[n]))=_;rw[qv2];rfl) (qa0 (a:=D.l false (Os n.toNat g)) rfl (qa0 (a:=Os n.toNat g) rfl ⟨qE0 _ _,λw=>?_⟩))));refine qj7 (λι=>∃d,ι=[d]) Gc _ [] _ (by show 0+_<1000000;rw[qr2];lia) ⟨_,rfl⟩ (λy o ι c ⟨d,e⟩ R p f=>e ▸ step y o d c R p f) ?_;rintro ι ⟨d,rfl⟩;rw[qW0,zB4];exact qa0 (qbd8 rfl) q|true=>refine qf4 (.inr (qq0 (d:=.l true (Os n.toNat g)) (Au rfl qu1) rfl (qa0 (a:=Os n.toNat g) rfl ⟨qE0 _ _,?_⟩)));refine qj7 (λι=>∃d,ι=[d]) Gc _ [] _ (by show 0+_<1000000;rw[qr2];lia) ⟨_,rfl⟩ (λy o ι c ⟨d,e⟩ R p f=>e ▸ step y o d c R p f) ?_;rintro ι ⟨d,rfl⟩;rw[qW0,zB4];exact q
theorem qT9:qa8 ["plan", "keys", "room"] ["plan", "keys", "room"] (qa2 qw9):=by walk_at "s"
def qS9(C:γ):VSp:=Ay λds d=>∃z n wr ps z' ks r,ds=[Ac z C n wr ps,.l z' (Op ks),.int r]/\1<=n/\(∀k∈ks,An k)/\ks.length<=1000/\d=.bl (if wr=true then decide (r=0)&&decide (n<(ks.length:Int)) else decide (n-r<((ks.filter λk=>decide (r<=qd2 n ps k)).length:Int)))
theorem qV4(T:Txt K mg a):VFn P w K mg base 5 a.f18 a.d18 ["plan", "keys", "room"] (qS9 a.C4):=by refine VFn.mk2 T.d18.F qT9 (wOf [true,true,true]) qb2 (by walk_at "l") (λ_ _ _ _ _ _ _ m=>⟨_,(Ab (sif (tv (A8 rfl (vnm 0) T.C9.cl T.Cg)) (Ag (Ap (qa4 (Jt (v2 (Aw (qs4 m.u64) (qa9 _)) Bp (vnm 2) Ae) (G4 (v2 (Aw Bk (qa9 _)) Bn (vbi qq2 qq1.ops T.Co (qa3 (vnm 1) qa6 rfl)) (A8 rfl (vnm 0) T.C9.cl T.Ca))))))) Av) (Ag (Ap (e2v (Aw Bk (qa9 _)) Bn (ebi qq2 qq1.ops T.Co (Ep (vaV (ecN (NY:=["key", "room", "plan"]) (src:=[none,some 2,some 0]) 1 (blk (λo C s H0 t=>(Bf 0 (show (["key", "room", "plan"]:List Str).Nodup by decide +kernel))) (λo C s H0 t=>(F6 (q2v (Aw He (qa9 _)) (Am He (qa9 _)) Jq (qj0 2 T.d10 T.C9.cl (qs5 T) L2.qa1 (rm m) (vaN 0 Ad)) (vnm 1)))) (λo C s H0 t=>(qb4 (vnm 0))))) Ad))) (v2 (Ah qK7) qK6 (A8 rfl (vnm 0) T.C9.cl T.Ca) (vnm 2)))))),λE Q G h=>?_⟩);obtain⟨d,⟨z,n,wr,b,f,c,r,rfl,u,v,H,rfl⟩,q⟩:=h;refine As [Ac z a.C4 n wr b,.l f (Op c),.int r] rfl ?_;refine qm4 wr (Au rfl qp0) (λh=>?_) λh=>?_;{rw[if_pos h] at q;have g:f2 gGt (A6 (fx1 E5) (A5 (rdN 1) λ_=>some [])) (f1 (D.fld a.C4 "rooms") (rdN 0)) [Ac z a.C4 n wr b,.l f (Op c),.int r]=some (.bl (decide (n<(c.length:Int)))):=Af (qL9 rfl) (Au rfl qc2) (by rw[qm3];rfl);exact qf5 _ (qap2 (a:=decide (r=0)) rfl g) q};rw[if_neg (by rw[h];decide)] at q;refine qf4 ?_;refine⟨qi9 c,?_⟩;refine qj7 (λι=>∃d,ι=[d,.int r,Ac z a.C4 n wr b]) (Ec λk=>decide (r<=qd2 n b k)) (Op c) [] _ (by show 0+(Op c).length<big;rw[qm3];unfold big;lia) ⟨_,rfl⟩ ?_ ?_;{rintro y A ι i ⟨d,rfl⟩ R B e;obtain⟨k,j,rfl⟩:=zAx.mp A;refine qL6 (p:=Ac z a.C4 n wr b) (x:=.int k) (d:=.int (qd2 n b k)) rfl (qg7 rfl) rfl rfl ⟨z,n,wr,b,k,rfl,u,v k j,rfl⟩ rfl ?_;have this:=B _ ⟨.int k,rfl⟩;refine qa0 (a:=D.bl (decide (r<=qd2 n b k))) rfl (qa0 (a:=decide (r<=qd2 n b k)) rfl (ite_b (λh=>?_) λh=>?_));{rw[qZ4 (p:=λk=>decide (r<=qd2 n b k)) h] at this;exact⟨rfl,e,this⟩};rw[qZ5 (p:=λk=>decide (r<=qd2 n b k)) h] at this;have this:R (i++[]) _:=this;rw[zAc] at this;exact this};rintro ι ⟨d,rfl⟩;rw[zB4,qD9];refine qa0 (a:=D.bl (decide (n-r<((c.filter λk=>decide (r<=qd2 n b k)).length:Int)))) ?_ q;show (f2 gSub (f1 (D.fld a.C4 "rooms") (rdN 0)) (rdN 2) [Ac z a.C4 n wr b,.l f (Op c),.int r]).bind (gGt (D.int ((Op (c.filter λk=>decide (r<=qd2 n b k))).length:Nat)))=_;rw[Af (Au rfl qc2) rfl rfl,qm3];rfl
theorem qq4:qa8 ["plan", "keys", "room"] ["plan", "keys"] (qa2 ql4):=by walk_at "s"
def qQ6(n:Int)(wr:Bool)(ps:Pr)(ks:List Int)(r:Int):Bool:=if wr=true then decide (r=0)&&decide (n<(ks.length:Int)) else decide (n-r<((ks.filter λk=>decide (r<=qd2 n ps k)).length:Int))
def qab4(n:Int)(wr:Bool)(ps:Pr)(ks:List Int):Option Nat:=(Lr n.toNat).find? λr=>qQ6 n wr ps ks (r:Int)
noncomputable def natD:Option Nat->D|none=>.non|some k=>.int (k:Int)
def qE9(C:γ):VSp:=Ay λds d=>∃z n wr ps z' ks,ds=[Ac z C n wr ps,.l z' (Op ks)]/\1<=n/\n<=64/\(∀k∈ks,An k)/\ks.length<=1000/\d=natD (qab4 n wr ps ks)
theorem qF9(T:Txt K mg a):VFn P w K mg base 6 a.f19 a.d19 ["plan", "keys"] (qE9 a.C4):=by
 refine VFn.mk2 T.d19.F qq4 (wOf [true,true]) qb2 (by walk_at "l") (λ_ _ _ _ _ _ _ t=>⟨_,(Ab (qT5 Nw T.Cr (Ep (vaV (qb4 (A8 rfl (vnm 0) T.C9.cl T.Ca)) Ad)) (Bf 2 qq4.nd) (Ag (sif (te (Aj T.d18 (qV4 T) qa1 (rm t) (vaN 0 (vaN 1 (vaN 2 Ad))))) (Ag (Ap (emv 2))) Av))) (Ag (Ap (qa4 Ba)))),λg Q u h=>?_⟩);obtain⟨d,⟨z,n,wr,c,o,f,rfl,v,E,A,B,rfl⟩,q⟩:=h;refine As [Ac z a.C4 n wr c,.l o (Op f),.u] rfl ?_;refine qc3 (λg=>(∀i,i<n.toNat->qQ6 n wr c f (i:Int)=false)/\∃d,g=[Ac z a.C4 n wr c,.l o (Op f),d]) (λK p=>?_) ?_;{refine qW4 (Au rfl qc2) (Iz ⋯ ⋯) ?_;refine qh6 (λi g=>(∀j,j<i->qQ6 n wr c f (j:Int)=false)/\∃d,g=[Ac z a.C4 n wr c,.l o (Op f),d]) _ 0 _ ⟨λj r=>absurd r (zCk _),_,rfl⟩ ?_ ?_;{rintro j x C g ⟨k,d,rfl⟩ K p;rw[zAk] at k p;obtain⟨r,rfl⟩:=Kg C;refine if_e (b:=qQ6 n wr c f (j:Int)) (λQ u q=>Iy (x:=Ac z a.C4 n wr c) (y:=.l o (Op f)) (w:=.int (j:Int)) rfl rfl rfl rfl rfl ⟨z,n,wr,c,o,f,_,rfl,v,A,B,rfl⟩ rfl q) (λs=>?_) (λs=>?_);{have e:qab4 n wr c f=some j:=List.find?_range_eq_some.mpr ⟨s,zAr.mpr r,λi m=>by rw[k i m];rfl⟩;rw[e] at q;exact q};refine p _ ⟨λi m=>?_,_,rfl⟩;rcases Nat.lt_succ_iff_lt_or_eq.mp m with h|rfl;{exact k i h};exact s};rintro g ⟨k,D⟩;refine p _ ⟨λi m=>k i ?_,D⟩;unfold Bm;rw[zAa,zB9,zAk];exact m};rintro g ⟨k,d,rfl⟩;have e:qab4 n wr c f=none:=List.find?_range_eq_none.mpr λi m=>by rw[k i m];rfl
 rw[e] at q;exact q
theorem qq3:qa8 ["plan", "keys", "room"] ["plan", "keys"] (qa2 ql2):=by walk_at "s"
theorem _root_.Row.Kept.perm{n:Nat}{wr:Bool}{g:Nat->Option Int}(KP:Kept n wr hm g S):((Lr n).filterMap g).Perm S:=by refine(List.perm_ext_iff_of_nodup ?_ KP.h.1).mpr λk=>?_;{refine List.pairwise_filterMap.mpr (List.Pairwise.imp_of_mem (λ{i j} a d f b l m c e=>?_) Ma);subst e;exact f (KP.o.inj i j b (zAr.mp a) (zAr.mp d) l c)};rw[KP.h.2 k,List.mem_filterMap];exact⟨λ⟨i,a,e⟩=>⟨i,zAr.mp a,e⟩,λ⟨i,a,e⟩=>⟨i,zAr.mpr a,e⟩⟩
def qu4(n:Int)(wr:Bool)(ps:Pr)(ks:List Int):Prop:=∀r:Nat,r<n.toNat->qQ6 n wr ps ks (r:Int)=false
theorem qW9(h:qu4 n wr ps ks):qab4 n wr ps ks=none:=List.find?_range_eq_none.mpr λi a=>by rw[h i a];rfl
theorem qab3(h1:1<=n)(a:r<n.toNat):qQ6 n wr ps ks (r:Int)=true↔Crowd n.toNat wr (On n ps) ks r:=by
 unfold qQ6 Crowd;cases wr with
 |true=>simp only[if_true,zBi,zBc];lia|false=>
  have e:(ks.filter λk=>decide ((r:Int)<=qd2 n ps k))=ks.filter λk=>decide (r<=On n ps k):=by apply L7;intro k _;have:=qP7 (ps:=ps) h1 k;apply zBu.mpr;lia
  simp only[Bool.false_eq_true,if_false,e,zBc];lia
theorem qu4.no{n:Int}{wr:Bool}{ps:Pr}(h:qu4 n wr ps ks)(h1:1<=n)(q:Nat):¬Crowd n.toNat wr (On n ps) ks q:=λz=>by
 have:=h q z.1
 rw[(qab3 h1 z.1).mpr z] at this;cases this
theorem qu4.of(h1:1<=n)(h:∀q,¬Crowd n.toNat wr (On n ps) ks q):qu4 n wr ps ks:=λr a=>by
 cases e:qQ6 n wr ps ks (r:Int) with
 |false=>rfl
 |true=>exact absurd ((qab3 h1 a).mp e) (h r)
def qE7(C:γ):VSp:=Ay λds d=>∃z n wr ps z' ks,ds=[Ac z C n wr ps,.l z' (Op ks)]/\1<=n/\n<=64/\(∀k∈ks,An k)/\ks.length<=1000/\qu4 n wr ps ks/\d=.non
theorem qq7(T:Txt K mg a):VFn P w K mg base 7 a.f20 a.d20 ["plan", "keys"] (qE7 a.C4):=by refine VFn.mk2 T.d20.F qq3 (wOf [true,true]) qb2 (by walk_at "l") (λ_ _ _ _ _ _ _ g=>⟨_,(Ab (Ak 2 qq3.nd (Aj T.d19 (qF9 T) qa1 (rm g) (vaN 0 (vaN 1 Ad)))) (Ag (sif (q2 (Am qm2 (qa9 _)) qs2 (vnm 2) Ba) (Ag qk3) Av))),λr Q s h=>?_⟩);obtain⟨d,⟨z,n,wr,c,e,f,rfl,i,j,k,m,o,rfl⟩,q⟩:=h;refine As [Ac z a.C4 n wr c,.l e (Op f),.u] rfl ?_;refine qb0 [Ac z a.C4 n wr c,.l e (Op f),.non] (λK p=>?_) ?_;{exact qL7 (x:=Ac z a.C4 n wr c) (y:=.l e (Op f)) (d:=.non) rfl rfl rfl ⟨z,n,wr,c,e,f,rfl,i,j,k,m,by rw[qW9 o];rfl⟩ rfl p};exact if_v (b:=false) rfl nofun λ_=>q
theorem qi2:qa8 ["plan", "rooms", "key", "came", "room", "held"] ["plan", "rooms", "key"] (qa2 qB5):=by walk_at "s"
def qad3(C:γ):VSp:=λds Q _=>∃z n wr ps g S key,ds=[Ac z C n wr ps,rL n g,.int key]/\1<=n/\n<=64/\An key/\(∀k∈S,An k)/\Kept n.toNat wr (On n ps) g S/\¬key∈S/\(∃e,Gz n.toNat wr (On n ps) g key e)/\∀came g',Kept n.toNat wr (On n ps) g' (S++[key])->Q (.l false came) [Ac z C n wr ps,rL n g',.int key]
theorem qx6(T:Txt K mg a):VFn P w K mg base 7 a.f21 a.d21 ["plan", "rooms", "key"] (qad3 a.C4):=by
 refine VFn.mk2 T.d21.F qi2 (wOf [true,true,false]) (by walk_at "m") (by walk_at "l") (λ_ _ _ _ _ _ _ j=>⟨_,(Ab (Ak 3 qi2.nd (qa4 (Bq qa6))) (Ab (Ak 4 qi2.nd (qj0 0 T.d10 T.C9.cl (qs5 T) qa1 (rm j) (vaN 2 Ad))) (Ab (qay1 Nw (q2 (Am qm2 (qa9 _)) qs2 (v2 (Ax qb5) Aq (vnm 1) (vnm 4)) Ba) (Ab (Ak 5 qi2.nd (qb4 (v2 (Ax qb5) Aq (vnm 1) (vnm 4)))) (Ab (sif (te (qj0 0 T.d12 T.C9.cl (qk6 T) qa1 (rm j) (vaN 4 (vaN 2 (vaN 5 Ad))))) (Ab (Bb (Dp 3 qz3 Nz N0 N1 qd6 (vaV (qa4 (E6 (qa3 (vnm 2) (qa3 (vnm 4) qa6 rfl) rfl))) Ad))) (Ab (Fe (qb4 (vnm 2)) (Dq (vpn 1) (vnm 4))) (Ag (Ak 2 qi2.nd (qb4 (vnm 5)))))) Av) (Ag (Ak 4 qi2.nd (qa4 (v2 (Ah qo3) qo2 (v2 (Ah qn2) qn1 (vnm 4) Ae) (A8 rfl (vnm 0) T.C9.cl T.Ca)))))))) (Ab (Bb (Dp 3 qz3 Nz N0 N1 qd6 (vaV (qa4 (E6 (qa3 (vnm 2) (qa3 (vnm 4) qa6 rfl) rfl))) Ad))) (Ab (Fe (qb4 (vnm 2)) (Dq (vpn 1) (vnm 4))) (Ag (Ap (emv 3)))))))),λo Q J h=>?_⟩);obtain⟨z,n,wr,f,g,S,key,rfl,u,X,s,L,KP,A,⟨e,Fr⟩,q⟩:=h;have M:=Eh (ps:=f) u key;have H:∀x∈S++[key],An x:=λx v=>by rcases zAb.mp v with h|h;{exact L x h};rw[zAf.mp h];exact s
 have E:(S++[key]).Nodup:=zBq.mpr ⟨KP.h.1,(by simp),λx v y B e=>A (by rw[<-zAf.mp B,<-e];exact v)⟩;refine As [Ac z a.C4 n wr f,rL n g,.int key,.u,.u,.u] rfl ?_;refine qb0 [Ac z a.C4 n wr f,rL n g,.int key,.l false [],.u,.u] (λK i=>i) ?_;refine qb0 [Ac z a.C4 n wr f,rL n g,.int key,.l false [],.int (On n f key:Nat),.u] (λK i=>?_) ?_;{exact qL6 (p:=Ac z a.C4 n wr f) (x:=.int key) (d:=.int (On n f key:Nat)) rfl (qg7 rfl) rfl rfl ⟨z,n,wr,f,key,rfl,u,s,by rw[qP7 u]⟩ rfl i};refine qc3 (λo=>∃g2 c r came t,o=[Ac z a.C4 n wr f,rL n g2,.int c,.l false came,.int (r:Nat),t]/\Row.Walk n.toNat wr (On n f) (S++[key]) key e g2 c r/\g2 r=none/\came.length<=64) (λK i=>?_) ?_;{have W0:=KP.start A Fr;refine qag4 (λm o=>∃g2 c r came t,o=[Ac z a.C4 n wr f,rL n g2,.int c,.l false came,.int (r:Nat),t]/\Row.Walk n.toNat wr (On n f) (S++[key]) key e g2 c r/\m=Aa n.toNat (On n f key) e-Aa n.toNat (On n f key) r/\came.length+m<=64) _ ⟨g,key,On n f key,[],_,rfl,W0,rfl,by have:=qj6 Fr.1 M;show 0+_<=64;lia⟩ ?_;rintro m o ⟨g2,c,r,came,t,rfl,W,rfl,N⟩ K2 G;have j:=W.hr;cases k:g2 r with|none=>refine qi3 (b:=false) (Af (Af rfl rfl (Dt j)) rfl (by rw[k];rfl)) ?_;exact i _ ⟨g2,c,r,came,t,rfl,W,k,⋯⟩|some y=>refine qi3 (b:=true) (Af (Af rfl rfl (Dt j)) rfl (by rw[k];rfl)) ?_;have v:wr=false->On n f c<=r:=λh=>(W.ln h).2.1;have B:wr=false->On n f y<=r:=λh=>(W.ln h).2.2 r y j k;have O:An c:=H c ((W.all c).mpr (.inl rfl));have R:An y:=H y ((W.all y).mpr (.inr ⟨r,j,k⟩));have Y:=W.lt k;have I:=W.nx k;refine Dm rfl ?_;refine qb0 [Ac z a.C4 n wr f,rL n g2,.int c,.l false came,.int (r:Nat),.int y] (λK i=>?_) ?_;{exact qA7 (d:=.int y) (Af rfl rfl (by rw[Dt j,k];rfl)) rfl i};refine qc3 (λo=>∃g3 C came3,o=[Ac z a.C4 n wr f,rL n g3,.int C,.l false came3,.int (r:Nat),.int y]/\Row.Walk n.toNat wr (On n f) (S++[key]) key e g3 C (Row.next n.toNat r)/\came3.length<=came.length+1) (λK i=>?_) ?_;{refine if_e (b:=qI4 n wr f (r:Nat) c y) (λQ J q=>qba1 (p:=Ac z a.C4 n wr f) (x:=.int (r:Nat)) (y:=.int c) (w:=.int y) rfl (qg7 rfl) rfl rfl rfl rfl rfl rfl ⟨z,n,wr,f,(r:Nat),c,y,rfl,u,⋯,⋯,O,R,rfl⟩ rfl q) (λD=>?_) (λD=>?_);{have U:=(qN3 u j v B).mp D;refine qb0 [Ac z a.C4 n wr f,rL n g2,.int c,.l false (came++[.q [.int c,.int (r:Nat)]]),.int (r:Nat),.int y] (λK i=>?_) ?_;{exact qac7 (ys:=came) (d:=.q [.int c,.int (r:Nat)]) rfl rfl (by show came.length<1000000;lia) i};refine qb0 [Ac z a.C4 n wr f,rL n (Row.set g2 r c),.int c,.l false (came++[.q [.int c,.int (r:Nat)]]),.int (r:Nat),.int y] (λK i=>?_) ?_;{refine qN5 (d:=.int c) (ys:=Os n.toNat g2) rfl rfl rfl rfl (I9 j) ?_;rw[qJ4];exact i};exact qA7 (d:=.int y) rfl rfl (i _ ⟨Row.set g2 r c,y,_,rfl,W.swap k U,by rw[zAd];exact zA2 _⟩)};exact i _ ⟨g2,c,came,rfl,W.on k (λh=>by rw[(qN3 u j v B).mpr h] at D;cases D),⋯⟩};rintro o ⟨g3,C,came3,rfl,W3,V⟩;refine qt8 (d:=.int (Row.next n.toNat r:Nat)) (Af (Af rfl rfl rfl) (Au rfl qc2) (by rw[Er ⋯,qaG7 u j])) ?_;exact G _ _ (by rw[I];lia) ⟨g3,C,_,came3,_,rfl,W3,rfl,by rw[I];lia⟩};rintro o ⟨g2,c,r,came,t,rfl,W,k,N⟩;have j:=W.hr;refine qb0 [Ac z a.C4 n wr f,rL n g2,.int c,.l false (came++[.q [.int c,.int (r:Nat)]]),.int (r:Nat),t] (λK i=>?_) ?_;{exact qac7 (ys:=came) (d:=.q [.int c,.int (r:Nat)]) rfl rfl (by show came.length<1000000;lia) i};refine qb0 [Ac z a.C4 n wr f,rL n (Row.set g2 r c),.int c,.l false (came++[.q [.int c,.int (r:Nat)]]),.int (r:Nat),t] (λK i=>?_) ?_;{refine qN5 (d:=.int c) (ys:=Os n.toNat g2) rfl rfl rfl rfl (I9 j) ?_;rw[qJ4];exact i};exact q _ _ (W.done E k)
theorem qr8:qa8 ["plan", "keys", "rooms", "key"] ["plan", "keys"] (qa2 qw7):=by walk_at "s"
def qS7(C:γ):VSp:=λds Q _=>∃z n wr ps z' ks,ds=[Ac z C n wr ps,.l z' (Op ks)]/\1<=n/\n<=64/\(∀k∈ks,An k)/\ks.Nodup/\ks.length<=1000/\qu4 n wr ps ks/\∀g,Kept n.toNat wr (On n ps) g ks->Q (rL n g) ds
theorem qV3(T:Txt K mg a):VFn P w K mg base 8 a.f22 a.d22 ["plan", "keys"] (qS7 a.C4):=by refine VFn.mk2 T.d22.F qr8 (wOf [true,true]) (by walk_at "m") (by walk_at "l") (λ_ _ _ _ _ _ _ u=>⟨_,(Ab (Bb (Aj T.d20 (qq7 T) qa1 (rm u) (vaN 0 (vaN 1 Ad)))) (Ab (Ak 2 qr8.nd (qa4 (v2 (Ah qj3) qk0 (Bq (qa3 Ba qa6 rfl)) (A8 rfl (vnm 0) T.C9.cl T.Ca)))) (Ab (sforP Nw (vpn 1) (Bf 3 qr8.nd) (Ag (Bb (Aj T.d21 (qx6 T) qa1 (rm u) (vaN 0 (vaN 2 (vaN 3 Ad))))))) (Ag (Ap (emv 2)))))),λe Q H h=>?_⟩);obtain⟨z,n,wr,c,f,b,rfl,p,s,t,A,B,v,q⟩:=h;refine As [Ac z a.C4 n wr c,.l f (Op b),.u,.u] rfl ?_;refine qb0 [Ac z a.C4 n wr c,.l f (Op b),.u,.u] (λK j=>qL7 (x:=Ac z a.C4 n wr c) (y:=.l f (Op b)) (d:=.non) rfl rfl rfl ⟨z,n,wr,c,f,b,rfl,p,s,t,B,v,rfl⟩ rfl j) ?_;refine qb0 [Ac z a.C4 n wr c,.l f (Op b),.l false (Os n.toNat λ_=>none),.u] (λK j=>qa0 (Af rfl (Au rfl qc2) (qV7 ⋯ s)) j) ?_;refine qc3 (λe=>∃d g,e=[Ac z a.C4 n wr c,.l f (Op b),rL n g,d]/\Kept n.toNat wr (On n c) g b) (λK j=>?_) ?_;{refine qa0 (a:=(1,[])) rfl (qa0 (a:=D.l f (Op b)) rfl (qa0 (a:=Op b) rfl ⟨qi9 b,λw=>?_⟩));refine qh6 (λi e=>∃d g,e=[Ac z a.C4 n wr c,.hole w,rL n g,d]/\Kept n.toNat wr (On n c) g (b.take i)) _ 0 _ ⟨_,_,rfl,Kept.none ⋯ (Eh p)⟩ ?_ ?_;{rintro i y C e ⟨d,g,rfl,KP⟩ K2 o;rw[zAk] at KP o;obtain⟨k,r,rfl⟩:=qaR6 C;refine qbd4 (x:=Ac z a.C4 n wr c) (y:=rL n g) (w:=.int k) rfl rfl rfl rfl rfl ⟨z,n,wr,c,g,b.take i,k,rfl,p,s,t k (zB8 r),λx E=>t x (Mh E),KP,qV6 A r,KP.free (by rw[<-qA1 r];exact Lw _ _) (v.no p),λcame G K'=>?_⟩;refine o _ ⟨_,G,rfl,?_⟩;rw[qA1 r];exact K'};rintro e ⟨d,g,rfl,KP⟩;rw[zAk,qm3,Mb] at KP;exact qa0 (qaV2 rfl) (j _ ⟨d,g,rfl,KP⟩)};rintro e ⟨d,g,rfl,KP⟩;exact q g KP
theorem qJ5:qa8 ["plan", "keys"] ["plan", "keys"] (qa2 qn6):=by walk_at "s"
def qI8(C CP:γ):VSp:=λds Q _=>∃n wr ps z ks,ds=[Ac true CP n wr ps,.l z (Op ks)]/\1<=n/\n<=64/\(∀k∈ks,An k)/\ks.Nodup/\ks.length<=1000/\(∀q,¬Crowd n.toNat wr (On n ps) ks q)/\∀g,Kept n.toNat wr (On n ps) g ks->Q (Oq false C CP n wr ps g []) ds
theorem qK8(T:Txt K mg a):VFn P w K mg base 12 a.f35 a.d35 ["plan", "keys"] (qI8 a.C6 a.C4):=by refine VFn.mk2 T.d35.F qJ5 (wOf [true,true]) (by walk_at "m") (by walk_at "l") (λ_ _ _ _ _ _ _ e=>⟨_,(Ag (Ap (qbd0 T.C8 T.D7 T.d26 (qH5 T) qa1 (rm e) (vaN 0 (vaV (Aj T.d22 (qV3 T) qa1 (rm e) (vaN 0 (vaN 1 Ad))) Ad))))),λp Q r h=>?_⟩);obtain⟨n,wr,b,z,c,rfl,d,f,i,j,k,o,q⟩:=h;refine As [Ac true a.C4 n wr b,.l z (Op c)] rfl ?_;refine qf4 (qP3 (qb9 (x:=Ac true a.C4 n wr b) rfl (qg5 (qax3 (x:=Ac true a.C4 n wr b) (y:=.l z (Op c)) rfl rfl rfl ⟨true,n,wr,b,z,c,rfl,d,f,i,j,k,qu4.of d o,λg K=>?_⟩))));exact qa0 (a:=[Ac true a.C4 n wr b,.l z (Op c)]) rfl (qb3 (qa0 (a:=Ac true a.C4 n wr b) rfl ⟨n,wr,b,rL n g,g,c,rfl,d,f,i,K,.inr ⟨false,rfl⟩,rfl,q g K⟩))
theorem qT7:qa8 ["row", "rooms"] ["row", "rooms"] (qa2 qw4):=by walk_at "s"
theorem qaA8{zr:Bool}{C CP:γ}{n:Int}{wr:Bool}{ps:Pr}{g:Nat->Option Int}{dn:Ds}:G1 C (Oq zr C CP n wr ps g dn) (.adr C)=some (.bl true):=by show (if C=C then (Oq zr C CP n wr ps g dn).isC C else none)=_;rw[if_pos rfl];exact qaS4
def qS5(C CP:γ):VSp:=λds Q _=>∃zr n wr ps g dn S m,ds=[Oq zr C CP n wr ps g dn,.int m]/\n<=64/\1<=m/\m<=64/\qt3 ps/\(∀k∈S,An k)/\Kept n.toNat wr (On n ps) g S/\(∀q,¬Crowd m.toNat wr (On m ps) S q)/\∀g',Kept m.toNat wr (On m ps) g' S->Q (Oq false C CP m wr ps g' []) ds
theorem qC7(T:Txt K mg a):VFn P w K mg base 13 a.f36 a.d36 ["row", "rooms"] (qS5 a.C6 a.C4):=by refine VFn.mk2 T.d36.F qT7 (wOf [true,true]) (by walk_at "m") (by walk_at "l") (λ_ _ _ _ _ _ _ i=>⟨_,(Ab (sif (Bj (tv (vbi (qX3 T.D4 T.C8.cl) qaK3.ops T.Cc (qa3 (vnm 0) (qa3 (vcls a.C6 T.C8.m) qa6 rfl) rfl)))) (Ag qk3) Av) (Ab (sif (Bj (te (Aj T.d2 (qd5 T) qa1 (rm i) (vaN 1 (vaV (qa4 Ae) (vaV (qa4 (vgi T.Cs)) Ad)))))) (Ag qk3) Av) (Ag (Ap (Aj T.d35 (qK8 T) qa1 (rm i) (vaV (Iq (Ho T.C9 T.D3 T.d7 (qD1 T) qa1 (rm i) (vaN 1 (vaV (qb4 (A8 rfl (A8 rfl (vnm 0) T.C8.cl T.Cd) T.C9.cl T.Cg)) (vaV (qaU5 T.d8 T.C9.cl (qx8 T) qa1 (rm i) (A8 rfl (vnm 0) T.C8.cl T.Cd)) Ad))))) (vaV (qe9 0 T.d28 T.C8.cl (qf8 T) qa1 (rm i)) Ad))))))),λB Q s h=>?_⟩);obtain⟨e,n,wr,b,g,f,S,m,rfl,t,o,r,G,u,KP,v,q⟩:=h;have j:=KP.perm;refine As [Oq e a.C6 a.C4 n wr b g f,.int m] rfl ?_;refine qaB2 (show G1 a.C6 (Oq e a.C6 a.C4 n wr b g f) (.adr a.C6)=some (.bl true) from qaA8) ?_;refine Ey (λQ s q=>qe0 (qb9 (x:=.int m) rfl (qc0 (y:=.int 1) rfl (qc0 (y:=.int 64) rfl (qb3 (qa0 (a:=D.int m) rfl (qC3 (d:=.bl true) (by show some (D.bl ((D.int m).within 1 64))=_;rw[qI5 o r]) (qa0 (a:=[Oq e a.C6 a.C4 n wr b g f,.int m]) rfl q)))))))) ?_;refine qf4 (qe0 (qg5 (Gb (qP3 (qb9 (x:=.int m) rfl (qd3 (y:=.bl wr) (Au (Au rfl qe2) qp0) rfl (qg5 ?_)))))));refine qq0 (d:=Ac true a.C4 n wr b) (Au rfl qe2) rfl ⟨qg7 rfl,_,⟨true,n,wr,b,rfl,rfl⟩,qa0 (a:=[Oq e a.C6 a.C4 n wr b g f,.int m]) rfl (qb3 (qa0 (a:=D.int m) rfl ⟨m,wr,false,b,rfl,o,r,G,rfl,?_⟩))⟩;refine qa0 (a:=Ac false a.C4 m wr b) rfl (qa0 (a:=[Oq e a.C6 a.C4 n wr b g f,.int m]) rfl ?_);refine qg5 (qo5 (p:=Oq e a.C6 a.C4 n wr b g f) (d:=kL ((Lr n.toNat).filterMap g)) rfl (qc6 rfl) ⟨e,n,wr,b,g,f,rfl,t,rfl⟩ rfl (qb3 ?_));rw[qao9];have C:=KP.len;refine⟨m,wr,b,false,_,rfl,o,r,λk z=>u k (j.subset z),j.nodup_iff.mpr KP.h.1,by rw[j.length_eq];lia,λq c=>v q (c.perm j),λA K'=>?_⟩;exact qa0 (a:=[Oq e a.C6 a.C4 n wr b g f,.int m]) rfl (q A (K'.of_perm j))
theorem qw3:qa8 ["self"] ["self"] (qa2 qh4):=by walk_at "s"
def qaE2(CG C CP:γ)(x:D):Option D:=(D.fld CG "row" x).bind λy=>(D.fld C "plan" y).bind λz=>D.fld CP "rooms" z
theorem qp7(T:Txt K mg a):Du P w K mg base CX0 1 a.f41 a.d41 ["self"] (spP0 (qaE2 a.C5 a.C6 a.C4)):=by
 refine T.d41.F.ok qi5 (λz H Q E h=>?_) (λC A outer s H z Q E Y h=>?_);{obtain⟨F,u,d,y,A,w,rfl,_⟩:=h;rfl};obtain⟨F,u,d,y,A,w,rfl,D,b,G,q⟩:=h;obtain⟨c,I,b⟩:=zA1.mp b;obtain⟨e,e2,J⟩:=zA1.mp b;obtain⟨p1,C1,L,f1,M,rfl,f,g,i,j,B1,N⟩:=Js (K:=K) T.C7.cl T.Cb F H u y A c (λv H'=>∃B,Ow F H' v c B) D I λv H' B' r _ _=>⟨B',r⟩;obtain⟨O,C2,R,f2,v2,rfl,k,l,m,n,B2,S⟩:=Js (K:=K) T.C8.cl T.Cd F H M c B1 e (λv H'=>∃B,Ow F H' v e B) N e2 λv H' B' r _ _=>⟨B',r⟩;obtain⟨U,C3,V,f3,W,rfl,o,p,t,x,B3,X⟩:=Js (K:=K) T.C9.cl T.Ca F H v2 e B2 d (λv H'=>∃B,Ow F H' v d B) S J λv H' B' r _ _=>⟨B',r⟩;obtain rfl:W=w:=by cases d<;>cases G<;>cases X<;>rfl
 exact⟨_,(qy1 (qU8 (qV0 (qV0 (qV0 (pv 0) rfl) rfl) rfl))),_,rfl,p1,C1,L,f1,_,rfl,f,g,i,j,O,C2,R,f2,_,rfl,k,l,m,n,U,C3,V,f3,_,rfl,o,p,t,x,q⟩
def qv7(CG C CP:γ):VSp:=λds Q _=>∃n ps g dn h S,ds=[growD false CG C CP n ps g dn h]/\1<=n/\n<=64/\qt3 ps/\(∀k∈S,An k)/\Kept n.toNat true (On n ps) g S/\Q (Oq false C CP n true ps g []) ds
theorem qk8(T:Txt K mg a):VFn P w K mg base 14 a.f42 a.d42 ["self"] (qv7 a.C5 a.C6 a.C4):=by refine VFn.mk2 T.d42.F qw3 (wOf [true]) (by walk_at "m") (by walk_at "l") (λ_ _ _ _ _ _ _ e=>⟨_,(Ag (Ap (Aj T.d36 (qC7 T) qa1 (rm e) (vaBV (Bl rfl (vpn 0) T.C7.cl T.Cb) (qaL1 0 T.d41 T.C7.cl (qp7 T) (rm e)))))),λk Q o h=>?_⟩);obtain⟨n,b,g,c,h,S,rfl,i,f,G,j,KP,q⟩:=h;refine As [growD false a.C5 a.C6 a.C4 n b g c h] rfl ?_;refine qf4 (qe0 (qa0 (a:=(0,[0])) (qx4 (r:=[])) (qa0 (a:=rA a n true b g c) rfl ⟨rfl,qa0 (a:=.int n) ?_ ⟨rfl,λw=>?_⟩⟩)));{show (if (growD false a.C5 a.C6 a.C4 n b g c h).isM a.C5 "rooms_now"=true then (qaE2 a.C5 a.C6 a.C4 (growD false a.C5 a.C6 a.C4 n b g c h)).bind λd=>d.flat.map λ_=>d else none)=_;rw[if_pos (qg8 rfl)];unfold qaE2;rw[qao4,Option.bind_some,qe2,Option.bind_some,qc2];rfl};refine⟨false,n,true,b,g,c,S,n,rfl,f,i,f,G,j,KP,KP.no_crowd,λp K'=>qa0 (a:=[growD false a.C5 a.C6 a.C4 n b g c h]) ?_ ?_⟩;{show Al (.pl 0 [0] w::[.no]) (rA a n true b g c::[.int n]) _=_;rw[qc9 rfl];rfl};rw[qaj1 (K'.same KP λ_=>Iff.rfl)];exact q
theorem qaM7:qa8 ["_law_script"] ["_law_script"] (qa2 qaD9):=by walk_at "s"
theorem qaQ4(T:Txt K mg a):Du P w K mg base CX0 1 a.f45 a.d45 ["_law_script"] (qaW8 K):=by
 refine T.d45.F.ok qaM7 (λJ H Q E h=>?_) (λL A outer s H J Q E O h=>?_);{obtain⟨l,d,rfl,_⟩:=h;rfl};obtain⟨l,d,rfl,M,R,k⟩:=h;refine⟨_,(qy1 (qU8 (qat4 (qc1 qO4 (qc1 qO4 (qc1 qO4 (qc1 (qH3 ["_law_cell"] [none] (qC6 (qU9 qah9 (pv 0) qaj9 (qaj8 qO4))) (λC B H0 G=>(gnm 0 (show (["_law_cell"]:List Str).Nodup by decide +kernel))) (λC B H0 G=>qaO9) (λC B H0 G=>(cbi qaK6 T.De (qc1 (pv 0) qm1)))) qm1))))))),?_⟩;refine⟨_,rfl,_,rfl,l,_,rfl,M,λc N=>?_⟩;have ec:Gh (d.map V.int) none (some 63)=d.map V.int:=by unfold Gh;have t:HT.sIx (d.map V.int).length (d.map V.int).length (some (63:Int))=min 63 (d.map V.int).length:=HT.qai9 _ _ 63;rw[t,HT.qU6,L5,Nat.sub_zero];apply zAo;rw[zAa];lia
 rw[ec];refine⟨c,rfl,⟨_,SqL.of qb8⟩,λD r=>?_⟩;have I:D≠c:=λz=>by rw[z,qb8] at r;cases r
 have g:H D=none:=by rw[qd1 I] at r;exact r
 refine qab6 (K:=K) (xs:=d.map V.int) (λi σ H1=>∃v,σ=[v]/\H1=upd (upd H c (.l (d.map V.int))) D (.l (((d.take i).map λn=>if n<0 then -n else n).map V.int))) ⟨none,rfl,rfl⟩ ?_ ?_ ?_;{rintro i σ H1 _ ⟨v,rfl,rfl⟩;refine SqL.of ?_;rw[qd1 I.symm,qb8]}
 .rintro i x σ H1 j ⟨v,rfl,rfl⟩;obtain⟨n,u,rfl⟩:∃n,d[i]?=some n/\V.int n=x:=by rw[zBd] at j;cases e:d[i]? with|none=>rw[e] at j;cases j|some z=>rw[e] at j;exact⟨z,rfl,Nv j⟩
  refine⟨_,rfl,_,rfl,_,qb8,?_,_,rfl,?_⟩;{rw[zAa,zAa,zBs];exact qas6 ⋯};rw[qaL4];congr 1;rw[Lx,u];simp
 rintro σ H1 ⟨v,rfl,rfl⟩;rw[zAa,zAo (zA2 _)];refine⟨by show 4<=Kl;decide,λp f=>?_⟩;have q:p≠D:=λz=>by rw[z,qb8] at f;cases f
 rw[qd1 q] at f;have y:p≠c:=λz=>by rw[z,qb8] at f;cases f
 rw[qd1 y] at f;refine k p D _ f g (λb o e=>?_) ⟨0,1234567891,0,d.map λn=>if n<0 then -n else n,qb8,?_,∅,∅,∅,∅,?_⟩;{rw[qd1 (qg0 e f),qd1 (qg0 e g),qd1 (qg0 e N)];exact e};{rw[qd1 q.symm,qb8]};intro n u;obtain⟨m,_,rfl⟩:=zAx.mp u;split<;>lia
theorem qw2:qa8 ["_law_bag_here", "_law_many", "_law_cell", "_law_value", "_law_first", "_law_second"] ["_law_bag_here", "_law_many"] (qa2 qai6):=by walk_at "s"
theorem qf9(T:Txt K mg a):VFn P w K mg base 1 a.f46 a.d46 ["_law_bag_here", "_law_many"] qT3:=by refine VFn.mk' T.d46.F qw2 (wOf [true,true]) (λr Q Q' u J L _ h=>by obtain⟨b,m,g,e,H,A,M,q⟩:=h;exact⟨b,m,g,e,H,A,M,λv N O R B=>L _ _ (q v N O R B)⟩) (λr Q u ⟨b,m,g,e,_⟩=>by rw[e];rfl) (λr Q u h=>by obtain⟨b,m,g,e,⟨x,y,z,S,_⟩,_⟩:=h;rw[e,S];rfl) (λ_ _ _ _ _ _ _ U=>⟨_,(Ab (sif (q2 (Am (qs4 U.u64) (qa9 _)) Bp (v2 (Ax qb5) Aq (vnm 0) Ae) Ae) (Ab (Ak 2 qw2.nd (qa4 Ae)) (Ab (sif (q2 (Am Ef (qa9 _)) Et (v2 (Ax qb5) Aq (vnm 0) Ae) (vbi qq2 qq1.ops T.Co (qa3 (v2 (Ax qb5) Aq (vnm 0) Ae) qa6 rfl))) (Ag (Ak 2 qw2.nd (qb4 (v2 (Ax qb5) Aq (v2 (Ax qb5) Aq (vnm 0) Ae) (v2 (Ax qb5) Aq (vnm 0) Ae))))) Av) (Ab (saug (vpn 0) Ae Ae qbb2) (Ab (sif (q2 (Am He (qa9 _)) Jq (vnm 2) Ae) (Ag (Fe (qb4 (vnm 2)) (Dq (vpn 0) Ae))) Av) (Ag (Fe (qa4 (v2 (Ah qo3) qo2 (v2 (Ah qn2) qn1 (v2 (Ah qn2) qn1 (v2 (Ah qj3) qk0 (v2 (Ax qb5) Aq (vnm 0) Ae) Ae) (v2 (Ah qo3) qo2 (vnm 2) Ae)) (v2 (Ah qj3) qk0 Ae (v2 (Ax qb5) Aq (vnm 0) Ae))) Ae)) (Dq (vpn 0) Ae))))))) Av) (Ab (sif (q2 (Am Bk (qa9 _)) Bn (v2 (Ax qb5) Aq (vnm 0) Ae) Ae) (Ab (Ak 3 qw2.nd (qa4 (v2 (Ah qo3) qo2 (v2 (Ax qb5) Aq (vnm 0) Ae) (vnm 1)))) (Ab (Fe (qa4 (v2 (Ah qx5) Ii (v2 (Ax qb5) Aq (vnm 0) Ae) (vnm 1))) (Dq (vpn 0) Ae)) (Ag (Ap (emv 3))))) Av) (Ab (Ak 4 qw2.nd (qa4 (v2 (Ah qo3) qo2 (v2 (Ah qj3) qk0 (v2 (Ah qn2) qn1 (v2 (Ax qb5) Aq (vnm 0) Ae) Ae) Ae) Ae))) (Ab (Ak 5 qw2.nd (qa4 (v2 (Ah qo3) qo2 (v2 (Ah qj3) qk0 (v2 (Ah qo3) qo2 (v2 (Ah qj3) qk0 (vnm 4) (vnm 4)) Ae) Ae) Ae))) (Ab (sif (q2 (Am Bk (qa9 _)) Bn (vnm 1) Ae) (Ag (Ap (qa4 (v2 (Ah qo3) qo2 (v2 (Ah qn2) qn1 (v2 (Ah qj3) qk0 (vnm 5) Ae) (vnm 4)) (vnm 1))))) Av) (Ag (Ap (qa4 (v2 (Ah qo3) qo2 (v2 (Ah qx5) Ii (vnm 5) Ae) (vnm 1)))))))))),λr Q u h=>?_⟩);obtain⟨b,m,g,rfl,⟨x,y,z,rfl,B⟩,p,C,k⟩:=h;refine As [bagD x y z g,.int m,.u,.u,.u,.u] rfl ?_;refine qc3 (λr=>∃j o t c,r=[bagD j o t g,.int m,c,.u,.u,.u]/\Bg j o t g) (λK l=>?_) ?_;{refine if_v (b:=decide (x=0)) rfl (λ_=>?_) (λ_=>l _ ⟨x,y,z,_,rfl,B⟩);refine qb0 [bagD x y z g,.int m,.int 0,.u,.u,.u] (λK l=>l) ?_;refine qc3 (λr=>∃c:Int,0<=c/\r=[bagD x y z g,.int m,.int c,.u,.u,.u]) (λK l=>?_) ?_;{refine if_v (b:=decide (z<(((g.map D.int).length:Nat):Int))) rfl (λA=>?_) (λ_=>l _ ⟨0,∅,rfl⟩);obtain⟨v,V,e⟩:=qR0 (xs:=g.map D.int) (i:=z) B.z0 (zA8 A);obtain⟨c,E,rfl⟩:=zAx.mp V;exact qA7 (Af (y:=.int z) (x:=.l false (g.map .int)) rfl rfl e) rfl (l _ ⟨c,B.nn c E,rfl⟩)};rintro r ⟨c,E,rfl⟩;refine qb0 [bagD x y (z+1) g,.int m,.int c,.u,.u,.u] (λK l=>?_) ?_;{exact qbe0 (k:=2) (x:=z) (y:=1) (ys:=[.int x,.int y,.int z,.l false (g.map .int)]) rfl rfl ∅ rfl rfl l};refine qc3 (λr=>∃j:Int,0<=j/\r=[bagD j y (z+1) g,.int m,.int c,.u,.u,.u]) (λK l=>?_) ?_;{refine if_v (b:=decide (1000000000000000000<=c)) rfl (λ_=>?_) (λ_=>l _ ⟨x,B.x0,rfl⟩);exact qN5 (d:=.int c) (ys:=[.int x,.int y,.int (z+1),.l false (g.map .int)]) (k:=0) (n:=0) rfl rfl rfl rfl rfl (l _ ⟨c,E,rfl⟩)};rintro r ⟨j,G,rfl⟩;have W:f2 Ih (f2 Gk (f2 Gk (f2 Fp (f2 gIx (rdN 0) (kC (.int 1))) (kC (.int 48271))) (f2 Ih (rdN 2) (kC (.int 2147483647)))) (f2 Fp (kC (.int 7919)) (f2 gIx (rdN 0) (kC (.int 2))))) (kC (.int 2147483647)) [bagD j y (z+1) g,.int m,.int c,.u,.u,.u]=some (.int ((y*48271+c%2147483647+7919*(z+1))%2147483647)):=Af (Af (Af (Af (x:=.int y) rfl rfl (Gu ∅)) (Af rfl rfl (Er ∅)) rfl) (Af (y:=.int (z+1)) rfl rfl (Gv ∅)) rfl) rfl (Er ∅);exact qG6 (ys:=[.int j,.int y,.int (z+1),.l false (g.map .int)]) (k:=1) (n:=1) W rfl rfl rfl (l _ ⟨j,_,z+1,_,rfl,G,Int.emod_nonneg _ ∅,zCh _ ∅,by have:=B.z0;lia,B.nn⟩)};rintro r ⟨j,o,t,c,rfl,B'⟩;refine qm4 (decide (0<j)) rfl (λH=>?_) λ_=>?_;{refine qb0 [bagD j o t g,.int m,c,.int (j%m),.u,.u] (λK l=>qa0 (Af (x:=.int j) rfl rfl (Er p)) l) ?_;refine qb0 [bagD (j/m) o t g,.int m,c,.int (j%m),.u,.u] (λK l=>?_) ?_;{exact qG6 (ys:=[.int j,.int o,.int t,.l false (g.map .int)]) (k:=0) (n:=0) (Af (x:=.int j) rfl rfl (I8 p C)) rfl rfl rfl l};exact k (j%m) _ (Int.emod_nonneg _ ⋯) (zCh _ p) ⟨_,_,_,rfl,Int.ediv_nonneg B'.x0 ⋯,B'.y0,B'.y1,B'.z0,B'.nn⟩};have X:0<=(o+1)*39373%1000000007:=Int.emod_nonneg _ ∅;have f1:(o+1)*39373%1000000007<1000000007:=zCh _ ∅;refine qb0 [bagD j o t g,.int m,c,.u,.int ((o+1)*39373%1000000007),.u] (λK l=>qa0 (Af (Af (Af (x:=.int o) rfl rfl rfl) rfl (Gu ∅)) rfl (Er ∅)) l) ?_;generalize (o+1)*39373%1000000007=f at X f1;refine qb0 [bagD j o t g,.int m,c,.u,.int f,.int (f*f%998244353*30011%998244353)] (λK l=>qa0 (Af (Af (Af (Af rfl rfl (Gv (qaD7 ⋯ ⋯))) rfl (Er ∅)) rfl (Gu ∅)) rfl (Er ∅)) l) ?_;generalize f*f%998244353*30011%998244353=s;have I:∀v,Q (.int (v%m)) [bagD j o t g,.int m]:=λv=>k _ _ (Int.emod_nonneg _ ⋯) (zCh _ p) ⟨_,_,_,rfl,B'⟩;refine qm4 (decide (1000000<m)) rfl (λ_=>?_) λ_=>?_;{exact qf5 _ (Af (Af (Af rfl rfl (Gu ∅)) rfl rfl) rfl (Er p)) (I _)};exact qf5 _ (Af (Af rfl rfl (I8 ∅ ∅)) rfl (Er p)) (I _)
theorem qaD8:qa8 ["_law_plan", "_law_key"] ["_law_plan", "_law_key"] (qa2 qai8):=by walk_at "s"
def qaD5:VSp:=Ay λds d=>∃n wr ps k,ds=[Om n wr ps,.int k]/\1<=n/\(ps.map (·.1)).Nodup/\d=.int (qd2 n ps k)
theorem qal6(T:Txt K mg a):VFn P w K mg base 1 a.f47 a.d47 ["_law_plan", "_law_key"] qaD5:=by
 refine VFn.mk2 T.d47.F qaD8 (wOf [true,true]) qb2 (by walk_at "l") (λ_ _ _ _ _ _ _ c=>⟨_,(Ag (Ap (qa4 (v2 (Ah qo3) qo2 (vget (hu_of c) (Fc (qQ9 rfl) qaB9.ops T.D5 (qa3 (v2 (Ax qb5) Aq (vnm 0) Ae) qa6 rfl)) (vnm 1) (vnm 1) ⟨rfl,rfl,rfl,rfl⟩) (v2 (Ax qb5) Aq (vnm 0) Ae))))),λg Q i h=>?_⟩);obtain⟨d,⟨n,wr,b,k,rfl,j,e,rfl⟩,q⟩:=h;have f:A6 (fx1 Hm) (A5 (f2 gIx (rdN 0) (kC (.int 2))) λ_=>some []) [Om n wr b,.int k]=some (.dct false (kvD b)):=by show Hm (.l true (Ot b))=_;exact qaB7 e
 exact qf5 _ (Af (qao6 f rfl) (y:=.int n) rfl (Er ⋯)) q
theorem qe8:qa8 ["_law_plan", "_law_keys_here", "_law_homes", "_law_found", "_law_on", "_law_turn", "_law_room"] ["_law_plan", "_law_keys_here"] (qa2 qC2):=by walk_at "s"
theorem qaw7(a:1<=n)(ks:List Int)(r:Nat):Jz (.l z (Op (ks.map (qd2 n ps)))) (.int (r:Nat))=some (.int (Fn (On n ps) ks r:Nat)):=by show ((flats (Op (ks.map (qd2 n ps)))).bind λb=>some (D.int (b.countP (λz=>eqV z (.int (r:Nat))):Nat)))=_;rw[qE1];show some (D.int (((ks.map (qd2 n ps)).map V.int).countP (λz=>eqV z (.int (r:Nat))):Nat))=_;congr 3;unfold Fn;rw[M8,M8,List.countP_eq_length_filter];congr 1;refine L7 λk _=>?_;have:=qP7 (ps:=ps) a k;exact zBu.mpr ⋯
def onT(n:Int)(ps:Pr)(ks:List Int):Nat->Int:=onC (cR n.toNat (On n ps) ks)
def Bc(n:Int)(ps:Pr)(ks:List Int)(i m:Nat):List Int:=(Lr m).map λr=>onT n ps ks (n.toNat*i+r+1)
theorem qO5{n:Int}{ps:Pr}{m:Nat}:Bc n ps ks i m++[onT n ps ks (n.toNat*i+m+1)]=Bc n ps ks i (m+1):=by unfold Bc;rw[M7,zBh];rfl
def qad9:VSp:=Ay λds d=>∃n wr ps z ks,ds=[Om n wr ps,.l z (Op ks)]/\1<=n/\n<=64/\(ps.map (·.1)).Nodup/\ks.length<=200/\d=.l false (Op (Bc n ps ks wr.toNat n.toNat))
theorem qae8(T:Txt K mg a):VFn P w K mg base 2 a.f48 a.d48 ["_law_plan", "_law_keys_here"] qad9:=by
 refine VFn.mk2 T.d48.F qe8 (wOf [true,true]) qb2 (by walk_at "l") (λ_ _ _ _ _ _ _ L=>⟨_,(Ab (scN (NY:=["_law_key", "_law_plan"]) (src:=[none,some 0]) 2 1 qe8.nd (blk (λB C E H0 G=>(Bf 0 (show (["_law_key", "_law_plan"]:List Str).Nodup by decide +kernel))) (λB C E H0 G=>Fi) (λB C E H0 G=>(Aj T.d47 (qal6 T) L2.qa1 (rm L) (vaN 1 (vaN 0 Ad)))))) (Ab (Ak 3 qe8.nd (qa4 (Bq qa6))) (Ab (Ak 4 qe8.nd (qa4 Ae)) (Ab (qT5 Nw T.Cr (Ep (vaV (qa4 (v2 (Ah qn2) qn1 Ae (Fc qA0 qaw5.ops T.Cz (qa3 (v2 (Ax qb5) Aq (vnm 0) Ae) qa6 rfl)))) Ad)) (Bf 5 qe8.nd) (Ab (Ak 3 qe8.nd (qa4 (Bq qa6))) (Ag (qT5 Nw T.Cr (Ep (vaV (qb4 (v2 (Ax qb5) Aq (vnm 0) Ae)) Ad)) (Bf 6 qe8.nd) (Ab (Ak 4 qe8.nd (qa4 (vbi (qab9 rfl) qaB8.ops T.Db (qa3 Ae (qa3 (v2 (Ah qK7) qK6 (v2 (Ah qn2) qn1 (vnm 4) (vbm qaY1 Nz N5 PySem.F.type_list_count qaH3 (vnm 2) (vnm 6) qaU9)) Ae) qa6 rfl) rfl)))) (Ag (Bb (Dp 3 qz3 Nz N0 N1 qd6 (vaV (qb4 (vnm 4)) Ad))))))))) (Ag (Ap (emv 3))))))),λf Q Y h=>?_⟩);obtain⟨d,⟨n,wr,b,z,c,rfl,H,Z,M,hl,rfl⟩,q⟩:=h;refine As [Om n wr b,.l z (Op c),.u,.u,.u,.u,.u] rfl ?_;refine qb0 [Om n wr b,.l z (Op c),kL (c.map (qd2 n b)),.u,.u,.u,.u] (λK o=>qe1 (qa0 (a:=D.l z (Op c)) rfl (qa0 (a:=Op c) rfl ⟨qi9 c,?_⟩))) ?_
 .refine qj7 (λι=>∃d,ι=[d,Om n wr b]) (λx=>some (match x with | .int k=>.int (qd2 n b k)|d=>d)) _ [] _ (by show 0+_<1000000;rw[qm3];lia) ⟨_,rfl⟩ ?_ ?_;{rintro y N ι O ⟨d,rfl⟩ R S s;obtain⟨k,_,rfl⟩:=zAx.mp N;exact qu9 (Kh (Dm rfl (qL7 (x:=Om n wr b) (y:=.int k) (d:=.int (qd2 n b k)) rfl rfl rfl ⟨n,wr,b,k,rfl,H,M,rfl⟩ rfl ⟨s,S [.int k,Om n wr b] ⟨_,rfl⟩⟩)))};rintro ι ⟨d,rfl⟩;rw[zB4,qap1];have U:((Op c).map λx=>match x with | .int k=>D.int (qd2 n b k)|d=>d)=Op (c.map (qd2 n b)):=by unfold Op;rw[zC2,zC2];rfl
  rw[U];exact o
 generalize t:kL (c.map (qd2 n b))=p;refine qb0 [Om n wr b,.l z (Op c),p,.l false [],.u,.u,.u] (λK o=>o) ?_;refine qb0 [Om n wr b,.l z (Op c),p,.l false [],.int 0,.u,.u] (λK o=>o) ?_;refine qc3 (λf=>∃I r m,f=[Om n wr b,.l z (Op c),p,kL (Bc n b c wr.toNat n.toNat),I,r,m]) (λK o=>?_) ?_
 .refine qaa3 (n:=((1+wr.toNat:Nat):Int)) (by cases wr<;>rfl) (Iz ⋯ (by cases wr<;>decide)) ?_;refine qh6 (λi f=>∃F r m,f=[Om n wr b,.l z (Op c),p,.l false F,.int (onT n b c (n.toNat*i)),r,m]/\(0<i->F=Op (Bc n b c (i-1) n.toNat))) _ 0 _ ⟨_,_,_,rfl,λh=>absurd h ⋯⟩ ?_ ?_
  .rintro i x A f ⟨F,r,m,rfl,_⟩ K2 u;rw[zAk] at u ⊢;obtain⟨hi,rfl⟩:=Kg A;refine qu9 (As [Om n wr b,.l z (Op c),p,.l false F,.int (onT n b c (n.toNat*i)),.int (i:Nat),m] rfl ?_);refine qb0 [Om n wr b,.l z (Op c),p,.l false [],.int (onT n b c (n.toNat*i)),.int (i:Nat),m] (λK o=>o) ?_;refine qW4 (n:=n) rfl (Iz ⋯ ⋯) ?_;refine qh6 (λj f=>∃m,f=[Om n wr b,.l z (Op c),p,kL (Bc n b c i j),.int (onT n b c (n.toNat*i+j)),.int (i:Nat),m]) _ 0 _ ⟨_,rfl⟩ ?_ ?_
   .rintro j x A f ⟨m,rfl⟩ K3 v;rw[zAk] at v ⊢;obtain⟨V,rfl⟩:=Kg A;refine qu9 (As [Om n wr b,.l z (Op c),p,kL (Bc n b c i j),.int (onT n b c (n.toNat*i+j)),.int (i:Nat),.int (j:Nat)] rfl ?_);refine qb0 [Om n wr b,.l z (Op c),p,kL (Bc n b c i j),.int (onT n b c (n.toNat*i+j+1)),.int (i:Nat),.int (j:Nat)] (λK o=>qt8 ?_ o) ?_
    .have W:Jz p (.int (j:Nat))=some (.int (Fn (On n b) c j:Nat)):=by rw[<-t];exact qaw7 H c j
     have e:=Af (g:=gSub) (y:=.int 1) (Af (g:=Gk) (fa:=rdN 4) (ds:=[Om n wr b,.l z (Op c),p,kL (Bc n b c i j),.int (onT n b c (n.toNat*i+j)),.int (i:Nat),.int (j:Nat)]) (x:=.int (onT n b c (n.toNat*i+j))) rfl (Af (g:=Jz) (fa:=rdN 2) (fb:=rdN 6) (by rw[<-t];rfl) rfl W) rfl) (fb:=kC (.int 1)) rfl rfl;unfold A6 A5;rw[e];have X:cR n.toNat (On n b) c (n.toNat*i+j)=Fn (On n b) c j:=by unfold cR;rw[Nat.mul_add_mod,zCe V]
     show some (D.int (if onT n b c (n.toNat*i+j)+(Fn (On n b) c j:Nat)-1>0 then onT n b c (n.toNat*i+j)+(Fn (On n b) c j:Nat)-1 else 0))=some (D.int (if onC (cR n.toNat (On n b) c) (n.toNat*i+j)+(cR n.toNat (On n b) c (n.toNat*i+j):Int)-1>0 then onC (cR n.toNat (On n b) c) (n.toNat*i+j)+(cR n.toNat (On n b) c (n.toNat*i+j):Int)-1 else 0));rw[X];rfl
    refine qaV4 (ys:=Op (Bc n b c i j)) (d:=.int (onT n b c (n.toNat*i+j+1))) rfl rfl rfl (by rw[qm3];unfold Bc big;rw[zAa,zB9];lia) ?_;rw[qan1,qO5];exact v _ ⟨_,rfl⟩
   rintro f ⟨m,rfl⟩;rw[zAk,qH9,show n.toNat*i+n.toNat=n.toNat*(i+1) by rw[Nat.mul_add,Nat.mul_one]];exact u _ ⟨_,_,_,rfl,λ_=>rfl⟩
  rintro f ⟨F,r,m,rfl,J⟩;rw[zAk,qH9,Int.toNat_natCast] at J;rw[J ⋯,show 1+wr.toNat-1=wr.toNat by lia];exact o _ ⟨_,_,_,rfl⟩
 rintro f ⟨I,r,m,rfl⟩;exact q
theorem qf2:qa8 ["_law_plan", "_law_keys_here", "_law_passing_here", "_law_begin", "_law_found", "_law_at", "_law_on", "_law_key"] ["_law_plan", "_law_keys_here"] (qa2 qK1):=by walk_at "s"
theorem qaA4:∀ps:List (Int×Int),(Ot ps).mapM Iu=some ps|[]=>rfl|p::r=>by show List.mapM Iu (D.q [.int p.1,.int p.2]::Ot r)=_;rw[Nb,qaA4 r];rfl
theorem qas4{f:Int->Int}(e:L=S.map λk=>(f k,k))(a:S.Nodup)(b:S.length<=64):qaB4 (.l z (Ot L))=some (.l false (Ot (Eb L))):=by show ((Ot _).mapM Iu).bind _=_;rw[qaA4];refine qi1 ⟨?_,by rw[e,zAa];exact b⟩;rw[e];exact zBx.mpr (a.imp λh z=>h (congrArg Prod.snd z))
theorem qal0{f:Int->Nat}:((Eb (ks.map λk=>(((f k:Nat):Int),k))).map (·.2)).Perm ks:=by have h:((Eb (ks.map λk=>(((f k:Nat):Int),k))).map (·.2)).Perm ((ks.map λk=>(((f k:Nat):Int),k)).map (·.2)):=(Mv _ _).map _;rw[zC2] at h;have e:ks.map ((·.2) ∘ λk=>(((f k:Nat):Int),k))=ks:=List.map_id ks;rwa[e] at h
theorem qal1{f:Int->Nat}{p:Int×Int}(a:p∈Eb (ks.map λk=>(((f k:Nat):Int),k))):p.1=(f p.2:Nat):=by rw[List.mem_mergeSort] at a;obtain⟨k,_,rfl⟩:=zAx.mp a;rfl
theorem qaY2{f:Int->Nat}(b:ks.Nodup):((Eb (ks.map λk=>(((f k:Nat):Int),k))).map (·.2)).Pairwise (Jl f):=by have a:=(qal0 (f:=f)).nodup_iff.mpr b;unfold List.Nodup at a;rw[zBx] at a ⊢;refine((qah8 _).and a).imp_of_mem λ{p q} c d h=>?_;have g:=qal1 c;have i:=qal1 d;have e:=h.1;simp only[S6.plt,decide_eq_false_iff_not] at e;have j:=h.2;unfold Jl;lia
theorem qbb8{z:Bool}:∀{L R:List Int},¬k∈L->Jy (.l z (Op (L++k::R))) (.int k)=some (.int (L.length:Nat)):=by
 intro L R h;have e:Bw (.int k) ((L++k::R).map V.int)=some L.length:=by induction L with|nil=>show (if decide (k=k)=true then some 0 else _)=_;rw[if_pos (zAj rfl)];rfl|cons a L b=>rw[zAl,not_or] at h;show (if decide (a=k)=true then some 0 else (Bw (.int k) ((L++k::R).map V.int)).map (· + 1))=_;rw[if_neg (by simpa using λz=>h.1 z.symm),b h.2];rfl
 show ((flats (Op (L++k::R))).bind λc=>(Bw (.int k) c).map λj=>D.int (j:Nat))=_;rw[qE1];show (Bw (.int k) ((L++k::R).map V.int)).map (λj=>D.int (j:Nat))=_;rw[e];rfl
theorem qak5{n:Int}{ps:Pr}{z:Bool}(h:1<=n):gIx (.l z (Op (Bc n ps ks i n.toNat))) (.int (-1))=some (.int (onT n ps ks (n.toNat*i+n.toNat))):=by
 obtain⟨m,e⟩:∃m,n.toNat=m+1:=⟨n.toNat-1,⋯⟩;have e2:Bc n ps ks i n.toNat=Bc n ps ks i m++[onT n ps ks (n.toNat*i+m+1)]:=by rw[qO5,e]
 rw[e2,show n.toNat*i+n.toNat=n.toNat*i+m+1 by lia];unfold Op;rw[zBh];exact qaK7 _ _
def qah7:VSp:=λds Q _=>∃n wr ps z ks,ds=[Om n wr ps,.l z (Op ks)]/\1<=n/\n<=64/\(ps.map (·.1)).Nodup/\ks.Nodup/\ks.length<=200/\((∃q,Crowd n.toNat wr (On n ps) ks q)->Q .non ds)/\((∀q,¬Crowd n.toNat wr (On n ps) ks q)->∀g,Kept n.toNat wr (On n ps) g ks->Q (rL n g) ds)
theorem qD2(T:Txt K mg a):VFn P w K mg base 3 a.f49 a.d49 ["_law_plan", "_law_keys_here"] qah7:=by
 refine VFn.mk2 T.d49.F qf2 (wOf [true,true]) (by walk_at "m") (by walk_at "l") (λ_ _ _ _ _ _ _ u=>⟨_,(Ab (sif (q2 (Am Bk (qa9 _)) Bn (vbi qq2 qq1.ops T.Co (qa3 (vnm 1) qa6 rfl)) (v2 (Ax qb5) Aq (vnm 0) Ae)) (Ag (Ap (qa4 Ba))) Av) (Ab (Ak 2 qf2.nd (Aj T.d48 (qae8 T) qa1 (rm u) (vaN 0 (vaN 1 Ad)))) (Ab (sif (Gn (Bj (tv (v2 (Ax qb5) Aq (vnm 0) Ae))) (Ew (q2 (Am Bk (qa9 _)) Bn (v2 (Ax qb5) Aq (vnm 2) (vneg Ae)) Ae))).te (Ag (Ap (qa4 Ba))) Av) (Ab (Ak 3 qf2.nd (qa4 Ae)) (Ab (sif (tv (v2 (Ax qb5) Aq (vnm 0) Ae)) (Ag (Ak 3 qf2.nd (qa4 (v2 (Ah qn2) qn1 (vbm qaF9 Nz N2 N3 qL4 (vnm 2) Ae qao0) Ae)))) Av) (Ab (Ak 4 qf2.nd (qa4 (v2 (Ah qj3) qk0 (Bq (qa3 Ba qa6 rfl)) (v2 (Ax qb5) Aq (vnm 0) Ae)))) (Ab (Ak 5 qf2.nd (qa4 (vneg Ae))) (Ab (Ht Nw (ebi qaq0 qaK2.ops T.D6 (Ep (vaV (ecN (NY:=["_law_key", "_law_begin", "_law_plan"]) (src:=[none,some 3,some 0]) 1 (blk (λav C s0 H0 ex=>(Bf 0 (show (["_law_key", "_law_begin", "_law_plan"]:List Str).Nodup by decide +kernel))) (λav C s0 H0 ex=>Fi) (λav C s0 H0 ex=>(Jw (vaV (e2v (Ah qo3) qo2 (e2v (Ah qK7) qK6 (Aj T.d47 (qal6 T) L2.qa1 (rm u) (vaN 2 (vaN 0 Ad))) (vnm 1)) (v2 (Ax qb5) Aq (vnm 2) Ae)) (vaV (qb4 (vnm 0)) Ad)))))) Ad))) (Hr (n:=2) rfl (qQ3 (Bf 6 qf2.nd) (qQ3 (Bf 7 qf2.nd) Hq))) (Ab (Ak 5 qf2.nd (qa4 (vbi (qab9 rfl) qaB8.ops T.Db (qa3 (v2 (Ah qn2) qn1 (vnm 5) Ae) (qa3 (vnm 6) qa6 rfl) rfl)))) (Ag (Fe (qb4 (vnm 7)) (Dq (vpn 4) (v2 (Ah qo3) qo2 (v2 (Ah qn2) qn1 (vnm 3) (vnm 5)) (v2 (Ax qb5) Aq (vnm 0) Ae))))))) (Ag (Ap (emv 4))))))))))),λv Q xe h=>?_⟩);obtain⟨n,wr,j,z,o,rfl,M,n2,nd,N,hl,q,q'⟩:=h;have B:=Eh (ps:=j) M;have oc:=qat7 (T:=o) ⋯ B;refine As [Om n wr j,.l z (Op o),.u,.u,.u,.u,.u,.u] rfl ?_;refine qm4 (decide (n<(o.length:Int))) (Af (qL9 rfl) (y:=.int n) rfl (by rw[qm3];rfl)) (λh=>qf5 .non rfl (q ⟨0,⋯,?_⟩)) λh=>?_;{have h:=zA8 h;cases wr with|true=>rw[if_pos rfl];exact⟨rfl,⋯⟩|false=>rw[if_neg ∅,List.filter_eq_self.mpr λ_ _=>zAj (zBf _)];lia};have a0:o.length<=n.toNat:=by have:=zB0 h;lia
 refine qb0 [Om n wr j,.l z (Op o),kL (Bc n j o wr.toNat n.toNat),.u,.u,.u,.u,.u] (λK t=>qe1 (qL7 (x:=Om n wr j) (y:=.l z (Op o)) rfl rfl rfl ⟨n,wr,j,z,o,rfl,M,n2,nd,hl,rfl⟩ rfl t)) ?_;refine qh0 (!wr&&decide (0<onT n j o (n.toNat*wr.toNat+n.toNat))) (λQ q=>ql0 (!wr) (decide (0<onT n j o (n.toNat*wr.toNat+n.toNat))) (λQ q=>qt4 (b:=wr) rfl q) (λ_ Q q=>qi3 (Af (Af rfl rfl (qak5 M)) rfl rfl) q) q) (λh=>qf5 .non rfl (q ?_)) λh=>?_;{cases wr with|true=>cases h|false=>have h:=zA8 h;rw[show n.toNat*false.toNat+n.toNat=n.toNat by show n.toNat*0+_=_;lia] at h;exact oc.mp h};refine qb0 [Om n wr j,.l z (Op o),kL (Bc n j o wr.toNat n.toNat),.int 0,.u,.u,.u,.u] (λK t=>t) ?_;refine qc3 (λv=>∃s:Nat,v=[Om n wr j,.l z (Op o),kL (Bc n j o wr.toNat n.toNat),.int (s:Nat),.u,.u,.u,.u]/\s<=n.toNat/\(wr=false->s=0)/\(∀q,¬Crowd n.toNat wr (On n j) o q)/\∀q,¬Crowd n.toNat false (λk=>Aa n.toNat (s%n.toNat) (On n j k)) o q) (λK t=>?_) ?_
 .refine if_v (b:=wr) rfl (λE=>?_) λE=>t _ ⟨0,rfl,⋯,λ_=>rfl,?_,?_⟩
  .subst E;obtain⟨r,u,h0⟩:=qaG1 (T:=o) ⋯ B a0;have hm:(0:Int)∈Bc n j o 1 n.toNat:=zAx.mpr ⟨r,zAr.mpr u,by rw[Nat.mul_one];exact h0⟩;obtain⟨L,R,O,nL⟩:=List.eq_append_cons_of_mem hm;have S:L.length<n.toNat:=by have:=congrArg Lv O;unfold Bc at this;simp at this;lia
   have Y:onT n j o (n.toNat+L.length+1)=0:=by
    have:(Bc n j o 1 n.toNat)[L.length]?=some 0:=by rw[O];simp
    unfold Bc at this;rw[zBd,List.getElem?_range S,Nat.mul_one] at this;exact Nv this
   refine qt8 (d:=.int ((L.length+1:Nat):Int)) (Af (g:=Gk) (y:=.int 1) (Af (g:=Jy) (x:=kL (L++0::R)) (y:=.int 0) (by rw[<-O];rfl) rfl (qbb8 nL)) rfl rfl) (t _ ⟨L.length+1,rfl,⋯,λh=>absurd h ∅,λq c=>?_,qP1 S B Y⟩);have c:=c.2;rw[if_pos rfl] at c;lia
  {subst E;have h:decide _=false:=h;rw[show n.toNat*false.toNat+n.toNat=n.toNat by show n.toNat*0+_=_;lia] at h;exact λq c=>zB0 h (oc.mpr ⟨q,c⟩)};subst E;have h:decide _=false:=h;rw[show n.toNat*false.toNat+n.toNat=n.toNat by show n.toNat*0+_=_;lia] at h;rw[Nat.zero_mod,show (λk=>Aa n.toNat 0 (On n j k))=On n j from funext λk=>Hi];exact λq c=>zB0 h (oc.mpr ⟨q,c⟩)
 rintro v ⟨s,rfl,hs,E,nc,a1⟩;have G:s%n.toNat<n.toNat:=Nat.mod_lt _ ⋯;generalize eP:kL (Bc n j o wr.toNat n.toNat)=H;refine qb0 [Om n wr j,.l z (Op o),H,.int (s:Nat),.l false (Os n.toNat λ_=>none),.u,.u,.u] (λK t=>qt8 (Af rfl (y:=.int n) rfl (qV7 ⋯ n2)) t) ?_;refine qb0 [Om n wr j,.l z (Op o),H,.int (s:Nat),.l false (Os n.toNat λ_=>none),.int (-1),.u,.u] (λK t=>t) ?_;refine qc3 (λv=>∃g d5 I J,v=[Om n wr j,.l z (Op o),H,.int (s:Nat),rL n g,d5,I,J]/\Kept n.toNat wr (On n j) g o) (λK t=>?_) ?_
 .refine co_to (qg5 (qa0 (a:=D.l z (Op o)) rfl (qa0 (a:=Op o) rfl ⟨qi9 o,?_⟩)));refine qj7 (λι=>∃d,ι=[d,.int (s:Nat),Om n wr j]) (λx=>some (match x with | .int k=>.q [.int (Aa n.toNat (s%n.toNat) (On n j k):Nat),.int k] | d=>d)) _ [] _ (by show 0+_<1000000;rw[qm3];lia) ⟨_,rfl⟩ ?_ ?_;{rintro y U ι a4 ⟨d,rfl⟩ R hR V;obtain⟨k,_,rfl⟩:=zAx.mp U;have this:=hR [.int k,.int (s:Nat),Om n wr j] ⟨_,rfl⟩;refine qu9 (Kh (Dm rfl (qg5 (qt5 (qt5 (qL7 (x:=Om n wr j) (y:=.int k) (d:=.int (qd2 n j k)) rfl rfl rfl ⟨n,wr,j,k,rfl,M,nd,rfl⟩ rfl ?_))))));refine qa0 (a:=D.int (qd2 n j k-(s:Nat))) rfl (qa0 (a:=D.int (Aa n.toNat (s%n.toNat) (On n j k):Nat)) ((Er ⋯).trans ?_) (qd3 (y:=.int k) rfl rfl (qb3 ⟨lt2,V,this⟩)));have Y:=qaH5 (B k) hs;rw[qP7 M k,show ((n.toNat:Nat):Int)=n by lia] at Y;rw[Y]};rintro ι ⟨d,rfl⟩;rw[zB4,qap1];have O:((Op o).map λx=>match x with | .int k=>D.q [.int (Aa n.toNat (s%n.toNat) (On n j k):Nat),.int k] | d=>d)=Ot (o.map λk=>((Aa n.toNat (s%n.toNat) (On n j k):Nat),k)):=by unfold Op Ot;rw[zC2,zC2];rfl
  rw[O];have pw:=qaY2 (f:=λk=>Aa n.toNat (s%n.toNat) (On n j k)) N;have Z:=qal0 (f:=λk=>Aa n.toNat (s%n.toNat) (On n j k)) (ks:=o);have of:=λp=>qal1 (f:=λk=>Aa n.toNat (s%n.toNat) (On n j k)) (ks:=o) (p:=p);have es:=qas4 (z:=false) (L:=o.map λk=>(((Aa n.toNat (s%n.toNat) (On n j k):Nat):Int),k)) rfl N ⋯;generalize Eb (o.map λk=>(((Aa n.toNat (s%n.toNat) (On n j k):Nat):Int),k))=L at pw Z of es;refine qb3 (qa0 (a:=D.l false (Ot L)) es (qa0 (a:=Ot L) rfl ⟨qP5 L,?_⟩));refine qh6 (λi v=>∃g top I J,v=[Om n wr j,.l z (Op o),H,.int (s:Nat),.l false (Os n.toNat λi=>g (Aa n.toNat (s%n.toNat) i)),.int ((top:Nat)-1:Int),I,J]/\Fill n.toNat (λk=>Aa n.toNat (s%n.toNat) (On n j k)) g ((L.take i).map (·.2)) top) _ 0 _ ⟨_,0,_,_,rfl,Fill.start ⋯ λk=>qj6 (B k) G⟩ ?_ ?_
  .rintro i y U v ⟨g,top,I,J,rfl,F⟩ K2 W;rw[zAk] at F W;unfold Ot at U;rw[zBd] at U;obtain⟨⟨h0,k⟩,hp,rfl⟩:=zA7.mp U;obtain rfl:h0=((Aa n.toNat (s%n.toNat) (On n j k):Nat):Int):=of _ (zB8 hp);have a2:=(zA5.mp hp).1;have a3:L.map (·.2)=((L.take i).map (·.2)++[k])++(L.drop (i+1)).map (·.2):=by
    conv=>lhs;rw[<-zBg i L,zC4 a2,(zA5.mp hp).2]
    simp
   have tk:(L.take (i+1)).map (·.2)=(L.take i).map (·.2)++[k]:=by rw[Lx,hp,zBh];rfl
   rw[a3] at pw Z;have A:∀x∈(L.take i).map (·.2),Jl (λk=>Aa n.toNat (s%n.toNat) (On n j k)) x k:=λx hx=>(List.pairwise_append.mp (List.pairwise_append.mp pw).1).2.2 x hx k (zAf.mpr rfl);have nk:¬k∈(L.take i).map (·.2):=λh=>by rcases A k h with z|z<;>lia
   have u:=F.room A λq c=>a1 q ((c.mono (List.sublist_append_left _ _)).perm Z);have F':=F.put nk A u;generalize er:max top (Aa n.toNat (s%n.toNat) (On n j k))=r at u F';refine qM4 (As [Om n wr j,.l z (Op o),H,.int (s:Nat),.l false (Os n.toNat λi=>g (Aa n.toNat (s%n.toNat) i)),.int ((top:Nat)-1:Int),.int (Aa n.toNat (s%n.toNat) (On n j k):Nat),.int k] rfl ?_);refine qb0 [Om n wr j,.l z (Op o),H,.int (s:Nat),.l false (Os n.toNat λi=>g (Aa n.toNat (s%n.toNat) i)),.int (r:Nat),.int (Aa n.toNat (s%n.toNat) (On n j k):Nat),.int k] (λK t=>qt8 (d:=.int (r:Nat)) ?_ t) ?_;{show some (D.int (if ((Aa n.toNat (s%n.toNat) (On n j k):Nat):Int)>(top:Nat)-1+1 then ((Aa n.toNat (s%n.toNat) (On n j k):Nat):Int) else (top:Nat)-1+1))=_;congr 2;split<;>lia};have em:(((s:Nat):Int)+(r:Nat))%n=(rot n.toNat (s%n.toNat) r:Nat):=by have:((s+r:Nat):Int)%((n.toNat:Nat):Int)=((s+r)%n.toNat:Nat):=⋯;rw[show ((n.toNat:Nat):Int)=n by lia,Nat.add_mod,zCe u,qay4 G u] at this;rw[<-this];congr 1
   refine qN5 (ys:=Os n.toNat λi=>g (Aa n.toNat (s%n.toNat) i)) (d:=.int k) (k:=(rot n.toNat (s%n.toNat) r:Nat)) rfl rfl rfl (Af (x:=.int ((s:Nat)+(r:Nat))) (y:=.int n) rfl rfl ((Er ⋯).trans (by rw[em]))) (I9 (qU7 G u)) ?_;rw[qJ4];have ec:Os n.toNat (Row.set (λi=>g (Aa n.toNat (s%n.toNat) i)) (rot n.toNat (s%n.toNat) r) k)=Os n.toNat λi=>Row.set g r k (Aa n.toNat (s%n.toNat) i):=qi0 λi hi=>by by_cases e:i=rot n.toNat (s%n.toNat) r;{subst e;rw[qb7,qt1 G u,qb7]};rw[qd4 e,qd4 λz=>e (by rw[<-z,qs1 G hi])]
   refine W _ ⟨_,r+1,.int (Aa n.toNat (s%n.toNat) (On n j k):Nat),.int k,?_,by rw[tk];exact F'⟩;rw[<-ec,show (((r+1:Nat):Int)-1)=((r:Nat):Int) by lia];rfl
  rintro v ⟨g,top,I,J,rfl,F⟩;have X:(Ot L).length=L.length:=zAa _;rw[zAk,X,Mb] at F;refine t _ ⟨_,_,_,_,rfl,?_⟩;have K1:=F.k.of_perm Z;cases wr with|true=>exact K1.turn G B|false=>obtain rfl:=E rfl;rw[Nat.zero_mod] at K1 ⊢;rw[show (λk=>Aa n.toNat 0 (On n j k))=On n j from funext λk=>Hi] at K1;rw[show (λi=>g (Aa n.toNat 0 i))=g from funext λi=>by rw[Hi]];exact K1
 rintro v ⟨g,d5,I,J,rfl,KP⟩;exact q' nc g KP
theorem qB1:qa8 ["_law_bag_here", "_law_many", "_law_found", "_law_k", "_law_one", "_law_key"] ["_law_bag_here", "_law_many"] (qa2 qai7):=by walk_at "s"
def qaD4:VSp:=λds Q _=>∃b m a,ds=[b,.int m]/\O1 a b/\0<=m/\m<=64/\∀c ks,O1 a c->ks.Nodup->(∀k∈ks,0<=k/\k<1000000000000000000)->ks.length<=64->Q (kL ks) [c,.u]
theorem qaB5{x y w i:Int}(c:0<=i)(h1:i<4){P:Int->Prop}(d:P x)(e:P y)(f:P z)(g:P w):∃v,atI [D.int x,D.int y,D.int z,D.int w] i=some (.int v)/\P v:=by obtain⟨v,b,a⟩:=qR0 (xs:=[D.int x,D.int y,D.int z,D.int w]) c h1;simp only[zAl,zCf,or_false] at b;rcases b with rfl|rfl|rfl|rfl;{exact⟨x,a,d⟩};{exact⟨y,a,e⟩};{exact⟨z,a,f⟩};exact⟨w,a,g⟩
theorem qaG4(T:Txt K mg a):VFn P w K mg base 2 a.f50 a.d50 ["_law_bag_here", "_law_many"] qaD4:=by
 refine VFn.mk' T.d50.F qB1 (wOf [true,true]) (λf Q Q' E O R _ h=>by obtain⟨b,m,l,e,S,U,V,q⟩:=h;exact⟨b,m,l,e,S,U,V,λG c H I W X=>R _ _ (q G c H I W X)⟩) (λf Q E ⟨b,m,l,e,_⟩=>by rw[e];rfl) (λf Q E h=>by obtain⟨b,m,l,e,⟨x,y,z,Y,_⟩,_⟩:=h;rw[e,Y];rfl) (λ_ _ _ _ _ _ _ J=>⟨_,(Ab (Ak 2 qB1.nd (qa4 (Bq qa6))) (Ab (qT5 Nw T.Cr (Ep (vaN 1 Ad)) (Bf 3 qB1.nd) (Ab (Ak 4 qB1.nd (Aj T.d46 (qf9 T) qa1 (rm J) (vaN 0 (vaV (qa4 Ae) Ad)))) (Ab (Ak 5 qB1.nd (e2P (Ax qb5) Aq (Il (vaV (qb4 (vnm 4)) (vaV (qa4 (v2 (Ah qj3) qk0 Ae (vnm 4))) (vaV (qa4 (v2 (Ah qn2) qn1 (v2 (Ah qj3) qk0 Ae (vnm 4)) (v2 (Ah qo3) qo2 (vnm 4) Ae))) (vaV (Aj T.d46 (qf9 T) qa1 (rm J) (vaN 0 (vaV (qa4 (vpow 1000000000000000000)) Ad))) Ad))))) (Aj T.d46 (qf9 T) qa1 (rm J) (vaN 0 (vaV (qa4 Ae) Ad))))) (Ag (sif (q2 (Am qs3 (by with_unfolding_all rfl)) Fy (vnm 5) (vnm 2)) (Ag (Bb (Dp 2 qz3 Nz N0 N1 qd6 (vaN 5 Ad)))) Av))))) (Ag (Ap (emv 2))))),λf Q E h=>?_⟩);obtain⟨b,m,l,rfl,B,m0,m1,q⟩:=h;refine As [b,.int m,.u,.u,.u,.u] rfl ?_;refine qb0 [b,.int m,kL [],.u,.u,.u] (λK s=>s) ?_;refine qc3 (λf=>∃b c t p j,f=[b,.u,kL c,t,p,j]/\O1 l b/\c.Nodup/\(∀k∈c,0<=k/\k<1000000000000000000)/\c.length<=m.toNat) (λK s=>?_) ?_
 .refine qav4 (n:=m) rfl (Iz ⋯ ⋯) ?_;refine qh6 (λi f=>∃b c t p j,f=[b,.u,kL c,t,p,j]/\O1 l b/\c.Nodup/\(∀k∈c,0<=k/\k<1000000000000000000)/\c.length<=i) _ 0 _ ⟨b,[],_,_,_,rfl,B,Mr,nofun,zA2 _⟩ ?_ ?_
  .rintro i x D f ⟨b,c,t,p,j,rfl,B,A,C,g⟩ K2 u;rw[zAk] at g u;obtain⟨hi,rfl⟩:=Kg D;refine qu9 (As [b,.u,kL c,.int (i:Nat),p,j] rfl ?_);refine qc3 (λf=>∃b o,f=[b,.u,kL c,.int (i:Nat),.int o,j]/\O1 l b/\0<=o/\o<70) (λK s=>?_) ?_;{exact qf0 rfl B rfl ∅ ∅ λv G Z v1 B'=>s _ ⟨G,v,rfl,B',Z,v1⟩};rintro f ⟨b,o,rfl,B,o0,o1⟩;refine qc3 (λf=>∃b r,f=[b,.u,kL c,.int (i:Nat),.int o,.int r]/\O1 l b/\0<=r/\r<1000000000000000000) (λK s=>?_) ?_;{have N:f2 Fp (kC (.int 64)) (rdN 4) [b,.u,kL c,.int (i:Nat),.int o,j]=some (.int (64*o)):=Af (x:=.int 64) (y:=.int o) rfl rfl (Gv ∅);refine qe1 (qaM2 (qG2 (qd3 (y:=.int o) rfl rfl (qc0 (y:=.int (64*o)) N (qc0 (y:=.int (64*o+o%3)) (Af N (Af (x:=.int o) (y:=.int 3) rfl rfl (Er ∅)) rfl) (qg5 ?_))))));refine qf0 (ds:=[b,.u,kL c,.int (i:Nat),.int o,j]) (m:=1000000000000000000) rfl B rfl ∅ ∅ λx4 b1 H c1 B1=>qb3 ⟨lt4,?_⟩;refine qf0 (ds:=[b1,.u,kL c,.int (i:Nat),.int o,j]) (m:=4) rfl B1 rfl ∅ ∅ λx5 b2 I c2 B2=>?_;obtain⟨v,ev,hv⟩:=qaB5 (P:=λv=>0<=v/\v<1000000000000000000) I c2 (x:=o) (y:=64*o) (z:=64*o+o%3) (w:=x4) ⟨⋯,⋯⟩ ⟨⋯,⋯⟩ ⟨⋯,⋯⟩ ⟨H,c1⟩;exact qa0 ev (s _ ⟨b2,v,rfl,B2,hv⟩)};rintro f ⟨b,r,rfl,B,L⟩;refine if_v (b:=!decide (r∈c)) (Af rfl rfl qV5) (λM=>?_) λM=>u _ ⟨b,c,_,_,_,rfl,B,A,C,⋯⟩;have hm:¬r∈c:=λz=>by rw[zAj z] at M;cases M
   refine qbe3 (ys:=Op c) (d:=.int r) rfl rfl rfl ∅ (by rw[qm3];unfold big;lia) ?_;rw[qan1];refine u _ ⟨b,c++[r],_,_,_,rfl,B,zBq.mpr ⟨A,(by simp),λx D y hy e=>hm (by rw[<-zAf.mp hy,<-e];exact D)⟩,λx D=>?_,by rw[zAd];exact Nat.add_le_add_right g 1⟩;rcases zAb.mp D with h|h;{exact C x h};rw[zAf.mp h];exact L
  rintro f ⟨b,c,t,p,j,rfl,B,A,C,g⟩;rw[zAk,qH9] at g;exact s _ ⟨b,c,t,p,j,rfl,B,A,C,g⟩
 rintro f ⟨b,c,t,p,j,rfl,B,A,C,g⟩;exact q b c B A C ⋯
theorem ql1:qa8 ["_law_bag_here", "_law_keys_here", "_law_homes", "_law_key"] ["_law_bag_here", "_law_keys_here"] (qa2 qn9):=by walk_at "s"
theorem qaT1{j:Int}(h:0<=j):gSl (.l z (Op ks)) none (some j)=some (kL (ks.take j.toNat)):=by
 have e:B9 (Op ks) none (some j)=Op (ks.take j.toNat):=by rw[show j=((j.toNat:Nat):Int) by lia,qM8,Int.toNat_natCast];unfold Op;rw[Mj]
 show gd (D.imms (B9 (Op ks) none (some j))=true) (.l false (B9 (Op ks) none (some j)))=_;rw[e];exact qi1 (qi9 _)
theorem qaC6{x y i:Int}(c:0<=i)(h1:i<3){P:Int->Prop}(d:P x)(e:P y)(f:P z):∃v,atI [D.int x,D.int y,D.int z] i=some (.int v)/\P v:=by obtain⟨v,b,a⟩:=qR0 (xs:=[D.int x,D.int y,D.int z]) c h1;simp only[zAl,zCf,or_false] at b;rcases b with rfl|rfl|rfl;{exact⟨x,a,d⟩};{exact⟨y,a,e⟩};exact⟨z,a,f⟩
theorem qaO5{ps:Pr}{m:Int}:Ot ps++[.q [.int k,.int m]]=Ot (ps++[(k,m)]):=by unfold Ot;rw[zBh];rfl
theorem qaR2(ps:Pr):(Ot ps).length=ps.length:=zAa _
def qJ0:VSp:=λds Q _=>∃b z ks a,ds=[b,.l z (Op ks)]/\O1 a b/\ks.Nodup/\(∀k∈ks,An k)/\ks.length<=64/\∀c ps,O1 a c->qt3 ps->Q (.l false (Ot ps)) [c,.l z (Op ks)]
theorem qL0(T:Txt K mg a):VFn P w K mg base 2 a.f51 a.d51 ["_law_bag_here", "_law_keys_here"] qJ0:=by
 refine VFn.mk' T.d51.F ql1 (wOf [true,true]) (λg Q Q' A N O _ h=>by obtain⟨b,z,f,n,e,R,S,U,V,q⟩:=h;exact⟨b,z,f,n,e,R,S,U,V,λW c r H=>O _ _ (q W c r H)⟩) (λg Q A h=>by obtain⟨b,z,f,n,e,_⟩:=h;rw[e];rfl) (λg Q A h=>by obtain⟨b,z,f,n,e,⟨x,y,z',X,_⟩,_⟩:=h;rw[e,X];rfl) (λ_ _ _ _ _ _ _ s=>⟨_,(Ab (Ak 2 ql1.nd (qa4 (Bq qa6))) (Ab (Ht Nw (eslN 1 (e2P (Ax qb5) Aq (qa4 (Bq (qa3 Ae (qa3 Ae (qa3 Ae (qa3 Ae (qa3 Ae qa6 rfl) rfl) rfl) rfl) rfl))) (Aj T.d46 (qf9 T) qa1 (rm s) (vaN 0 (vaV (qa4 Ae) Ad))))) (Bf 3 ql1.nd) (Ag (Bb (Dp 2 qz3 Nz N0 N1 qd6 (vaV (Jw (vaV (qb4 (vnm 3)) (vaV (e2P (Ax qb5) Aq (Il (vaV (Aj T.d46 (qf9 T) qa1 (rm s) (vaN 0 (vaV (qa4 Ae) Ad))) (vaV (e2 (Ah qK7) qK6 (qa4 (vpow 1000000000000000000)) (Aj T.d46 (qf9 T) qa1 (rm s) (vaN 0 (vaV (qa4 Ae) Ad)))) (vaV (qa4 Ae) Ad)))) (Aj T.d46 (qf9 T) qa1 (rm s) (vaN 0 (vaV (qa4 Ae) Ad)))) Ad))) Ad))))) (Ag (Ap (emv 2))))),λg Q A h=>?_⟩);obtain⟨b,z,f,n,rfl,B,Y,Z,a0,q⟩:=h;refine As [b,.l z (Op f),.u,.u] rfl ?_;refine qb0 [b,.l z (Op f),.l false (Ot []),.u] (λK C=>C) ?_;refine qc3 (λg=>∃b c l,g=[b,.l z (Op f),.l false (Ot c),l]/\O1 n b/\qt3 c) (λK C=>?_) ?_
 .refine⟨rfl,qaD2 (x:=.l false [.int 0,.int 0,.int 3,.int 6,.int 64]) rfl (qf0 (ds:=[b,.l z (Op f),.l false (Ot []),.u]) (m:=5) rfl B rfl ∅ ∅ λI E r J B1=>?_)⟩;obtain⟨d,L,ed⟩:=qR0 (xs:=[D.int 0,D.int 0,D.int 3,D.int 6,D.int 64]) r J;obtain⟨t,rfl,t0⟩:∃t:Int,d=.int t/\0<=t:=by simp only[zAl,zCf,or_false] at L;rcases L with rfl|rfl|rfl|rfl|rfl<;>exact⟨_,rfl,∅⟩
  refine qa0 ed (qa0 (a:=t) rfl (qa0 (a:=D.l false (Op (f.take t.toNat))) (qaT1 (z:=z) t0) (qa0 (a:=Op (f.take t.toNat)) rfl ⟨qi9 _,?_⟩)));refine qh6 (λi g=>∃b c l,g=[b,.l z (Op f),.l false (Ot c),l]/\O1 n b/\c.map (·.1)=(f.take t.toNat).take i/\∀p∈c,An p.2) _ 0 _ ⟨E,[],_,rfl,B1,rfl,nofun⟩ ?_ ?_
  .rintro i x hx g ⟨b,c,l,rfl,B,j,G⟩ K2 o;rw[zAk] at j o;obtain⟨k,hi,rfl⟩:=qaR6 hx;have a4:c.length<=64:=by have:=congrArg Lv j;simp at this;lia
   refine qu9 (As [b,.l z (Op f),.l false (Ot c),.int k] rfl (qg3 ⟨rfl,qg5 (qar5 (qd3 (y:=.int k) rfl rfl (qg5 (qaM2 (qG2 (qg5 ?_))))))⟩));refine qf0 (ds:=[b,.l z (Op f),.l false (Ot c),.int k]) (m:=64) rfl B rfl ∅ ∅ λI E r J B1=>qg5 (qaD2 (x:=.int 1000000000000000000) rfl ?_);refine qf0 (ds:=[E,.l z (Op f),.l false (Ot c),.int k]) (m:=64) rfl B1 rfl ∅ ∅ λM b2 H c2 B2=>qa0 (a:=D.int (1000000000000000000-M)) rfl (qc0 (y:=.int 7) rfl (qb3 ⟨lt3,?_⟩));refine qf0 (ds:=[b2,.l z (Op f),.l false (Ot c),.int k]) (m:=3) rfl B2 rfl ∅ ∅ λx3 b3 a3 c3 B3=>?_;obtain⟨v,ev,hv⟩:=qaC6 (P:=An) a3 c3 (x:=I) (y:=1000000000000000000-M) (z:=7) ⟨⋯,⋯⟩ ⟨⋯,⋯⟩ ⟨∅,∅⟩;refine qa0 ev (qb3 ⟨lt2,qb3 ?_⟩);refine qa0 (a:=Ot c) rfl (qa0 (a:=(Ot c++[D.q [.int k,.int v]],D.non)) (if_pos (by rw[qaR2];unfold big;lia)) ?_);rw[qaO5];refine o _ ⟨b3,c++[(k,v)],_,rfl,B3,by rw[zBh,j,qA1 hi];rfl,λp u=>?_⟩;rcases zAb.mp u with h|h;{exact G p h};rw[zAf.mp h];exact hv
  rintro g ⟨b,c,l,rfl,B,j,G⟩;rw[zAk,qm3,Mb] at j;exact C _ ⟨b,c,l,rfl,B,by have:=congrArg Lv j;simp at this;lia,by rw[j];exact Y.sublist (Lw _ _),λp u=>⟨Z _ (Mh (by rw[<-j];exact List.mem_map_of_mem u)),G p u⟩⟩
 rintro g ⟨b,c,l,rfl,B,hG⟩;exact q b c B hG
theorem qu0:qa8 ["self", "key"] ["self", "key"] (qa2 qn8):=by walk_at "s"
noncomputable def Gx:Option Int->V|some k=>.int k|none=>.non
theorem qM6(N:Nat)(g:Nat->Option Int):flats (Os N g)=some ((Lr N).map λi=>Gx (g i)):=by
 have:∀l:List Nat,flats (l.map λi=>Dw (g i))=some (l.map λi=>Gx (g i)):=λl=>by induction l with|nil=>rfl|cons a l b=>show ((Dw (g a)).flat.bind λv=>(flats (l.map λi=>Dw (g i))).bind λc=>some (v::c))=_;rw[b,zAz];cases g a<;>rfl
 exact this _
noncomputable def Ed(N:Nat)(g:Nat->Option Int)(k:Int):Option Nat:=(Lr N).findIdx? λi=>decide (g i=some k)
def Di(N:Nat)(g:Nat->Option Int)(k:Int):D:=match Ed N g k with|some i=>.int (i:Nat)|none=>.non
theorem qaB6:eqV (Gx o) (.int k)=decide (o=some k):=by cases o with|none=>rfl|some a=>exact zBu.mpr ⟨λh=>by rw[h],λh=>Nv h⟩
theorem qaa0{k:Int}{g:Nat->Option Int}:∀l:List Nat,Bw (.int k) (l.map λi=>Gx (g i))=l.findIdx? λi=>decide (g i=some k)|[]=>rfl|a::l=>by show (if eqV (Gx (g a)) (.int k)=true then some 0 else (Bw (.int k) (l.map λi=>Gx (g i))).map (· + 1))=_;rw[qaB6,qaa0 l,zCg]
theorem qaS5{k:Int}{g:Nat->Option Int}:∀l:List Nat,inV (.int k) (l.map λi=>Gx (g i))=(l.findIdx? λi=>decide (g i=some k)).isSome|[]=>rfl|a::l=>by have b:=qaS5 (k:=k) (g:=g) l;unfold inV at b ⊢;rw[zAz,zCa,b,zCg];have e:=qaB6 (o:=g a) (k:=k);cases h:decide (g a=some k) with|true=>rw[h] at e;simp[e]|false=>rw[h] at e;simp[e]
theorem qK2{g:Nat->Option Int}(h:∀i,i<N->g i≠some k):Di N g k=.non:=by have:Ed N g k=none:=List.findIdx?_eq_none_iff.mpr λi a=>zB6 (h i (zAr.mp a));unfold Di;rw[this]
theorem qz6{g:Nat->Option Int}(hi:i<N)(e:g i=some k):∃j:Nat,Di N g k=.int (j:Nat):=by unfold Di;cases h:Ed N g k with|some j=>exact⟨j,rfl⟩|none=>have:=List.findIdx?_eq_none_iff.mp h i (zAr.mpr hi);rw[zAj e] at this;cases this
def qI9(C CP:γ):VSp:=Ay λds d=>∃zr n wr ps g dn k,ds=[Oq zr C CP n wr ps g dn,.int k]/\An k/\d=Di n.toNat g k
theorem qf7(T:Txt K mg a):VFn P w K mg base 4 a.f30 a.d30 ["self", "key"] (qI9 a.C6 a.C4):=by
 refine VFn.mk2 T.d30.F qu0 (wOf [true,true]) qb2 (by walk_at "l") (λ_ _ _ _ _ _ _ r=>⟨_,(Ab (sif (Bj (te (Aj T.d3 (qc4 T) qa1 (rm r) (vaN 1 Ad)))) (Ag qk3) Av) (Ag (Ap (eif (q2 (Am qz8 (by with_unfolding_all rfl)) Fy (vnm 1) (A8 rfl (vnm 0) T.C8.cl T.Ce)) (qa4 (vbm qaF9 Nz N2 N3 qL4 (A8 rfl (vnm 0) T.C8.cl T.Ce) (vnm 1) qao0)) (qa4 Ba))))),λu Q s h=>?_⟩);obtain⟨d,⟨f,n,wr,o,g,p,k,rfl,t,rfl⟩,q⟩:=h;refine As [Oq f a.C6 a.C4 n wr o g p,.int k] rfl ?_;refine Ey (λQ s q=>Ix (x:=.int k) (d:=.bl true) rfl (Ja t) rfl q) (qf4 ?_);have m:f2 (gInB false) (rdN 1) (f1 (D.fld a.C6 "held") (rdN 0)) [Oq f a.C6 a.C4 n wr o g p,.int k]=some (.bl (Ed n.toNat g k).isSome):=by refine Af (x:=.int k) (y:=.l f (Os n.toNat g)) rfl (Au rfl qu1) ?_;show ((flats (Os n.toNat g)).bind λb=>some (D.bl (if false=true then !inV (.int k) b else inV (.int k) b)))=_;rw[qM6];show some (D.bl (inV (.int k) _))=_;rw[qaS5];rfl
 refine Ga m (λh=>?_) λh=>?_;{obtain⟨i,c⟩:=zB1.mp h;refine qo4 (d:=.int (i:Nat)) (Af (Au rfl qu1) rfl ?_) ?_;{show ((some (V.int k)).bind λv=>(flats (Os n.toNat g)).bind λb=>(Bw v b).map λj=>D.int (j:Nat))=_;rw[qM6];show (Bw (.int k) _).map _=_;rw[qaa0];show (Ed n.toNat g k).map _=_;rw[c];rfl};unfold Di at q;rw[c] at q;exact q};refine qo4 (d:=.non) rfl ?_;have c:Ed n.toNat g k=none:=by cases e:Ed n.toNat g k with|none=>rfl|some i=>rw[e] at h;cases h
 unfold Di at q;rw[c] at q;exact q
theorem qai4:qa8 ["self", "key"] ["self", "key"] (qa2 qJ7):=by walk_at "s"
theorem qM7:D.fidx C "done" (Oq false C CP n wr ps g dn)=some 2:=by show (if C=C then List.findIdx? (λq:Str×D=>("done" : Str)==q.1) [("plan",Ac true CP n wr ps),("held",rL n g),("done",.l false dn)] else none)=_;rw[if_pos rfl];rfl
def qah3(C CP:γ):VSp:=λds Q _=>∃n wr ps g dn S k,ds=[Oq false C CP n wr ps g dn,.int k]/\1<=n/\n<=64/\An k/\(∀x∈S,An x)/\Kept n.toNat wr (On n ps) g S/\¬k∈S/\(∀q,¬Crowd n.toNat wr (On n ps) (S++[k]) q)/\dn.length<=1000/\∀came g',Kept n.toNat wr (On n ps) g' (S++[k])->Q (.l false came) [Oq false C CP n wr ps g' (dn++[.q [.str "put",.int k]]),.int k]
theorem qP0(T:Txt K mg a):VFn P w K mg base 8 a.f31 a.d31 ["self", "key"] (qah3 a.C6 a.C4):=by
 refine VFn.mk2 T.d31.F qai4 (wOf [true,true]) (by walk_at "m") (by walk_at "l") (λ_ _ _ _ _ _ _ r=>⟨_,(Ab (sif (q2v (Aw qm2 (qa9 _)) (Am qm2 (qa9 _)) qs2 (qj0 0 T.d30 T.C8.cl (qf7 T) qa1 (rm r) (vaN 1 Ad)) Ba) (Ag qk3) Av) (Ab (Bb (Aj T.d20 (qq7 T) qa1 (rm r) (vaV (qb4 (A8 rfl (vnm 0) T.C8.cl T.Cd)) (vaV (e2v (Ah qn2) qn1 (qe9 0 T.d28 T.C8.cl (qf8 T) qa1 (rm r)) (Bq (qa3 (vnm 1) qa6 rfl))) Ad)))) (Ab (Bb (emutP qz3 Nz N0 N1 qd6 (Bl rfl (vpn 0) T.C8.cl T.Ci) (vaV (qa4 (E6 (qa3 Fq (qa3 (vnm 1) qa6 rfl) rfl))) Ad))) (Ag (Ap (Aj T.d21 (qx6 T) qa1 (rm r) (vaV (qb4 (A8 rfl (vnm 0) T.C8.cl T.Cd)) (vaB (Bl rfl (vpn 0) T.C8.cl T.Ce) (vaN 1 Ad))))))))),λL Q M h=>?_⟩);obtain⟨n,wr,b,g,f,S,k,rfl,s,t,u,A,KP,j,C,H,q⟩:=h;have E:=KP.perm;have N:((Lr n.toNat).filterMap g).length<=64:=by have:=List.length_filterMap_le g (Lr n.toNat);rw[zB9] at this;lia
 refine As [rA a n wr b g f,.int k] rfl ?_;refine qh0 false (λQ q=>qx3 ?_) nofun λ_=>?_
 {refine qL6 (p:=rA a n wr b g f) (x:=.int k) (d:=.non) rfl (qc6 rfl) rfl rfl ⟨false,n,wr,b,g,f,k,rfl,u,(qK2 λi I e=>j ((KP.h.2 k).mpr ⟨i,I,e⟩)).symm⟩ rfl ?_;exact qa0 (a:=D.bl false) rfl (qa0 (a:=false) rfl q)};refine qb0 [rA a n wr b g f,.int k] (λK v=>qg3 (qe0 ?_)) ?_;{refine qd3 (y:=Ac true a.C4 n wr b) (Au rfl qe2) rfl (qg5 (qt5 ?_));refine qo5 (p:=rA a n wr b g f) (d:=kL ((Lr n.toNat).filterMap g)) rfl (qc6 rfl) ⟨false,n,wr,b,g,f,rfl,t,rfl⟩ rfl ?_;refine qa0 (a:=D.l false (Op ((Lr n.toNat).filterMap g++[k]))) (qbe5 (z:=false) (z':=false) (B:=[k]) (by show _+1<=1000;lia)) (qb3 ?_);refine⟨_,⟨true,n,wr,b,false,_,rfl,s,t,λx J=>?_,by rw[zAd];show _+1<=1000;lia,qu4.of s λq c=>C q (c.perm (E.append_right [k])),rfl⟩,v⟩;rcases zAb.mp J with h|h;{exact A x (E.subset h)};rw[zAf.mp h];exact u};refine qb0 [rA a n wr b g (f++[.q [.str "put",.int k]]),.int k] (λK v=>qg3 ?_) ?_;{refine qal9 (i:=0) (p:=[2]) (ys:=f) (d0:=rA a n wr b g f) (by show (D.fidx a.C6 "done" (rA a n wr b g f)).map (λn=>(0,[n]))=_;rw[qM7];rfl) rfl rfl ?_;exact qc0 (y:=.q [.str "put",.int k]) rfl (qb3 (qa0 (a:=(f++[D.q [.str "put",.int k]],D.non)) (if_pos (show f.length<big by unfold big;lia)) v))};generalize f++[.q [.str "put",.int k]]=o at q ⊢;refine qf4 (qe0 (qd3 (y:=Ac true a.C4 n wr b) (Au rfl qe2) rfl ?_));refine qa0 (a:=(0,[1])) (by show (D.fidx a.C6 "held" (rA a n wr b g o)).map (λn=>(0,[n]))=_;rw[qv2];rfl) (qa0 (a:=D.l false (Os n.toNat g)) rfl ⟨rfl,λw=>?_⟩);refine qb9 (x:=.int k) rfl (qb3 (qa0 (a:=D.int k) rfl ?_));refine⟨true,n,wr,b,g,S,k,rfl,s,t,u,A,KP,j,?_,λcame G K'=>?_⟩;{by_cases h:∃e,Gz n.toNat wr (On n b) g k e;{exact h};obtain⟨q,c⟩:=KP.crowd λe z=>h ⟨e,z⟩;exact absurd c (C q)};refine qa0 (a:=[rA a n wr b G o,.int k]) ?_ (q came G K');show Al (.pl 0 [1] w::_) _ _=_;rw[qc9 rfl];rfl
theorem qJ6:qa8 ["plan", "room"] ["plan", "room"] (qa2 qn7):=by walk_at "s"
def qt7(C:γ):VSp:=Ay λds d=>∃z n wr ps r,ds=[Ac z C n wr ps,.int r]/\d=(if r<n-1 then .int (r+1) else if wr=true then .int 0 else .non)
theorem qu3(T:Txt K mg a):VFn P w K mg base 1 a.f23 a.d23 ["plan", "room"] (qt7 a.C4):=by refine VFn.mk2 T.d23.F qJ6 (wOf [true,true]) qb2 (by walk_at "l") (λ_ _ _ _ _ _ _ e=>⟨_,(Ab (sif (q2 (Am Ef (qa9 _)) Et (vnm 1) (v2 (Ah qK7) qK6 (A8 rfl (vnm 0) T.C9.cl T.Ca) Ae)) (Ag (Ap (qa4 (v2 (Ah qn2) qn1 (vnm 1) Ae)))) Av) (Ag (Ap (eif (tv (A8 rfl (vnm 0) T.C9.cl T.Cg)) (qa4 Ae) (qa4 Ba))))),λf Q g h=>?_⟩);obtain⟨d,⟨z,n,wr,c,r,rfl,rfl⟩,q⟩:=h;refine As [Ac z a.C4 n wr c,.int r] rfl ?_;refine qm4 (decide (r<n-1)) (Af rfl (Af (Au rfl qc2) rfl rfl) rfl) (λh=>?_) λh=>?_;{rw[if_pos (zA8 h)] at q;exact qf5 (.int (r+1)) rfl q};rw[if_neg (zB0 h)] at q;refine qf4 (Ga (b:=wr) (Au rfl qp0) (λh=>?_) (λh=>?_));{rw[if_pos h] at q;exact qo4 (d:=.int 0) rfl q};rw[if_neg (by rw[h];decide)] at q;exact q
theorem qA9:qa8 ["plan", "rooms", "room"] ["plan", "rooms", "room"] (qa2 qj8):=by walk_at "s"
def qA3(C:γ):VSp:=Ay λds d=>∃z n wr ps z' g x,ds=[Ac z C n wr ps,.l z' (Os n.toNat g),x]/\1<=n/\(x=.non/\d=.bl false∨∃r:Nat,r<n.toNat/\x=.int (r:Nat)/\(g r=none/\d=.bl false∨∃k,g r=some k/\An k/\(wr=false->On n ps k<=r)/\d=.bl (decide (0<Aa n.toNat (On n ps k) r))))
theorem qC8(T:Txt K mg a):VFn P w K mg base 6 a.f24 a.d24 ["plan", "rooms", "room"] (qA3 a.C4):=by refine VFn.mk2 T.d24.F qA9 (wOf [true,true,true]) qb2 (by walk_at "l") (λ_ _ _ _ _ _ _ c=>⟨_,(Ag (Ap (Fb (qa4 (v2 (Aw qm2 (qa9 _)) qs2 (vnm 2) Ba)) (Fb (qa4 (v2 (Aw qm2 (qa9 _)) qs2 (v2 (Ax qb5) Aq (vnm 1) (vnm 2)) Ba)) (G3 (e2v (Aw Bk (qa9 _)) Bn (qj0 0 T.d11 T.C9.cl (qk7 T) qa1 (rm c) (vaV (qb4 (v2 (Ax qb5) Aq (vnm 1) (vnm 2))) (vaN 2 Ad))) Ae)))))),λi Q j h=>?_⟩);obtain⟨d,⟨z,n,wr,b,e,g,x,rfl,f,h⟩,q⟩:=h;refine As [Ac z a.C4 n wr b,.l e (Os n.toNat g),x] rfl ?_;rcases h with⟨rfl,rfl⟩|⟨r,c,rfl,h⟩;{exact qf4 (Fj false rfl nofun λ_=>q)};rcases h with⟨hg,rfl⟩|⟨k,hg,hk,hl,rfl⟩;{exact qf4 (Fj true rfl (λ_=>Fj false (Af (Af rfl rfl (Dt c)) rfl (by rw[hg];rfl)) nofun λ_=>q) nofun)};refine qf4 (Fj true rfl (λ_=>Fj true (Af (Af rfl rfl (Dt c)) rfl (by rw[hg];rfl)) (λ_=>qt5 ?_) nofun) nofun);refine qp9 (p:=Ac z a.C4 n wr b) rfl (qg7 rfl) (qd3 (y:=.int k) (Af rfl rfl (by rw[Dt c,hg];rfl)) rfl (qb9 (x:=.int (r:Nat)) rfl (qb3 (qa0 (a:=D.int (r:Nat)) rfl (qa0 (a:=Ac z a.C4 n wr b) rfl ⟨_,⟨z,n,wr,b,k,(r:Nat),rfl,f,hk,⋯,⋯,rfl⟩,?_⟩)))));rw[qQ4 f c hl];refine qa0 (a:=[Ac z a.C4 n wr b,.l e (Os n.toNat g),.int (r:Nat)]) rfl ?_;refine qa0 (a:=D.bl (decide (0<((Aa n.toNat (On n b k) r:Nat):Int)))) rfl ?_;rw[zBu.mpr (show (0<((Aa n.toNat (On n b k) r:Nat):Int))↔0<Aa n.toNat (On n b k) r by lia)];exact q
theorem qi4:qa8 ["plan", "rooms", "room", "came", "behind"] ["plan", "rooms", "room"] (qa2 qw8):=by walk_at "s"
noncomputable def qy6(N:Nat)(wr:Bool)(p:Nat):D:=if p+1<N then .int (p+1:Nat) else if wr=true then .int 0 else .non
theorem qax4{p:Nat}(a:1<=n)(b:p<n.toNat):(if ((p:Nat):Int)<n-1 then D.int (((p:Nat):Int)+1) else if wr=true then D.int 0 else D.non)=qy6 n.toNat wr p:=by unfold qy6;by_cases h:p+1<n.toNat;{rw[if_pos ⋯,if_pos h];rfl};rw[if_neg ⋯,if_neg h]
theorem qag0{wr:Bool}{p:Nat}(a:p<N):qy6 N wr p=.int (Row.next N p:Nat)∨(qy6 N wr p=.non/\wr=false/\p+1=N):=by unfold qy6;have h:=nor N p;by_cases e:p+1<N;{rw[if_pos e];exact .inl (by rw[show Row.next N p=p+1 by lia])};rw[if_neg e];cases wr with|true=>exact .inl (by rw[if_pos rfl,show Row.next N p=0 by lia];rfl)|false=>exact .inr ⟨rfl,rfl,⋯⟩
def qS8(C:γ):VSp:=λds Q _=>∃z n wr ps g S k r,ds=[Ac z C n wr ps,rL n g,.int (r:Nat)]/\1<=n/\n<=64/\(∀x∈S,An x)/\Kept n.toNat wr (On n ps) g S/\r<n.toNat/\g r=some k/\∀came g',Kept n.toNat wr (On n ps) g' (S.filter λx=>decide (x≠k))->Q (.l false came) [Ac z C n wr ps,rL n g',.int (r:Nat)]
abbrev qr5 (z) (a:Adr) (n:Int) (wr:Bool) (ps:Pr) (r) (J) (came) (x) (nx) (p1:D):=([Ac z a.C4 n wr ps,p1,.int (rot n.toNat r J:Nat),.l false (came++[D.q [.int x,.int (rot n.toNat r J:Nat)]]),.int (nx:Nat)]:Ds)
theorem qC9(T:Txt K mg a):VFn P w K mg base 7 a.f25 a.d25 ["plan", "rooms", "room"] (qS8 a.C4):=by
 refine VFn.mk2 T.d25.F qi4 (wOf [true,true,false]) (by walk_at "m") (by walk_at "l") (λ_ _ _ _ _ _ _ b=>⟨_,(Ab (Ak 3 qi4.nd (qa4 (Bq qa6))) (Ab (Fe (qa4 Ba) (Dq (vpn 1) (vnm 2))) (Ab (Ak 4 qi4.nd (Aj T.d23 (qu3 T) qa1 (rm b) (vaN 0 (vaN 2 Ad)))) (Ab (qay1 Nw (te (Aj T.d24 (qC8 T) qa1 (rm b) (vaN 0 (vaN 1 (vaN 4 Ad))))) (Ab (Bb (Dp 3 qz3 Nz N0 N1 qd6 (vaV (qa4 (E6 (qa3 (v2 (Ax qb5) Aq (vnm 1) (vnm 4)) (qa3 (vnm 2) qa6 rfl) rfl))) Ad))) (Ab (Fe (qb4 (v2 (Ax qb5) Aq (vnm 1) (vnm 4))) (Dq (vpn 1) (vnm 2))) (Ab (Fe (qa4 Ba) (Dq (vpn 1) (vnm 4))) (Ab (Ak 2 qi4.nd (qb4 (vnm 4))) (Ag (Ak 4 qi4.nd (Aj T.d23 (qu3 T) qa1 (rm b) (vaN 0 (vaN 2 Ad)))))))))) (Ag (Ap (emv 3))))))),λG Q Y h=>?_⟩);obtain⟨z,n,wr,f,g,S,k,r,rfl,I,n2,hS,KP,b,Z,q⟩:=h;refine As [Ac z a.C4 n wr f,rL n g,.int (r:Nat),.u,.u] rfl ?_;refine qb0 [Ac z a.C4 n wr f,rL n g,.int (r:Nat),.l false [],.u] (λK t=>t) ?_;have e0:Os n.toNat (λj=>if j=r then none else g j)=Os n.toNat (At n.toNat g r 0):=qi0 λi hi=>(qA5 b hi).symm;refine qb0 [Ac z a.C4 n wr f,rL n (At n.toNat g r 0),.int (rot n.toNat r 0:Nat),.l false [],.u] (λK t=>?_) ?_;{refine qG6 (d:=.non) (ys:=Os n.toNat g) rfl rfl rfl (I9 b) ?_;rw[show (Os n.toNat g).set r .non=Os n.toNat (λj=>if j=r then none else g j) from qai2 (o:=none),e0];rw[qaj2 b] at t;exact t};have bh:∀(J:Nat)(K:Ds->Prop)(Y:XKd)(H L:D),J<n.toNat->K [Ac z a.C4 n wr f,rL n (At n.toNat g r J),.int (rot n.toNat r J:Nat),H,qy6 n.toNat wr (rot n.toNat r J)]->qn3 (qt7 a.C4) [] (tbN 0 (tbN 2 A7)) [Ac z a.C4 n wr f,rL n (At n.toNat g r J),.int (rot n.toNat r J:Nat),H,L] (λd a0=>K (a0.set 4 d)) Y:=λJ K Y H L hJ t=>
  qL7 (x:=Ac z a.C4 n wr f) (y:=.int (rot n.toNat r J:Nat)) rfl rfl rfl ⟨z,n,wr,f,_,rfl,(qax4 I (qU7 b hJ)).symm⟩ rfl t
 refine qb0 [Ac z a.C4 n wr f,rL n (At n.toNat g r 0),.int (rot n.toNat r 0:Nat),.l false [],qy6 n.toNat wr (rot n.toNat r 0)] (λK t=>qe1 (bh 0 _ _ _ _ ⋯ t)) ?_;refine qc3 (λG=>∃J came L,G=[Ac z a.C4 n wr f,rL n (At n.toNat g r J),.int (rot n.toNat r J:Nat),.l false came,L]/\Sh n.toNat (On n f) g r J/\Stop n.toNat wr (On n f) g r J) (λK t=>?_) ?_
 .refine qag4 (λm G=>∃J came,G=[Ac z a.C4 n wr f,rL n (At n.toNat g r J),.int (rot n.toNat r J:Nat),.l false came,qy6 n.toNat wr (rot n.toNat r J)]/\Sh n.toNat (On n f) g r J/\came.length=J/\m+J=n.toNat) n.toNat ⟨0,[],rfl,Sh.start b,rfl,⋯⟩ ?_;rintro m G ⟨J,came,rfl,v,hc,hm⟩ K2 a1;have hJ:=v.hJ;have hp:=qU7 b hJ;rcases qag0 (wr:=wr) hp with V|⟨V,hw,hl⟩
  .have s:=Row.qm9 hp;have M:∀x,At n.toNat g r J (Row.next n.toNat (rot n.toNat r J))=some x->0<Aa n.toNat (On n f x) (Row.next n.toNat (rot n.toNat r J))->J+1<n.toNat/\g (rot n.toNat r (J+1))=some x:=λx s A=>by by_cases p:J+1<n.toNat;{rw[qD3 b p,qA6 b p] at s;exact⟨p,s⟩};rw[qy2 b ⋯] at s A;by_cases N:0<J;{rw[qG8 b N] at s;have:=v.round KP.o KP.c b Z ⋯ s N;lia};have hz:J=0:=⋯;subst hz;rw[qA5 b b,if_pos rfl] at s;cases s
   have C:∀x,At n.toNat g r J (Row.next n.toNat (rot n.toNat r J))=some x->An x/\(wr=false->On n f x<=Row.next n.toNat (rot n.toNat r J)):=λx s=>by by_cases p:J+1<n.toNat;{have e:=qD3 b p;rw[e,qA6 b p] at s;exact⟨hS x ((KP.h.2 x).mpr ⟨_,qU7 b p,s⟩),λhw=>by rw[e];exact KP.ln hw _ x (qU7 b p) s⟩};have e:=qy2 b (show J+1=n.toNat by lia);rw[e] at s ⊢;by_cases N:0<J;{rw[qG8 b N] at s;have A:=v.round KP.o KP.c b Z ⋯ s N;exact⟨hS x ((KP.h.2 x).mpr ⟨_,Row.qm9 b,s⟩),λ_=>by rw[(qb6 (Eh I x) b).mp A];exact zA2 _⟩};have hz:J=0:=⋯;subst hz;rw[qA5 b b,if_pos rfl] at s;cases s
   generalize E:Row.next n.toNat (rot n.toNat r J)=u at s M C V;rw[V];cases B:At n.toNat g r J u with
   |none=>refine Iy (x:=Ac z a.C4 n wr f) (y:=rL n (At n.toNat g r J)) (w:=.int (u:Nat)) (d:=.bl false) rfl rfl rfl rfl rfl ⟨z,n,wr,f,false,_,_,rfl,I,.inr ⟨u,s,rfl,.inl ⟨B,rfl⟩⟩⟩ rfl ?_;exact t _ ⟨J,came,_,rfl,v,.inr λx h=>by rw[E,B] at h;cases h⟩|some x=>
    refine Iy (x:=Ac z a.C4 n wr f) (y:=rL n (At n.toNat g r J)) (w:=.int (u:Nat)) rfl rfl rfl rfl rfl ⟨z,n,wr,f,false,_,_,rfl,I,.inr ⟨u,s,rfl,.inr ⟨x,B,(C x B).1,(C x B).2,rfl⟩⟩⟩ rfl ?_;refine qa0 (a:=decide (0<Aa n.toNat (On n f x) u)) rfl (ite_b (λh=>?_) λh=>?_)
    .have A:=zA8 h;obtain⟨p,O⟩:=M x B A;have R:u=rot n.toNat r (J+1):=by rw[<-E,qD3 b p]
     have U:∀H,f2 gIx (rdN 1) (rdN 4) [Ac z a.C4 n wr f,rL n (At n.toNat g r J),.int (rot n.toNat r J:Nat),H,.int (u:Nat)]=some (.int x):=λH=>Af rfl rfl (by rw[Dt s,B];rfl);refine qb0 (qr5 z a n wr f r J came x u (rL n (At n.toNat g r J))) (λK t=>qg3 ?_) ?_;{exact qac7 (ys:=came) (d:=.q [.int x,.int (rot n.toNat r J:Nat)]) rfl (qaL6 (U _) rfl rfl rfl) (by unfold big;lia) t};refine qb0 (qr5 z a n wr f r J came x u (rL n (Row.set (At n.toNat g r J) (rot n.toNat r J) x))) (λK t=>?_) ?_;{refine qN5 (d:=.int x) (ys:=Os n.toNat (At n.toNat g r J)) (U _) rfl rfl rfl (I9 hp) ?_;rw[qJ4];exact t};refine qb0 (qr5 z a n wr f r J came x u (rL n (At n.toNat g r (J+1)))) (λK t=>?_) ?_
     .refine qG6 (d:=.non) (ys:=Os n.toNat (Row.set (At n.toNat g r J) (rot n.toNat r J) x)) rfl rfl rfl (I9 s) ?_;rw[show (Os n.toNat (Row.set (At n.toNat g r J) (rot n.toNat r J) x)).set u .non=Os n.toNat (λj=>if j=u then none else Row.set (At n.toNat g r J) (rot n.toNat r J) x j) from qai2 (o:=none)];have e:Os n.toNat (λj=>if j=u then none else Row.set (At n.toNat g r J) (rot n.toNat r J) x j)=Os n.toNat (At n.toNat g r (J+1)):=qi0 λi hi=>by rw[qai0 b p hi,R];by_cases W:i=rot n.toNat r (J+1);{rw[if_pos W,if_pos W]};rw[if_neg W,if_neg W];by_cases X:i=rot n.toNat r J;{rw[if_pos X,X,Row.qb7,O]};rw[if_neg X,Row.qd4 X]
      rw[e];exact t
     refine qb0 [Ac z a.C4 n wr f,rL n (At n.toNat g r (J+1)),.int (u:Nat),.l false (came++[D.q [.int x,.int (rot n.toNat r J:Nat)]]),.int (u:Nat)] (λK t=>qA7 (d:=.int (u:Nat)) rfl rfl t) ?_;rw[R] at A ⊢;refine qe1 (bh (J+1) _ _ _ _ p (a1 (m-1) _ ⋯ ⟨J+1,_,rfl,v.step p O A,by rw[zAd,hc];rfl,⋯⟩))
    have A:=zB0 h;exact t _ ⟨J,came,_,rfl,v,.inr λy h=>by rw[E] at h ⊢;rw[B] at h;cases h;lia⟩
  rw[V];refine Iy (x:=Ac z a.C4 n wr f) (y:=rL n (At n.toNat g r J)) (w:=.non) (d:=.bl false) rfl rfl rfl rfl rfl ⟨z,n,wr,f,false,_,_,rfl,I,.inl ⟨rfl,rfl⟩⟩ rfl ?_;exact t _ ⟨J,came,_,rfl,v,.inl ⟨hw,hl⟩⟩
 rintro G ⟨J,came,L,rfl,v,st⟩;exact qf4 (mv_to rfl (q came _ (KP.taken b Z v st)))
theorem qH1:qa8 ["self", "key", "room"] ["self", "key"] (qa2 qB7):=by walk_at "s"
def qad5(C CP:γ):VSp:=λds Q _=>∃n wr ps g dn S k,ds=[Oq false C CP n wr ps g dn,.int k]/\1<=n/\n<=64/\(∀x∈S,An x)/\Kept n.toNat wr (On n ps) g S/\k∈S/\dn.length<=1000/\∀(r:Nat) came g',Kept n.toNat wr (On n ps) g' (S.filter λx=>decide (x≠k))->Q (.q [.int (r:Nat),.l false came]) [Oq false C CP n wr ps g' (dn++[.q [.str "take",.int k]]),.int k]
theorem qay5{g:Nat->Option Int}(h:Di N g k=.int (j:Nat)):j<N/\g j=some k:=by unfold Di at h;cases e:Ed N g k with|none=>rw[e] at h;cases h|some i=>rw[e] at h;have h:=h;injection h with h;have h:i=j:=⋯;subst h;obtain⟨a,b,_⟩:=List.findIdx?_eq_some_iff_getElem.mp e;rw[zB9] at a;rw[List.getElem_range] at b;exact⟨a,zA8 b⟩
theorem qx7(T:Txt K mg a):VFn P w K mg base 8 a.f32 a.d32 ["self", "key"] (qad5 a.C6 a.C4):=by
 refine VFn.mk2 T.d32.F qH1 (wOf [true,true]) (by walk_at "m") (by walk_at "l") (λ_ _ _ _ _ _ _ u=>⟨_,(Ab (Ak 2 qH1.nd (qj0 0 T.d30 T.C8.cl (qf7 T) qa1 (rm u) (vaN 1 Ad))) (Ab (sif (q2 (Am Ev (qa9 _)) Eu (vnm 2) Ba) (Ag qk3) Av) (Ab (Bb (emutP qz3 Nz N0 N1 qd6 (Bl rfl (vpn 0) T.C8.cl T.Ci) (vaV (qa4 (E6 (qa3 Fq (qa3 (vnm 1) qa6 rfl) rfl))) Ad))) (Ag (Ap (Jw (vaV (qb4 (vnm 2)) (vaV (Aj T.d25 (qC9 T) qa1 (rm u) (vaV (qb4 (A8 rfl (vnm 0) T.C8.cl T.Cd)) (vaB (Bl rfl (vpn 0) T.C8.cl T.Ce) (vaN 2 Ad)))) Ad)))))))),λI Q J h=>?_⟩);obtain⟨n,wr,c,g,f,S,k,rfl,C,E,v,KP,z,G,q⟩:=h;obtain⟨i,H,e⟩:=(KP.h.2 k).mp z;obtain⟨j,A⟩:=qz6 H e;obtain⟨r,s⟩:=qay5 A;refine As [rA a n wr c g f,.int k,.u] rfl ?_;refine qb0 [rA a n wr c g f,.int k,.int (j:Nat)] (λK t=>?_) ?_;{exact qe1 (qL6 (p:=rA a n wr c g f) (x:=.int k) (d:=.int (j:Nat)) rfl (qc6 rfl) rfl rfl ⟨false,n,wr,c,g,f,k,rfl,v k z,A.symm⟩ rfl t)};refine qh0 false (λQ q=>qi3 (b:=false) rfl q) nofun λ_=>?_
 refine qb0 [rA a n wr c g (f++[.q [.str "take",.int k]]),.int k,.int (j:Nat)] (λK t=>qg3 ?_) ?_;{refine qal9 (i:=0) (p:=[2]) (ys:=f) (d0:=rA a n wr c g f) (by show (D.fidx a.C6 "done" (rA a n wr c g f)).map (λn=>(0,[n]))=_;rw[qM7];rfl) rfl rfl ?_;exact qc0 (y:=.q [.str "take",.int k]) rfl (qb3 (qa0 (a:=(f++[D.q [.str "take",.int k]],D.non)) (if_pos (show f.length<big by unfold big;lia)) t))};generalize f++[.q [.str "take",.int k]]=o at q ⊢;refine qf4 (qar5 (qd3 (y:=.int (j:Nat)) rfl rfl (qg5 (qe0 (qd3 (y:=Ac true a.C4 n wr c) (Au rfl qe2) rfl ?_)))));refine qa0 (a:=(0,[1])) (by show (D.fidx a.C6 "held" (rA a n wr c g o)).map (λn=>(0,[n]))=_;rw[qv2];rfl) (qa0 (a:=D.l false (Os n.toNat g)) rfl ⟨rfl,λw=>?_⟩);refine qb9 (x:=.int (j:Nat)) rfl (qb3 (qa0 (a:=D.int (j:Nat)) rfl ?_));refine⟨true,n,wr,c,g,S,k,j,rfl,C,E,v,KP,r,s,λcame B K'=>?_⟩;refine qa0 (a:=[rA a n wr c B o,.int k,.int (j:Nat)]) ?_ (qb3 ⟨lt2,q j came B K'⟩);show Al (.pl 0 [1] w::_) _ _=_;rw[qc9 rfl];rfl
theorem qU0:qa8 ["self"] ["self"] (qa2 qx0):=by walk_at "s"
def qT0(C CP:γ):VSp:=Ay λds d=>∃zr n wr ps g dn,ds=[Oq zr C CP n wr ps g dn]/\D.imms dn=true/\d=.l false dn
theorem qD0(T:Txt K mg a):VFn P w K mg base 1 a.f34 a.d34 ["self"] (qT0 a.C6 a.C4):=by refine VFn.mk2 T.d34.F qU0 (wOf [true]) qb2 (by walk_at "l") (λ_ _ _ _ _ _ _ i=>⟨_,(Ag (Ap (qa4 (Fc qj1 qQ5.ops T.Ct (qa3 (A8 rfl (vnm 0) T.C8.cl T.Ci) qa6 rfl))))),λj Q k h=>?_⟩);obtain⟨d,⟨c,n,wr,e,g,b,rfl,f,rfl⟩,q⟩:=h;refine As [Oq c a.C6 a.C4 n wr e g b] rfl ?_;refine qf5 (.l false b) ?_ q;unfold A6 A5;rw[Au rfl qY2];exact qi1 f
theorem qae0:qa8 ["self"] ["self"] (qa2 qB8):=by walk_at "s"
def qG7(C CP:γ):VSp:=Ay λds d=>∃zr n wr ps g dn S,ds=[Oq zr C CP n wr ps g dn]/\n<=64/\Kept n.toNat wr (On n ps) g S/\d=.int (S.length:Nat)
theorem qk5(T:Txt K mg a):VFn P w K mg base 2 a.f29 a.d29 ["self"] (qG7 a.C6 a.C4):=by refine VFn.mk2 T.d29.F qae0 (wOf [true]) qb2 (by walk_at "l") (λ_ _ _ _ _ _ _ f=>⟨_,(Ag (Ap (ebi qq2 qq1.ops T.Co (Ep (vaV (qe9 0 T.d28 T.C8.cl (qf8 T) qa1 (rm f)) Ad))))),λj Q k h=>?_⟩);obtain⟨d,⟨b,n,wr,c,g,e,S,rfl,i,KP,rfl⟩,q⟩:=h;refine As [Oq b a.C6 a.C4 n wr c g e] rfl ?_;refine qf4 (co_to (qg5 (qo5 (p:=Oq b a.C6 a.C4 n wr c g e) (d:=kL ((Lr n.toNat).filterMap g)) rfl (qc6 rfl) ⟨b,n,wr,c,g,e,rfl,i,rfl⟩ rfl (qb3 (qa0 (a:=D.int (S.length:Nat)) ?_ q)))));show some (D.int ((Op ((Lr n.toNat).filterMap g)).length:Nat))=_;rw[qm3,KP.perm.length_eq]
theorem qp6:qa8 ["self", "rooms"] ["self", "rooms"] (qa2 qe5):=by walk_at "s"
theorem qaj6{m:Int}(h:S.length<=m.toNat)(q:Nat):¬Crowd m.toNat true hm S q:=λ⟨_,c⟩=>by
 rw[if_pos rfl] at c;lia
theorem qZ1{CG C CP:γ}{n:Int}{ps:Pr}{g:Nat->Option Int}{dn:Ds}{h:Int}{r:Ds}(c:n<=64)(KP:Kept n.toNat true (On n ps) g S)(b:sl=(S.length:Nat))(q:Q (.int sl) (growD false CG C CP n ps g dn h::r)):qS1 C "many" (qG7 C CP) [] (pfFld CG "row" λ_=>some (0,[])) A7 (growD false CG C CP n ps g dn h::r) Q xe:=by refine qD5 (i:=0) (p:=[0]) (d:=Oq false C CP n true ps g dn) (qx4 (r:=[])) rfl (qc6 rfl) λw=>qb3 ⟨.int sl,⟨false,n,true,ps,g,dn,S,rfl,c,KP,by rw[b]⟩,qa0 (a:=growD false CG C CP n ps g dn h::r) ?_ q⟩;show Al (.pl 0 [0] w::[]) (Oq false C CP n true ps g dn::[]) _=_;rw[qc9 rfl];rfl
def qp5(CG C CP:γ):VSp:=λds Q _=>∃n ps g dn h S m,ds=[growD false CG C CP n ps g dn h,.int m]/\n<=64/\1<=m/\m<=64/\qt3 ps/\(∀k∈S,An k)/\Kept n.toNat true (On n ps) g S/\S.length<=m.toNat/\∀g',Kept m.toNat true (On m ps) g' S->Q (.int (S.length:Nat)) [growD false CG C CP m ps g' [] (h+(S.length:Nat)),.int m]
theorem qh7(T:Txt K mg a):VFn P w K mg base 14 a.f38 a.d38 ["self", "rooms"] (qp5 a.C5 a.C6 a.C4):=by refine VFn.mk2 T.d38.F qp6 (wOf [true,true]) (by walk_at "m") (by walk_at "l") (λ_ _ _ _ _ _ _ e=>⟨_,(Ab (Fg rfl (vpn 0) (Aj T.d36 (qC7 T) qa1 (rm e) (vaB (Bl rfl (vpn 0) T.C7.cl T.Cb) (vaN 1 Ad))) T.C7.cl T.Cb) (Ab (Fg rfl (vpn 0) (e2 (Ah qn2) qn1 (qb4 (A8 rfl (vnm 0) T.C7.cl T.Cf)) (Jv T.d29 T.C8.cl (qk5 T) qa1 (rm e) (Bl rfl (vpn 0) T.C7.cl T.Cb))) T.C7.cl T.Cf) (Ag (Ap (Jv T.d29 T.C8.cl (qk5 T) qa1 (rm e) (Bl rfl (vpn 0) T.C7.cl T.Cb)))))),λf Q t h=>?_⟩);obtain⟨n,b,g,d,h,S,m,rfl,k,o,i,G,p,KP,s,q⟩:=h;refine As [growD false a.C5 a.C6 a.C4 n b g d h,.int m] rfl ?_;refine qc3 (λf=>∃c,f=[growD false a.C5 a.C6 a.C4 m b c [] h,.int m]/\Kept m.toNat true (On m b) c S) (λK j=>qW5 (qe0 ?_)) ?_;{refine qa0 (a:=(0,[0])) (qx4 (r:=[])) (qa0 (a:=rA a n true b g d) rfl ⟨rfl,λw=>?_⟩);refine qb9 (x:=.int m) rfl (qb3 (qa0 (a:=D.int m) rfl ?_));refine⟨false,n,true,b,g,d,S,m,rfl,k,o,i,G,p,KP,qaj6 s,λc K'=>qa0 (a:=[growD false a.C5 a.C6 a.C4 n b g d h,.int m]) ?_ ?_⟩;{show Al (.pl 0 [0] w::[.sl 1]) (rA a n true b g d::[.int m]) _=_;rw[qc9 rfl];rfl};exact qa0 (a:=(0,[])) rfl (qa0 qf6 ⟨by show 2<100;decide,j _ ⟨c,rfl,K'⟩⟩)};rintro f ⟨c,rfl,K'⟩;refine qb0 [growD false a.C5 a.C6 a.C4 m b c [] (h+(S.length:Nat)),.int m] (λK j=>qW5 (t2_of (x:=.int h) (Au rfl qaa1) rfl (qZ1 i K' rfl ?_))) ?_;{exact qa0 (a:=D.int (h+(S.length:Nat))) rfl (qa0 (a:=(0,[])) rfl (qa0 qf6 ⟨by show 2<100;decide,j⟩))};exact qf4 (qZ1 i K' rfl (q c K'))
theorem qh9:qa8 ["self", "key", "rooms", "moved"] ["self", "key"] (qa2 qo0):=by walk_at "s"
def Be(n:Int):Prop:=n=4∨n=8∨n=16∨n=32∨n=64
noncomputable def Dk(n:Int)(l:Nat):Int:=if 4*((l:Int)+1)>3*n/\n<64 then 2*n else n
noncomputable def E8(n:Int)(l:Nat):Int:=if 8*(l:Int)<n/\n>4 then n/2 else n
noncomputable def mvN(n a:Int)(l:Nat):Int:=if a=n then 0 else (l:Int)
theorem qao3{n:Int}(h:Be n):Be (Dk n l):=by unfold Be at *;unfold Dk;split<;>lia
theorem qaM5{n:Int}(h:Be n):Be (E8 n l):=by unfold Be at *;unfold E8;split<;>lia
def qJ1(CG C CP:γ):VSp:=λds Q _=>∃n ps g dn h S k,ds=[growD false CG C CP n ps g dn h,.int k]/\Be n/\qt3 ps/\An k/\(∀k∈S,An k)/\Kept n.toNat true (On n ps) g S/\¬k∈S/\S.length+1<=64/\dn.length<=900/\∀a v g' b,a=Dk n S.length->v=mvN n a S.length->Kept a.toNat true (On a ps) g' (S++[k])->b.length<=dn.length+1->Q (.int v) [growD false CG C CP a ps g' b (h+v),.int k]
theorem qL1(T:Txt K mg a):VFn P w K mg base 15 a.f39 a.d39 ["self", "key"] (qJ1 a.C5 a.C6 a.C4):=by
 refine VFn.mk2 T.d39.F qh9 (wOf [true,true]) (by walk_at "m") (by walk_at "l") (λ_ _ _ _ _ _ _ B=>⟨_,(Ab (sif (q2v (Aw qm2 (qa9 _)) (Am qm2 (qa9 _)) qs2 (Ju T.d30 T.C8.cl (qf7 T) qa1 (rm B) (Bl rfl (vpn 0) T.C7.cl T.Cb) (vaN 1 Ad)) Ba) (Ag qk3) Av) (Ab (Ak 2 qh9.nd (qe9 0 T.d41 T.C7.cl (qc5 T) qa1 (rm B))) (Ab (Ak 3 qh9.nd (qa4 Ae)) (Ab (sif (Gn (q2v (Aw Bk (qa9 _)) (Am Bk (qa9 _)) Bn (e2v (Ah qj3) qk0 (e2v (Ah qn2) qn1 (Jv T.d29 T.C8.cl (qk5 T) qa1 (rm B) (Bl rfl (vpn 0) T.C7.cl T.Cb)) Ae) Ae) (v2 (Ah qj3) qk0 (vnm 2) Ae)) (Ew (q2 (Am Ef (qa9 _)) Et (vnm 2) (vgi T.Cs)))).te (Ag (Ak 3 qh9.nd (qj0 0 T.d38 T.C7.cl (qh7 T) qa1 (rm B) (vaV (qa4 (v2 (Ah qj3) qk0 (vnm 2) Ae)) Ad)))) Av) (Ab (Bb (Ju T.d31 T.C8.cl (qP0 T) qa1 (rm B) (Bl rfl (vpn 0) T.C7.cl T.Cb) (vaN 1 Ad))) (Ag (Ap (emv 3)))))))),λA Q xe h=>?_⟩);obtain⟨n,b,g,j,h,S,k,rfl,E,G,N,O,KP,C,hl,W,q⟩:=h;have R:4<=n/\n<=64:=by unfold Be at E;lia
 have U:=KP.len;obtain⟨u,H⟩:∃u:Int,u=(S.length:Nat):=⟨_,rfl⟩;obtain⟨c,s⟩:∃c,c=Dk n S.length:=⟨_,rfl⟩;obtain⟨v,I⟩:∃v,v=mvN n c S.length:=⟨_,rfl⟩;replace q:=q c v;refine As [growD false a.C5 a.C6 a.C4 n b g j h,.int k,.u,.u] rfl ?_;refine qh0 false (λQ q=>qx3 (qD5 (i:=0) (p:=[0]) (d:=rA a n true b g j) (qx4 (r:=[])) rfl (qc6 rfl) λw=>qb9 (x:=.int k) rfl (qb3 (qa0 (a:=D.int k) rfl ⟨_,⟨false,n,true,b,g,j,k,rfl,N,rfl⟩,qa0 (a:=[growD false a.C5 a.C6 a.C4 n b g j h,.int k,.u,.u]) ?_ ?_⟩)))) nofun λ_=>?_
 {show Al (.pl 0 [0] w::[.sl 1]) (rA a n true b g j::[.int k]) _=_;rw[qc9 rfl];rfl};{rw[qK2 λi X e=>C ((KP.h.2 k).mpr ⟨i,X,e⟩)];exact qa0 (a:=D.bl false) rfl (qa0 (a:=false) rfl q)};refine qb0 [growD false a.C5 a.C6 a.C4 n b g j h,.int k,.int n,.u] (λK t=>qe1 (qo5 (p:=growD false a.C5 a.C6 a.C4 n b g j h) (d:=.int n) rfl (qg8 rfl) ⟨false,n,b,g,j,h,rfl,rfl⟩ rfl t)) ?_;refine qb0 [growD false a.C5 a.C6 a.C4 n b g j h,.int k,.int n,.int 0] (λK t=>t) ?_;have J:Be c:=s ▸ qao3 E;refine qc3 (λA=>∃z f,A=[growD false a.C5 a.C6 a.C4 c b z f (h+v),.int k,.int n,.int v]/\Kept c.toNat true (On c b) z S/\S.length+1<=c.toNat/\f.length<=j.length) (λK t=>?_) ?_
 .refine Kf (decide (n*3<(u+1)*4)&&decide (n<64)) (λQ q=>ql0 (decide (n*3<(u+1)*4)) (decide (n<64)) (λQ q=>qx3 (qt5 (qt5 (qZ1 R.2 KP H ?_)))) (λ_ Q q=>qi3 rfl q) q) (λo=>?_) λo=>?_;{refine qa0 (a:=D.int (u+1)) rfl (qa0 (a:=D.int ((u+1)*4)) (Gu ∅) (qa0 (a:=D.bl (decide (n*3<(u+1)*4))) ?_ (qa0 (a:=decide (n*3<(u+1)*4)) rfl q)));rw[Af (x:=.int n) (y:=.int 3) (d:=.int (n*3)) rfl rfl (Gu ∅)];rfl}
  .have o:=zAg.mp o;have Y:=zA8 o.2;have Z:Be (n*2):=by unfold Be at E ⊢;lia
   refine qe1 (qp9 (p:=growD false a.C5 a.C6 a.C4 n b g j h) rfl (qg8 rfl) (qc0 (y:=.int (n*2)) (Af (x:=.int n) (y:=.int 2) rfl rfl (Gu ∅)) (qb3 (qa0 (a:=growD false a.C5 a.C6 a.C4 n b g j h) rfl ?_))));have b1:=zA8 o.1;have e:c=n*2:=by rw[s];unfold Dk;rw[if_pos ⟨⋯,Y⟩];lia
   have e2:v=(S.length:Nat):=by rw[I];unfold mvN;rw[if_neg ⋯]
   refine⟨n,b,g,j,h,S,n*2,rfl,R.2,⋯,by unfold Be at Z;lia,G,O,KP,⋯,λz K'=>?_⟩;rw[<-e2];subst e;exact qa0 (a:=[growD false a.C5 a.C6 a.C4 (n*2) b z [] (h+v),.int k,.int n,.int 0]) rfl (t _ ⟨z,[],rfl,K',⋯,zBf _⟩)
  rw[Bool.and_eq_false_iff] at o;have o:¬(4*((S.length:Int)+1)>3*n/\n<64):=by rcases o with o|o<;>have:=zB0 o<;>lia
  have e:c=n:=by rw[s];unfold Dk;rw[if_neg o]
  have e2:v=0:=by rw[I];unfold mvN;rw[if_pos e]
  rw[e,e2,Int.add_zero] at t;exact t _ ⟨g,j,rfl,KP,⋯,zA2 _⟩
 rintro A ⟨z,f,rfl,K',L,a0⟩;generalize h+v=V at q ⊢;have M:4<=c/\c<=64:=by unfold Be at J;lia
 refine qc3 (λA=>∃g2 x,A=[growD false a.C5 a.C6 a.C4 c b g2 (f++[x]) V,.int k,.int n,.int v]/\Kept c.toNat true (On c b) g2 (S++[k])) (λK t=>qg3 ?_) ?_;{refine qD5 (i:=0) (p:=[0]) (d:=rA a c true b z f) (qx4 (r:=[])) rfl (qc6 rfl) λw=>qb9 (x:=.int k) rfl (qb3 (qa0 (a:=D.int k) rfl ?_));refine⟨c,true,b,z,f,S,k,rfl,⋯,M.2,N,O,K',C,qaj6 (by rw[zAd];exact L),⋯,λcame g2 K2=>qa0 (a:=[growD false a.C5 a.C6 a.C4 c b g2 (f++[.q [.str "put",.int k]]) V,.int k,.int n,.int v]) ?_ (t _ ⟨g2,_,rfl,K2⟩)⟩;show Al (.pl 0 [0] w::[.sl 1]) (rA a c true b g2 (f++[.q [.str "put",.int k]])::[.int k]) _=_;rw[qc9 rfl];rfl};rintro A ⟨g2,x,rfl,K2⟩;exact q g2 _ s I K2 (by rw[zAd];show _+1<=_;lia)
theorem qq5:qa8 ["self", "key", "rooms"] ["self", "key"] (qa2 ql6):=by walk_at "s"
def qF1(CG C CP:γ):VSp:=λds Q _=>∃n ps g dn h S k,ds=[growD false CG C CP n ps g dn h,.int k]/\Be n/\qt3 ps/\(∀k∈S,An k)/\Kept n.toNat true (On n ps) g S/\k∈S/\dn.length<=900/\∀a v g' b,a=E8 n (S.filter λx=>decide (x≠k)).length->v=mvN n a (S.filter λx=>decide (x≠k)).length->Kept a.toNat true (On a ps) g' (S.filter λx=>decide (x≠k))->b.length<=dn.length+1->Q (.int v) [growD false CG C CP a ps g' b (h+v),.int k]
theorem qG0(T:Txt K mg a):VFn P w K mg base 15 a.f40 a.d40 ["self", "key"] (qF1 a.C5 a.C6 a.C4):=by
 refine VFn.mk2 T.d40.F qq5 (wOf [true,true]) (by walk_at "m") (by walk_at "l") (λ_ _ _ _ _ _ _ u=>⟨_,(Ab (Bb (Ju T.d32 T.C8.cl (qx7 T) qa1 (rm u) (Bl rfl (vpn 0) T.C7.cl T.Cb) (vaN 1 Ad))) (Ab (Ak 2 qq5.nd (qe9 0 T.d41 T.C7.cl (qc5 T) qa1 (rm u))) (Ab (sif (Gn (q2v (Aw Ef (qa9 _)) (Am Ef (qa9 _)) Et (e2v (Ah qj3) qk0 (Jv T.d29 T.C8.cl (qk5 T) qa1 (rm u) (Bl rfl (vpn 0) T.C7.cl T.Cb)) Ae) (vnm 2)) (Ew (q2 (Am Bk (qa9 _)) Bn (vnm 2) (vgi T.Cu)))).te (Ag (Ap (qj0 0 T.d38 T.C7.cl (qh7 T) qa1 (rm u) (vaV (qa4 (v2 (Ah qx5) Ii (vnm 2) Ae)) Ad)))) Av) (Ag (Ap (qa4 Ae)))))),λv Q N h=>?_⟩);obtain⟨n,c,g,f,h,S,k,rfl,C,G,E,KP,z,J,q⟩:=h;have A:4<=n/\n<=64:=by unfold Be at C;lia
 refine As [growD false a.C5 a.C6 a.C4 n c g f h,.int k,.u] rfl ?_;refine qc3 (λv=>∃g2 x,v=[growD false a.C5 a.C6 a.C4 n c g2 (f++[x]) h,.int k,.u]/\Kept n.toNat true (On n c) g2 (S.filter λx=>decide (x≠k))) (λK B=>qg3 ?_) ?_;{refine qD5 (i:=0) (p:=[0]) (d:=rA a n true c g f) (qx4 (r:=[])) rfl (qc6 rfl) λw=>qb9 (x:=.int k) rfl (qb3 (qa0 (a:=D.int k) rfl ?_));refine⟨n,true,c,g,f,S,k,rfl,⋯,A.2,E,KP,z,⋯,λr came g2 K2=>qa0 (a:=[growD false a.C5 a.C6 a.C4 n c g2 (f++[.q [.str "take",.int k]]) h,.int k,.u]) ?_ (B _ ⟨g2,_,rfl,K2⟩)⟩;show Al (.pl 0 [0] w::[.sl 1]) (rA a n true c g2 (f++[.q [.str "take",.int k]])::[.int k]) _=_;rw[qc9 rfl];rfl};rintro v ⟨g2,x,rfl,K2⟩;have s:∀y∈S.filter λx=>decide (x≠k),An y:=λy L=>E y (zAw.mp L).1;have t:(f++[x]).length<=f.length+1:=by rw[zAd];exact zA2 _
 generalize S.filter (λx=>decide (x≠k))=T at K2 q s;generalize f++[x]=b at t;have H:=K2.len;obtain⟨j,o⟩:∃j:Int,j=(T.length:Nat):=⟨_,rfl⟩;refine qb0 [growD false a.C5 a.C6 a.C4 n c g2 b h,.int k,.int n] (λK B=>qe1 (qo5 (p:=growD false a.C5 a.C6 a.C4 n c g2 b h) (d:=.int n) rfl (qg8 rfl) ⟨false,n,c,g2,b,h,rfl,rfl⟩ rfl B)) ?_;refine qh0 (decide (j*8<n)&&decide (4<n)) (λQ q=>ql0 (decide (j*8<n)) (decide (4<n)) (λQ q=>qx3 (qt5 (qZ1 A.2 K2 o ?_))) (λ_ Q q=>qi3 rfl q) q) (λe=>?_) λe=>qf5 (.int 0) rfl ?_;{exact qa0 (a:=D.int (j*8)) (Gu ∅) (qa0 (a:=D.bl (decide (j*8<n))) rfl (qa0 (a:=decide (j*8<n)) rfl q))};rotate_left
 .rw[Bool.and_eq_false_iff] at e;have e:¬(8*(T.length:Int)<n/\n>4):=by rcases e with e|e<;>have:=zB0 e<;>lia
  have:=q n 0 g2 b (by unfold E8;rw[if_neg e]) (by unfold mvN;rw[if_pos rfl]) K2 t;rw[Int.add_zero] at this;exact this
 have e:=zAg.mp e;have O:=zA8 e.1;have M:=zA8 e.2;have R:Be (n/2):=by unfold Be at C ⊢;lia
 refine qf4 (qp9 (p:=growD false a.C5 a.C6 a.C4 n c g2 b h) rfl (qg8 rfl) (qc0 (y:=.int (n/2)) (Af (x:=.int n) (y:=.int 2) rfl rfl (I8 ∅ ∅)) (qb3 (qa0 (a:=growD false a.C5 a.C6 a.C4 n c g2 b h) rfl ?_))));refine⟨n,c,g2,b,h,T,n/2,rfl,A.2,⋯,⋯,G,s,K2,⋯,λI K'=>?_⟩;rw[<-o];exact qa0 (a:=[growD false a.C5 a.C6 a.C4 (n/2) c I [] (h+j),.int k,.int n]) rfl (q (n/2) j I [] (by unfold E8;rw[if_pos ⟨⋯,M⟩]) (by unfold mvN;rw[if_neg ⋯];exact o) K' (zBf _))
theorem qF7:qa8 ["self"] ["self"] (qa2 ql8):=by walk_at "s"
def qF3(CG C CP:γ):VSp:=Ay λds d=>∃zg n ps g dn h,ds=[growD zg CG C CP n ps g dn h]/\d=.int h
theorem qr1(T:Txt K mg a):VFn P w K mg base 1 a.f43 a.d43 ["self"] (qF3 a.C5 a.C6 a.C4):=by refine VFn.mk2 T.d43.F qF7 (wOf [true]) qb2 (by walk_at "l") (λ_ _ _ _ _ _ _ b=>⟨_,(Ag (Ap (qb4 (A8 rfl (vnm 0) T.C7.cl T.Cf)))),λc Q e h=>?_⟩);obtain⟨d,⟨f,n,i,g,j,h,rfl,rfl⟩,q⟩:=h;exact qf4 (qq0 (d:=.int h) (Au rfl qaa1) rfl q)
theorem qas8:qa8 ["_law_found"] ["_law_found"] (qa2 qU3):=by walk_at "s"
def qas1:VSp:=Ay λds d=>∃x t,ds=[x]/\x.kind=some t/\d=.bl (Fl t "int" && !(Fl t "bool"))
theorem qK9(T:Txt K mg a):VFn P w K mg base 1 a.f44 a.d44 ["_law_found"] qas1:=by
 refine VFn.mk2 T.d44.F qas8 (wOf [true]) qb2 (by walk_at "l") (λ_ _ _ _ _ _ _ f=>⟨_,(Ag (Ap (qa4 (Jt (vbi qj2 qM9.ops T.Cc (qa3 (vnm 0) (qa3 (vty "int" T.Cz) qa6 rfl) rfl)) (G4 (vnot (vbi qj2 qM9.ops T.Cc (qa3 (vnm 0) (qa3 (vty "bool" T.D1) qa6 rfl) rfl)))))))),λg Q i h=>?_⟩);obtain⟨d,⟨x,t,rfl,b,rfl⟩,q⟩:=h;refine As [x] rfl ?_;have c:∀n:String,Ik n=true->A6 (fx2 gIsi) (A5 (rdN 0) (A5 (kC (D.ty n)) λ_=>some [])) [x]=some (.bl (Fl t n)):=λn e=>by unfold A6 A5;rw[rd0 (qD8 b)];show (if Ik n=true then x.kind.map λt=>D.bl (Fl t n) else none)=_;rw[if_pos e,b];rfl
 exact qf5 _ (qap2 (c "int" rfl) (Au (c "bool" rfl) rfl)) q
theorem qH0:qa8 ["self", "deed"] ["self"] (qa2 qB6):=by walk_at "s"
def qS4:Sp:=λvs H Q _=>∃x t,vs=[x]/\Bi H x=some t/\Q (.bl (Jm x)) H
theorem qV1(T:Txt K mg a):Du P w K mg base CX0 1 a.f1 a.d1 ["thing"] qS4:=by
 refine T.d1.F.ok qG9 (λd H Q E h=>?_) (λf A outer s H d Q E i h=>?_);{obtain⟨x,t,rfl,_⟩:=h;rfl};obtain⟨x,t,rfl,b,q⟩:=h;refine⟨_,(qy1 (qU8 (qat6 (cbi qj2 T.Cc (qc1 (pv 0) (qc1 (qaF5 "int" T.Cz) qm1))) (qat3 (qaP2 (cbi qj2 T.Cc (qc1 (pv 0) (qc1 (qaF5 "bool" T.D1) qm1)))))))),?_⟩;refine⟨_,rfl,x,_,t,rfl,b,∅,_,rfl,?_⟩;have g:=qaI3 b;have e2:=qau6 b;rw[g];refine ite2 (λc=>⟨_,rfl,x,_,t,rfl,b,∅,_,rfl,?_⟩) (λc=>?_);{rw[e2];cases x<;>first|exact q|(simp[Jm] at c)};have:Jm x=false:=by cases e:Jm x with|false=>rfl|true=>rw[e] at c;exact absurd rfl c
 rw[this] at q;exact q
def qt6:Sp:=λvs H Q _=>∃x t l m,vs=[x,.int l,.int m]/\Bi H x=some t/\Q (.bl (qax7 l m x)) H
theorem qu2(T:Txt K mg a):Du P w K mg base CX0 2 a.f2 a.d2 ["thing", "least", "most"] qt6:=by refine T.d2.F.ok qk4 (λc H Q E h=>?_) (λd A outer s H c Q E e h=>?_);{obtain⟨x,t,l,m,rfl,_⟩:=h;rfl};obtain⟨x,t,l,m,rfl,f,q⟩:=h;refine⟨_,(qy1 (qU8 (qat6 (Hh T.d1 (qV1 T) (rm e) (qc1 (pv 0) qm1)) (qat3 (qak4 Hd Hd (pv 1) (pv 0) (pv 2)))))),?_⟩;refine⟨_,rfl,x,t,rfl,f,_,rfl,?_⟩;cases x with|int i=>refine iteT ⟨_,rfl,_,rfl,_,_,rfl,rfl,_,rfl,?_⟩;by_cases b:l<=i;{rw[zAj b];refine iteT ⟨_,rfl,_,_,rfl,rfl,?_⟩;have q:Q (.bl (decide (l<=i)&&decide (i<=m))) H:=q;rw[zAj b,Bool.true_and] at q;exact q};rw[zB6 b];refine iteF ?_;have q:Q (.bl (decide (l<=i)&&decide (i<=m))) H:=q;rw[zB6 b,Bool.false_and] at q;exact q|_=>exact iteF q
def qN6:Sp:=λvs H Q _=>∃x t,vs=[x]/\Bi H x=some t/\Q (.bl (numV x)) H
theorem qO7(T:Txt K mg a):Du P w K mg base CX0 3 a.f3 a.d3 ["thing"] qN6:=by refine T.d3.F.ok qA8 (λb H Q E h=>?_) (λc A outer s H b Q E d h=>?_);{obtain⟨x,t,rfl,_⟩:=h;rfl};obtain⟨x,t,rfl,e,q⟩:=h;refine⟨_,(qy1 (qU8 (Hh T.d2 (qu2 T) (rm d) (qc1 (pv 0) (qc1 qO4 (qc1 (qaz6 T.Cv) qm1)))))),?_⟩;exact⟨_,rfl,x,t,_,_,rfl,e,q⟩
def Hy(C:γ)(x y:D):Option D:=match y with
 |.int k=>if (D.int k).num=true then (D.fld C "held" x).bind λl=>match l with|.l _ ys=>((flats ys).map λa=>match Bw (.int k) a with|some j=>.int (j:Nat)|none=>.non)|_=>none else none
 |_=>none
theorem qaA9{v:V}:∀a:List V,inV v a=(Bw v a).isSome|[]=>rfl|y::r=>by have b:=qaA9 (v:=v) r;unfold inV at b ⊢;rw[zCa,b];show _=(if eqV y v=true then some 0 else (Bw v r).map (· + 1)).isSome;cases eqV y v<;>simp
theorem qat0{zr:Bool}{C CP:γ}{n:Int}{wr:Bool}{ps:Pr}{g:Nat->Option Int}{dn:Ds}(a:An k):Hy C (Oq zr C CP n wr ps g dn) (.int k)=some (Di n.toNat g k):=by show (if (D.int k).num=true then (D.fld C "held" (Oq zr C CP n wr ps g dn)).bind _ else none)=_;rw[if_pos (show (D.int k).num=true from qaQ7.mpr a),qu1];show (flats (Os n.toNat g)).map _=_;rw[qM6];show some (match Bw (.int k) ((Lr n.toNat).map λi=>Gx (g i)) with|some j=>D.int (j:Nat)|none=>.non)=_;rw[qaa0];rfl
theorem qF8(T:Txt K mg a):Du P w K mg base CX0 4 a.f30 a.d30 ["self", "key"] (spPu (Hy a.C6)):=by
 refine T.d30.F.ok qu0 (λc H Q E h=>?_) (λR A outer s H c Q E S h=>?_)
 . obtain⟨F,u,x,d,e,o,A,B,w,rfl,_⟩:=h
   rfl
 obtain⟨F,u,x,d,e,o,A,B,w,rfl,U,V,b,t,q⟩:=h;cases o with
 |int k=>
   cases V;have b:(if (D.int k).num=true then (D.fld a.C6 "held" e).bind λl=>match l with
     |.l _ g=>(flats g).map λf=>match Bw (.int k) f with
       |some j=>D.int (j:Nat)
       |none=>.non
     |_=>none else none)=some d:=b
   by_cases i:(D.int k).num=true
   . rw[if_pos i] at b
     cases m:D.fld a.C6 "held" e with
     |none=>rw[m] at b;cases b
     |some l=>
     rw[m] at b;obtain⟨p,C,y,G,v,rfl,I,J,L,M,B1,W⟩:=Js (K:=K) T.C8.cl T.Ce F H u e A l (λv H'=>∃B,Ow F H' v l B) U m (λv H' B' r _ _=>⟨B',r⟩);cases l with
     |l z g=>
       have b:((flats g).map λf=>match Bw (.int k) f with
         |some j=>D.int (j:Nat)
         |none=>.non)=some d:=b
       obtain⟨f,X,b⟩:=zA7.mp b;obtain⟨N,c,A3,rfl,n,Y,_⟩:=W.lst_inv;obtain⟨rfl,O⟩:=Y.flats X;refine⟨_,(qC4 (ps_if (qaO0 (qaE5 (Hh T.d3 (qO7 T) (rm S) (qc1 (pv 1) qm1))))
   (qy1 qaE8)
   qaz2)
   (qy1 (qU8 (qak3 (qaz1 qz8 (pv 1) (qV0 (pv 0) rfl) (by with_unfolding_all rfl)) (Hg Nz N2 N3 qL4 (qV0 (pv 0) rfl) (qc1 (pv 1) qm1)) qaP3)))),?_⟩
       refine⟨_,rfl,.int k, "int",rfl,rfl,_,rfl,?_⟩;rw[show numV (.int k)=true from i];refine iteF ⟨_,rfl,_,rfl,p,C,y,G,_,rfl,I,J,L,M,N,c,rfl,.inl (SqL.of n),rfl,O,_,rfl,?_⟩;show if inV (.int k) c=true then _ else _
       rw[qaA9];cases e2:Bw (.int k) c with
       |some j=>
         rw[e2] at b;have b:D.int (j:Nat)=d:=b;subst b;cases t;obtain⟨Z,i1,i2,i3⟩:=qao1 e2;exact iteT ⟨_,rfl,p,C,y,G,_,rfl,I,J,L,M,.inl ⟨rfl,_,SqL.of n⟩,_,rfl,N,c,.int k,j,Z,rfl,rfl,n,rfl,O,i1,i2,i3,q⟩
       |none=>
         rw[e2] at b;have b:D.non=d:=b;subst b;cases t;exact iteF q
     |_=>cases b
   rw[if_neg i] at b;cases b
 |_=>cases b
def qad4(C CP:γ):VSp:=λds Q _=>∃n wr ps g dn S,ds=[Oq false C CP n wr ps g dn]/\1<=n/\n<=64/\(∀x∈S,An x)/\Kept n.toNat wr (On n ps) g S/\(dn=[]/\Q (.bl false) ds∨∃a k,An k/\(dn=a++[.q [.str "put",.int k]]/\k∈S/\(∀g',Kept n.toNat wr (On n ps) g' (S.filter λx=>decide (x≠k))->Q (.bl true) [Oq false C CP n wr ps g' a])∨dn=a++[.q [.str "take",.int k]]/\¬k∈S/\(∀q,¬Crowd n.toNat wr (On n ps) (S++[k]) q)/\∀g',Kept n.toNat wr (On n ps) g' (S++[k])->Q (.bl true) [Oq false C CP n wr ps g' a]))
theorem qH4(T:Txt K mg a):VFn P w K mg base 8 a.f33 a.d33 ["self"] (qad4 a.C6 a.C4):=by
 refine VFn.mk2 T.d33.F qH0 (wOf [true]) (by walk_at "m") (by walk_at "l") (λ_ _ _ _ _ _ _ B=>⟨_,(Ab (sif (q2 (Am (qs4 B.u64) (qa9 _)) Bp (vbi qq2 qq1.ops T.Co (qa3 (A8 rfl (vnm 0) T.C8.cl T.Ci) qa6 rfl)) Ae) (Ag (Ap (qa4 vbl))) Av) (Ab (Ak 1 qH0.nd (qbc7 qaZ6 Nz Oc F.type_list_pop qaZ7 (Bl rfl (vpn 0) T.C8.cl T.Ci))) (Ab (sif (q2 (Am (qs4 B.u64) (qa9 _)) Bp (v2 (Ax qb5) Aq (vnm 1) Ae) Fq) (Ag (Bb (Aj T.d25 (qC9 T) qa1 (rm B) (vaV (qb4 (A8 rfl (vnm 0) T.C8.cl T.Cd)) (vaBV (Bl rfl (vpn 0) T.C8.cl T.Ce) (qaW3 0 T.d30 T.C8.cl (qF8 T) (rm B) (v2 (Ax qb5) Aq (vnm 1) Ae))))))) (Ag (Bb (Aj T.d21 (qx6 T) qa1 (rm B) (vaV (qb4 (A8 rfl (vnm 0) T.C8.cl T.Cd)) (vaB (Bl rfl (vpn 0) T.C8.cl T.Ce) (vaV (qb4 (v2 (Ax qb5) Aq (vnm 1) Ae)) Ad))))))) (Ag (Ap (qa4 vbl)))))),λv Q E h=>?_⟩);obtain⟨n,wr,o,g,A,S,rfl,J,L,M,KP,h⟩:=h;have s:∀(A:Ds) N,f2 gEq (A6 (fx1 E5) (A5 (f1 (D.fld a.C6 "done") (rdN 0)) λ_=>some [])) (kC (.int 0)) [rA a n wr o g A,N]=some (.bl (((A.length:Nat):Int)==0)):=λA N=>by refine Af (x:=.int (A.length:Nat)) (y:=.int 0) ?_ rfl rfl;unfold A6 A5;rw[Au rfl qY2];rfl
 refine As [rA a n wr o g A,.u] rfl ?_;have u:∀(f:Ds)(d:D)(K:Ds->Prop)(E:XKd),D.imm d=true->K [rA a n wr o g f,d]->Ex gPop (λv=>(D.fidx a.C6 "done" (rA a n wr o g (f++[d]))).map λn=>(0,[n])) A7 [rA a n wr o g (f++[d]),.u] (λd G=>K (G.set 1 d)) E:=λf d K E _ t=>by refine qal9 (i:=0) (p:=[2]) (ys:=f++[d]) (d0:=rA a n wr o g (f++[d])) (by show (D.fidx a.C6 "done" (rA a n wr o g (f++[d]))).map (λn=>(0,[n]))=_;rw[qM7];rfl) rfl rfl (qb3 (qa0 (a:=(f,d)) ?_ t));show ((f++[d])[(f++[d]).length-1]?).map (λR=>((f++[d]).dropLast,R))=_;rw[zAd,show f.length+[d].length-1=f.length from rfl,List.getElem?_append_right (zA2 _),Nat.sub_self,Mg];rfl
 rcases h with⟨rfl,q⟩|⟨f,k,hk,h⟩;{exact qm4 true (s [] _) (λ_=>qf5 (.bl false) rfl q) nofun};have C:∀d:D,((((f++[d]).length:Nat):Int)==0)=false:=λd=>by rw[zAd];exact zBz.mpr (by show ((f.length+1:Nat):Int)≠0;lia)
 rcases h with⟨rfl,hin,q⟩|⟨rfl,nin,nc,q⟩
 .refine qm4 false ((s _ _).trans (by rw[C])) nofun λ_=>?_
  refine qb0 [rA a n wr o g f,.q [.str "put",.int k]] (λK t=>qe1 (u f _ K _ rfl t)) ?_;obtain⟨i,U,e⟩:=(KP.h.2 k).mp hin;obtain⟨j,O⟩:=qz6 U e;obtain⟨H,I⟩:=qay5 O;refine qc3 (λv=>∃r,v=[rA a n wr o r f,.q [.str "put",.int k]]/\Kept n.toNat wr (On n o) r (S.filter λx=>decide (x≠k))) (λK t=>if_v (b:=true) rfl (λ_=>qg3 (qe0 ?_)) nofun) ?_;{refine qd3 (y:=Ac true a.C4 n wr o) (Au rfl qe2) rfl ?_;refine qa0 (a:=(0,[1])) (by show (D.fidx a.C6 "held" (rA a n wr o g f)).map (λn=>(0,[n]))=_;rw[qv2];rfl) ?_;refine qa0 (a:=D.l false (Os n.toNat g)) rfl ?_;refine⟨rfl,qa0 (a:=D.int (j:Nat)) ?_ ⟨rfl,λw=>?_⟩⟩;{show (if (rA a n wr o g f).isM a.C6 "room_of"=true then (some (D.int k)).bind λy=>(Hy a.C6 (rA a n wr o g f) y).bind λd=>d.flat.map λ_=>d else none)=_;rw[if_pos (qc6 rfl)];show (Hy a.C6 (rA a n wr o g f) (.int k)).bind _=_;rw[qat0 hk,O];rfl};refine⟨true,n,wr,o,g,S,k,j,rfl,J,L,M,KP,H,I,λcame r K'=>?_⟩;refine qa0 (a:=[rA a n wr o r f,D.q [.str "put",.int k]]) ?_ (t _ ⟨r,rfl,K'⟩);show Al (.pl 0 [1] w::_) _ _=_;rw[qc9 rfl];rfl};rintro v ⟨r,rfl,K'⟩;exact qf5 (.bl true) rfl (q r K')
 refine qm4 false ((s _ _).trans (by rw[C])) nofun λ_=>?_
 refine qb0 [rA a n wr o g f,.q [.str "take",.int k]] (λK t=>qe1 (u f _ K _ rfl t)) ?_;refine qc3 (λv=>∃r,v=[rA a n wr o r f,.q [.str "take",.int k]]/\Kept n.toNat wr (On n o) r (S++[k])) (λK t=>if_v (b:=false) rfl nofun λ_=>qg3 (qe0 ?_)) ?_;{refine qd3 (y:=Ac true a.C4 n wr o) (Au rfl qe2) rfl ?_;refine qa0 (a:=(0,[1])) (by show (D.fidx a.C6 "held" (rA a n wr o g f)).map (λn=>(0,[n]))=_;rw[qv2];rfl) ?_;refine qa0 (a:=D.l false (Os n.toNat g)) rfl ?_;refine⟨rfl,λw=>qd3 (y:=D.int k) rfl rfl (qb3 ?_)⟩;refine⟨true,n,wr,o,g,S,k,rfl,J,L,hk,M,KP,nin,?_,λcame r K'=>?_⟩;{by_cases h:∃e,Gz n.toNat wr (On n o) g k e;{exact h};obtain⟨q,c⟩:=KP.crowd λe z=>h ⟨e,z⟩;exact absurd c (nc q)};refine qa0 (a:=[rA a n wr o r f,D.q [.str "take",.int k]]) ?_ (t _ ⟨r,rfl,K'⟩);show Al (.pl 0 [1] w::_) _ _=_;rw[qc9 rfl];rfl};rintro v ⟨r,rfl,K'⟩;exact qf5 (.bl true) rfl (q r K')
theorem qn5:qa8 ["_law_row", "_law_plan", "_law_due", "_law_some", "_law_out", "_law_key"] ["_law_row", "_law_plan", "_law_due"] (qa2 qK0):=by walk_at "s"
theorem qaT5{z:Bool}{g:Nat->Option Int}(h:∀i,i<N->g i=g' i):gNe (.l z (Os N g)) (.l z' (Os N g'))=some (.bl false):=by rw[qi0 h];show (Dl (eqN 20) (Os N g') (Os N g')).map (λx=>D.bl !x)=_;rw[Kj _ λ_=>Ki];rfl
theorem ne_kk{z:Bool}:gNe (.l z (Op ks)) (.l z' (Op ks))=some (.bl false):=by show (Dl (eqN 20) (Op ks) (Op ks)).map (λx=>D.bl !x)=_;rw[eq_ks,zAj rfl];rfl
theorem qaI7{z:Bool}{g:Nat->Option Int}(hi:i<N)(e:g i=some k):Jy (.l z (Os N g)) (.int k)=some (Di N g k):=by show ((some (V.int k)).bind λv=>(flats (Os N g)).bind λb=>(Bw v b).map λj=>D.int (j:Nat))=_;rw[qM6];show (Bw (.int k) _).map _=_;rw[qaa0];show (Ed N g k).map _=_;obtain⟨j,a⟩:=qz6 hi e;unfold Di at a ⊢;cases h:Ed N g k with|some j=>rfl|none=>rw[h] at a;cases a
theorem sl_ks{z:Bool}{L:List Int}{m:Nat}:gSl (.l z (Op L)) none (some ((m:Nat):Int))=some (kL (L.take m)):=by show gd (D.imms (B9 (Op L) none (some ((m:Nat):Int)))=true) (.l false (B9 (Op L) none (some ((m:Nat):Int))))=_;rw[qM8,show (Op L).take m=Op (L.take m) from List.map_take.symm];exact qi1 (qi9 _)
theorem out70(l:ks.length<=64):∃(o:Nat)(r:List Int),o<70/\¬(o:Int)∈ks/\(Bm 0 70).filterMap (Ec λx=>!decide (x∈ks))=.int (o:Nat)::Op r:=by
 have e:Bm 0 70=Op ((Lr 70).map λi:Nat=>((i:Nat):Int)):=by unfold Bm Op;rw[zC2];exact Mw λi _=>congrArg D.int (Int.zero_add _)
 rw[e,qD9];cases h:((Lr 70).map λi:Nat=>((i:Nat):Int)).filter λx=>!decide (x∈ks) with
 |nil=>
  have sub:((Lr 70).map λi:Nat=>((i:Nat):Int)) ⊆ ks:=λx b=>by by_cases a:x∈ks;{exact a};have:x∈((Lr 70).map λi:Nat=>((i:Nat):Int)).filter λx=>!decide (x∈ks):=zAw.mpr ⟨b,by rw[zB6 a];rfl⟩;rw[h] at this;cases this
  have d:((Lr 70).map λi:Nat=>((i:Nat):Int)).Nodup:=zBx.mpr (List.Pairwise.imp (λh e=>h ⋯) Ma);have:=qC5 (g:=λi=>ks[i]?) (Lr ks.length) _ d λk a=>by obtain⟨i,e⟩:=List.mem_iff_getElem?.mp (sub a);exact⟨i,zAr.mpr (zA5.mp e).1,e⟩
  rw[zAa,zB9,zB9] at this;lia
 |cons x r=>
  have b:x∈((Lr 70).map λi:Nat=>((i:Nat):Int)).filter λx=>!decide (x∈ks):=by rw[h];exact zA9
  obtain⟨f,c⟩:=zAw.mp b;obtain⟨o,j,rfl⟩:=zAx.mp f;exact⟨o,r,zAr.mp j,(λz=>by rw[zAj z] at c;exact nomatch c),rfl⟩
theorem qaK1(r:Nat):B9 ys (some ((r:Nat):Int)) none=ys.drop r:=by unfold B9;rw[HT.qai9,HT.qU6];by_cases h:r<=ys.length;{rw[zCj h];exact zAo (by rw[zCd];lia)};rw[Nat.min_eq_right ⋯,L9 (zA2 _),L9 ⋯,List.take_nil]
theorem sl_tl{z:Bool}{L:List Int}:gSl (.l z (Op (k::L))) (some 1) none=some (kL L):=by show gd (D.imms (B9 (Op (k::L)) (some 1) none)=true) (.l false (B9 (Op (k::L)) (some 1) none))=_;rw[show B9 (Op (k::L)) (some 1) none=(Op (k::L)).drop 1 from qaK1 1];exact qi1 (qi9 _)
theorem qbb7(h:qc ds (λb a=>if b=true then t e a else u e a) e.xe):sIf qc t u e ds:=h
theorem qaL7{t u:VTT}{Q:Bool->Ds->Prop}(h:t ds (λb a=>if b=true then Q true a else u a Q xe) xe):ttOr t u ds Q xe:=h
theorem qaN8{g:D->D->Option D}{Q:Bool->Ds->Prop}(h:ta ds (λx ds1=>tb ds1 (λy a=>orF (g x y) λd=>orF d.asB λb=>Q b a) xe) xe):ttE (t2 g ta tb) ds Q xe:=h
def qah6(C CP:γ):VSp:=λds Q _=>∃n wr ps g z S,ds=[Oq false C CP n wr ps g [],Om n wr ps,.l z (Os n.toNat g)]/\1<=n/\n<=64/\(ps.map (·.1)).Nodup/\(∀y∈S,An y)/\Kept n.toNat wr (On n ps) g S/\Q (.bl true) ds
abbrev qf1(n:Int)(wr:Bool)(ps:Pr) (z) (g) (o) (p0 a b:D):=([p0,Om n wr ps,.l z (Os n.toNat g),a,.int (o:Nat),b]:Ds)
theorem qal5(T:Txt K mg a):VFn P w K mg base 16 a.f54 a.d54 ["_law_row", "_law_plan", "_law_due"] (qah6 a.C6 a.C4):=by
 refine VFn.mk2 T.d54.F qn5 (wOf [true,true,true]) (by walk_at "m") (by walk_at "l") (λ_ _ _ _ _ _ _ t=>⟨_,(Ab (Ak 3 qn5.nd (ecN (NY:=["_law_key"]) (src:=[none]) 2 (blk (λJ C M H0 N=>(Bf 0 (show (["_law_key"]:List Str).Nodup by decide +kernel))) (λJ C M H0 N=>(F6 (q2 (Am qm2 (qa9 _)) qs2 (vnm 0) Ba))) (λJ C M H0 N=>(qb4 (vnm 0)))))) (Ab (Ak 4 qn5.nd (e2vP (Ax qb5) Aq (ecR1 (NY:=["_law_key", "_law_some"]) (src:=[none,some 3]) T.Cr (Ep (vaV (qa4 Ae) Ad)) (blk (λJ C M H0 N=>(Bf 0 (show (["_law_key", "_law_some"]:List Str).Nodup by decide +kernel))) (λJ C M H0 N=>(F6 (q2 (Am qs3 (by with_unfolding_all rfl)) Fy (vnm 0) (vnm 1)))) (λJ C M H0 N=>(qb4 (vnm 0))))) Ae)) (Ab (sif (tor (q2v (Aw (qh5 t.u64) (qa9 _)) (Am (qh5 t.u64) (qa9 _)) Bo (qe9 0 T.d27 T.C8.cl (qe3 T) qa1 (rm t)) (vnm 2)) (tor (q2v (Aw (qh5 t.u64) (qa9 _)) (Am (qh5 t.u64) (qa9 _)) Bo (qe9 0 T.d28 T.C8.cl (qf8 T) qa1 (rm t)) (vnm 3)) (tor (q2v (Aw (qh5 t.u64) (qa9 _)) (Am (qh5 t.u64) (qa9 _)) Bo (qe9 0 T.d29 T.C8.cl (qk5 T) qa1 (rm t)) (vbi qq2 qq1.ops T.Co (qa3 (vnm 3) qa6 rfl))) (G2 (q2v (Aw qm2 (qa9 _)) (Am qm2 (qa9 _)) qs2 (qj0 0 T.d30 T.C8.cl (qf7 T) qa1 (rm t) (vaN 4 Ad)) Ba))))).te (Ag (Ap (qa4 vbl))) Av) (Ab (Ht Nw (qa4 (vsl (vnm 3) Go (Gq Ae))) (Bf 5 qn5.nd) (Ag (sif (q2v (Aw (qh5 t.u64) (qa9 _)) (Am (qh5 t.u64) (qa9 _)) Bo (qj0 0 T.d30 T.C8.cl (qf7 T) qa1 (rm t) (vaN 5 Ad)) (vbm qaF9 Nz N2 N3 qL4 (vnm 2) (vnm 5) qao0)) (Ag (Ap (qa4 vbl))) Av))) (Ab (Ht Nw (qa4 (vsl (vnm 3) Go (Gq Ae))) (Bf 5 qn5.nd) (Ab (Bb (qj0 0 T.d32 T.C8.cl (qx7 T) qa1 (rm t) (vaN 5 Ad))) (Ag (sif (tor (q2e (Aw (qh5 t.u64) (qa9 _)) (Am (qh5 t.u64) (qa9 _)) Bo (qe9 0 T.d27 T.C8.cl (qe3 T) qa1 (rm t)) (Aj T.d49 (qD2 T) qa1 (rm t) (vaN 1 (vaV (qa4 (vsl (vnm 3) (Gq Ae) Go)) Ad)))) (G2 (q2v (Aw qm2 (qa9 _)) (Am qm2 (qa9 _)) qs2 (qe9 0 T.d33 T.C8.cl (qH4 T) qa1 (rm t)) vbl))).te (Ag (Ap (qa4 vbl))) Av)))) (Ag (Ap (Fb (e2v (Aw (qs4 t.u64) (qa9 _)) Bp (qe9 0 T.d27 T.C8.cl (qe3 T) qa1 (rm t)) (vnm 2)) (Fb (e2v (Aw (qs4 t.u64) (qa9 _)) Bp (qe9 0 T.d34 T.C8.cl (qD0 T) qa1 (rm t)) (Bq qa6)) (G3 (e2v (Aw Ev (qa9 _)) Eu (qe9 0 T.d33 T.C8.cl (qH4 T) qa1 (rm t)) vbl))))))))))),λu Q xe h=>?_⟩);obtain⟨n,wr,f,g,z,S,rfl,W,H,nd,hS,KP,q⟩:=h;have O:=KP.perm;have a2:=KP.len;obtain⟨s,E⟩:∃s,(Lr n.toNat).filterMap g=s:=⟨_,rfl⟩
 rw[E] at O;have lk:s.length<=64:=by rw[O.length_eq];lia
 have nk:s.Nodup:=O.nodup_iff.mpr KP.h.1;have X:∀k∈s,An k:=λk I=>hS k (O.subset I)
 have KK:Kept n.toNat wr (On n f) g s:=KP.of_perm O.symm;refine As [rA a n wr f g [],Om n wr f,.l z (Os n.toNat g),.u,.u,.u] rfl ?_;refine qb0 [rA a n wr f g [],Om n wr f,.l z (Os n.toNat g),kL s,.u,.u] (λK B=>qe1 (qa0 (a:=D.l z (Os n.toNat g)) rfl (qa0 (a:=Os n.toNat g) rfl ⟨qE0 _ _,?_⟩))) ?_
 .refine qj7 (λι=>∃d,ι=[d]) Gc _ [] _ (by show 0+_<1000000;rw[qr2];lia) ⟨_,rfl⟩ ?_ ?_
  .rintro y U ι G ⟨d,rfl⟩ R Z A
   have this:=Z [y] ⟨_,rfl⟩;refine qu9 ?_;rcases Ki U with rfl|⟨k,rfl⟩
   .have this:R (G++[]) _:=this
    rw[zAc] at this;exact qi3 (b:=false) (Af rfl rfl rfl) (Gs ∅ this)
   exact qi3 (b:=true) (Af rfl rfl rfl) (Dm rfl (qq0 (d:=.int k) rfl rfl ⟨A,this⟩))
  rintro ι ⟨d,rfl⟩;rw[qW0,zB4,E];exact B
 obtain⟨o,r,a3,on,eo⟩:=out70 lk;refine qb0 (qf1 n wr f z g o (rA a n wr f g []) (kL s) .u) (λK B=>qe1 (qaM1 (qbd3 (qc0 (y:=.int 70) rfl (qb3 (qa0 (a:=(70:Int)) rfl ⟨rfl,?_⟩)))))) ?_
 .refine qj7 (λι=>∃d,ι=[d,kL s]) (Ec λx=>!decide (x∈s)) _ [] _ (by show 0+_<1000000;rw[qH9];decide) ⟨_,rfl⟩ ?_ ?_
  .rintro y U ι G ⟨d,rfl⟩ R Z A
   obtain⟨j,_,rfl⟩:=zAx.mp U;have this:=Z [.int (0+(j:Int)),kL s] ⟨_,rfl⟩;refine qu9 (qi3 (b:=!decide ((0+(j:Int))∈s)) (Af rfl rfl qV5) (ite_b (λh=>?_) λh=>?_))
   .rw[qZ4 (by exact h)] at this
    exact qq0 (d:=.int (0+(j:Int))) rfl rfl ⟨A,this⟩
   rw[qZ5 (by exact h)] at this;have this:R (G++[]) _:=this;rw[zAc] at this;exact this
  rintro ι ⟨d,rfl⟩;have eo:(Bm 0 (70:Int).toNat).filterMap (Ec λx=>!decide (x∈s))=.int (o:Nat)::Op r:=eo;rw[eo,zB4];exact qa0 (a:=D.int 0) rfl ⟨rfl,qa0 (a:=D.int (o:Nat)) (qac6 (xs:=D.int (o:Nat)::Op r) (j:=0) rfl) B⟩
 refine qh0 false (λQ q=>qy0 false false (λQ q=>qx3 ?_) (λ_ Q q=>qy0 false false (λQ q=>qx3 ?_) (λ_ Q q=>qy0 false false (λQ q=>qx3 ?_) (λ_ Q q=>qx3 ?_) q) q) q) nofun λ_=>?_
 .exact qo5 (p:=rA a n wr f g []) (d:=rL n g) rfl (qc6 rfl) ⟨false,n,wr,f,g,[],rfl,rfl⟩ rfl (qa0 (a:=D.bl false) (qaT5 λ_ _=>rfl) (qa0 (a:=false) rfl q))
 .exact qo5 (p:=rA a n wr f g []) (d:=kL s) rfl (qc6 rfl) ⟨false,n,wr,f,g,[],rfl,H,by rw[E]⟩ rfl (qa0 (a:=D.bl false) ne_kk (qa0 (a:=false) rfl q))
 .refine qo5 (p:=rA a n wr f g []) (d:=.int (s.length:Nat)) rfl (qc6 rfl) ⟨false,n,wr,f,g,[],s,rfl,H,KK,rfl⟩ rfl (qa0 (a:=D.bl false) ?_ (qa0 (a:=false) rfl q))
  show some (D.bl (!((((s.length:Nat):Int))==(((Op s).length:Nat):Int))))=_;rw[qm3,zB3];rfl
 .exact qL6 (p:=rA a n wr f g []) (x:=.int (o:Nat)) (d:=.non) rfl (qc6 rfl) rfl rfl ⟨false,n,wr,f,g,[],(o:Nat),rfl,⟨⋯,⋯⟩,(qK2 λi Y e=>on ((KK.h.2 _).mpr ⟨i,Y,e⟩)).symm⟩ rfl (qa0 (a:=D.bl false) rfl (qa0 (a:=false) rfl q))
 refine qc3 (λu=>∃d,u=(qf1 n wr f z g o (rA a n wr f g []) (kL s) d)) (λK B=>qo4 (d:=kL (s.take 9)) (by exact sl_ks (z:=false) (m:=9)) (qa0 (a:=Op (s.take 9)) rfl ⟨qi9 _,?_⟩)) ?_
 .refine qh6 (λ_ u=>∃d,u=(qf1 n wr f z g o (rA a n wr f g []) (kL s) d)) _ 0 _ ⟨_,rfl⟩ ?_ ?_
  .rintro j y U u ⟨d,rfl⟩ K2 a0
   obtain⟨k,I,rfl⟩:=zAx.mp (zB8 U);have I:=(Lw 9 s).subset I;obtain⟨i,Y,e⟩:=(KK.h.2 k).mp I;refine qu9 (Kf false (λQ q=>qx3 (qL6 (p:=rA a n wr f g []) (x:=.int k) (d:=Di n.toNat g k) rfl (qc6 rfl) rfl rfl ⟨false,n,wr,f,g,[],k,rfl,X k I,rfl⟩ rfl (qa0 (a:=D.bl false) ?_ (qa0 (a:=false) rfl q)))) nofun λ_=>a0 _ ⟨_,rfl⟩);rw[Af (x:=.l z (Os n.toNat g)) (y:=.int k) rfl rfl (qaI7 Y e)];obtain⟨j,hj⟩:=qz6 Y e;rw[hj];show some (D.bl (!(((j:Nat):Int)==(j:Nat))))=_;rw[zB3];rfl
  rintro u ⟨d,rfl⟩;exact B _ ⟨d,rfl⟩
 rintro u ⟨d,rfl⟩;refine qc3 (λu=>∃d,u=(qf1 n wr f z g o (rA a n wr f g []) (kL s) d)) (λK B=>qo4 (d:=kL (s.take 1)) (by exact sl_ks (z:=false) (m:=1)) (qa0 (a:=Op (s.take 1)) rfl ⟨qi9 _,?_⟩)) ?_
 .cases s with
  |nil=>exact B _ ⟨d,rfl⟩
  |cons k L=>
  obtain⟨V,a1⟩:=zC5.mp nk;have lL:L.length+1<=64:=lk;have ef:((k::L).filter λx=>decide (x≠k))=L:=by
   rw[zCc (by simp)];exact List.filter_eq_self.mpr λx hx=>zAj λe=>V (e ▸ hx)
  refine qu9 ?_;refine qc3 (λu=>∃v,u=(qf1 n wr f z g o (rA a n wr f v [.q [.str "take",.int k]]) (kL (k::L)) (.int k))/\Kept n.toNat wr (On n f) v L) (λK B=>qg3 (qp9 (p:=rA a n wr f g []) rfl (qc6 rfl) (qb9 (x:=.int k) rfl (qb3 (qa0 (a:=D.int k) rfl (qa0 (a:=rA a n wr f g []) rfl ⟨n,wr,f,g,[],k::L,k,rfl,W,H,X,KK,zA9,∅,λr came v K'=>?_⟩)))))) ?_
  .rw[ef] at K'
   exact qa0 (a:=(qf1 n wr f z g o (rA a n wr f v [.q [.str "take",.int k]]) (kL (k::L)) (.int k))) rfl (B _ ⟨v,rfl,K'⟩)
  rintro u ⟨v,rfl,K'⟩;have nc:∀q,¬Crowd n.toNat wr (On n f) (L++[k]) q:=λq c=>KK.no_crowd q (c.perm (List.perm_append_comm (l₁:=L) (l₂:=[k])))
  have end3:∀g3,Kept n.toNat wr (On n f) g3 (L++[k])->rA a n wr f g3 []=rA a n wr f g []:=λg3 K3=>congrArg (λl=>D.ins false a.C6 [("plan",Ac true a.C4 n wr f),("held",.l false l),("done",.l false [])]) (qi0 (K3.same KK λx=>by rw[zAb,zAf,zAl,or_comm]))
  refine qbb7 (qaL7 (qaN8 (qo5 (p:=rA a n wr f v [.q [.str "take",.int k]]) (d:=rL n v) rfl (qc6 rfl) ⟨false,n,wr,f,v,_,rfl,rfl⟩ rfl (qe0 (qb9 (x:=Om n wr f) rfl (qc0 (y:=kL L) (by exact sl_tl (z:=false)) (qb3 (qa0 (a:=Om n wr f) rfl ⟨n,wr,f,false,L,rfl,W,H,nd,a1,⋯,λ⟨q,c⟩=>absurd c (K'.no_crowd q),λ_ g2 K2=>qa0 (a:=(qf1 n wr f z g o (rA a n wr f v [.q [.str "take",.int k]]) (kL (k::L)) (.int k))) rfl (qa0 (a:=D.bl false) (qaT5 (K'.same K2 λ_=>Iff.rfl)) (qa0 (a:=false) rfl ?_))⟩))))))));refine qx3 (qp9 (p:=rA a n wr f v [.q [.str "take",.int k]]) rfl (qc6 rfl) (qb3 (qa0 (a:=rA a n wr f v [.q [.str "take",.int k]]) rfl ⟨n,wr,f,v,_,L,rfl,W,H,λx hx=>X x (.tail _ hx),K',.inr ⟨[],k,X k zA9,.inr ⟨rfl,V,nc,λg3 K3=>?_⟩⟩⟩)));exact qa0 (a:=(qf1 n wr f z g o (rA a n wr f g3 []) (kL (k::L)) (.int k))) rfl (qa0 (a:=D.bl false) rfl (qa0 (a:=false) rfl (B _ ⟨.int k,by rw[end3 g3 K3]⟩)))
 rintro u ⟨d,rfl⟩;refine qf4 (qaK8 (qt5 (qo5 (p:=rA a n wr f g []) (d:=rL n g) rfl (qc6 rfl) ⟨false,n,wr,f,g,[],rfl,rfl⟩ rfl (qa0 (a:=D.bl true) (qbc0 λ_ _=>rfl) (qa0 (a:=true) rfl (Dm rfl ?_))))));refine qaK8 (qt5 (qo5 (p:=rA a n wr f g []) (d:=.l false []) rfl (qc6 rfl) ⟨false,n,wr,f,g,[],rfl,rfl,rfl⟩ rfl (qa0 (a:=D.bl true) rfl (qa0 (a:=true) rfl (Dm rfl ?_)))));exact qt5 (qp9 (p:=rA a n wr f g []) rfl (qc6 rfl) (qb3 (qa0 (a:=rA a n wr f g []) rfl ⟨n,wr,f,g,[],S,rfl,W,H,hS,KP,.inl ⟨rfl,qa0 (a:=(qf1 n wr f z g o (rA a n wr f g []) (kL s) d)) rfl (qa0 (a:=D.bl true) rfl q)⟩⟩)))
theorem qY1:qa8 ["_law_row", "_law_plan", "_law_there", "_law_moved", "_law_now"] ["_law_row", "_law_plan", "_law_there", "_law_moved"] (qa2 qU5):=by walk_at "s"
theorem ok_pr(ps:Pr):(Ot ps).all (okN 19)=true:=zBe.mpr λx a=>by
 obtain⟨p,_,rfl⟩:=zAx.mp a;rfl
theorem qaG8{n:Int}{wr:Bool}{ps:Pr}:gNe (Om n wr ps) (Om n wr ps)=some (.bl false):=by show (Dl (eqN 20) [.int n,.bl wr,.l true (Ot ps)] [.int n,.bl wr,.l true (Ot ps)]).map (λb=>D.bl (!b))=_;rw[qp1 λx a=>qE3 (zBe.mp (show ([.int n,.bl wr,.l true (Ot ps)]:Ds).all (okN 20)=true by show (okN 20 (.int n)&&(okN 20 (.bl wr)&&((Ot ps).all (okN 19)&&true)))=true;rw[ok_pr];rfl) x a)];rfl
theorem qaZ4{z:Bool}:gNe (.l z (Op ks)) (.l z' [])=some (.bl (!ks.isEmpty)):=by cases ks<;>rfl
def qas3(CG C CP:γ):VSp:=λds Q _=>∃n ps g dn h S,ds=[growD false CG C CP n ps g dn h,Om n true ps,kL S,.int h]/\Be n/\qt3 ps/\(∀x∈S,An x)/\Kept n.toNat true (On n ps) g S/\Q (.bl true) ds
abbrev qj4(a:Adr)(n:Int)(ps:Pr) (g) (dn) (h) (p2 b:D):=([growD false a.C5 a.C6 a.C4 n ps g dn h,Om n true ps,p2,.int h,b]:Ds)
theorem qY6(T:Txt K mg a):VFn P w K mg base 17 a.f55 a.d55 ["_law_row", "_law_plan", "_law_there", "_law_moved"] (qas3 a.C5 a.C6 a.C4):=by
 refine VFn.mk2 T.d55.F qY1 (wOf [true,true,true,true]) (by walk_at "m") (by walk_at "l") (λ_ _ _ _ _ _ _ f=>⟨_,(Ab (sif (tor (Bj (te (Aj T.d44 (qK9 T) qa1 (rm f) (vaV (qe9 0 T.d41 T.C7.cl (qc5 T) qa1 (rm f)) Ad)))) (G2 (q2v (Aw (qh5 f.u64) (qa9 _)) (Am (qh5 f.u64) (qa9 _)) Bo (qe9 0 T.d41 T.C7.cl (qc5 T) qa1 (rm f)) (v2 (Ax qb5) Aq (vnm 1) Ae)))).te (Ag (Ap (qa4 vbl))) Av) (Ab (sif (tor (Bj (te (Aj T.d44 (qK9 T) qa1 (rm f) (vaV (qe9 0 T.d43 T.C7.cl (qr1 T) qa1 (rm f)) Ad)))) (G2 (q2v (Aw (qh5 f.u64) (qa9 _)) (Am (qh5 f.u64) (qa9 _)) Bo (qe9 0 T.d43 T.C7.cl (qr1 T) qa1 (rm f)) (vnm 3)))).te (Ag (Ap (qa4 vbl))) Av) (Ab (Ak 4 qY1.nd (qe9 0 T.d42 T.C7.cl (qk8 T) qa1 (rm f))) (Ab (sif (tor (Bj (tv (vbi (qX3 T.D4 T.C8.cl) qaK3.ops T.Cc (qa3 (vnm 4) (qa3 (vcls a.C6 T.C8.m) qa6 rfl) rfl)))) (tor (q2v (Aw (qh5 f.u64) (qa9 _)) (Am (qh5 f.u64) (qa9 _)) Bo (qe9 4 T.d34 T.C8.cl (qD0 T) qa1 (rm f)) (Bq qa6)) (G2 (Bj (te (Aj T.d54 (qal5 T) qa1 (rm f) (vaN 4 (vaN 1 (vaV (Aj T.d49 (qD2 T) qa1 (rm f) (vaN 1 (vaN 2 Ad))) Ad))))))))).te (Ag (Ap (qa4 vbl))) Av) (Ab (sif (q2 (Am (qh5 f.u64) (qa9 _)) Bo (E6 (qa3 (A8 rfl (A8 rfl (vnm 4) T.C8.cl T.Cd) T.C9.cl T.Ca) (qa3 (A8 rfl (A8 rfl (vnm 4) T.C8.cl T.Cd) T.C9.cl T.Cg) (qa3 (A8 rfl (A8 rfl (vnm 4) T.C8.cl T.Cd) T.C9.cl T.Cw) qa6 rfl) rfl) rfl)) (vnm 1)) (Ag (Ap (qa4 vbl))) Av) (Ab (sif (q2 (Am (qh5 f.u64) (qa9 _)) Bo (vnm 2) (Bq qa6)) (Ag (Bb (qj0 4 T.d32 T.C8.cl (qx7 T) qa1 (rm f) (vaV (qb4 (v2 (Ax qb5) Aq (vnm 2) Ae)) Ad)))) (Ag (Bb (qj0 4 T.d31 T.C8.cl (qP0 T) qa1 (rm f) (vaV (qa4 Ae) Ad))))) (Ag (Ap (qa4 vbl))))))))),λt Q C h=>?_⟩);obtain⟨n,e,g,i,h,S,rfl,A,G,u,KP,q⟩:=h;have o:4<=n/\n<=64:=by unfold Be at A;lia
 have z:=KP.len;refine As (qj4 a n e g i h (kL S) .u) rfl ?_;refine qh0 false (λQ q=>qy0 false false (λQ q=>(show ttNot _ _ _ _ from(show ttE _ _ _ _ from qe0 (qg5 (qo5 (p:=growD false a.C5 a.C6 a.C4 n e g i h) (d:=.int n) rfl (qg8 rfl) ⟨false,n,e,g,i,h,rfl,rfl⟩ rfl (qb3 ⟨_,⟨.int n,_,rfl,rfl,rfl⟩,qa0 (a:=(qj4 a n e g i h (kL S) .u)) rfl (qa0 (a:=true) rfl q)⟩)))))) (λ_ Q q=>qx3 (qo5 (p:=growD false a.C5 a.C6 a.C4 n e g i h) (d:=.int n) rfl (qg8 rfl) ⟨false,n,e,g,i,h,rfl,rfl⟩ rfl (qa0 (a:=D.bl false) (qW2 (x:=.int n) rfl) (qa0 (a:=false) rfl q)))) q) nofun λ_=>?_
 refine qh0 false (λQ q=>qy0 false false (λQ q=>(show ttNot _ _ _ _ from(show ttE _ _ _ _ from qe0 (qg5 (qo5 (p:=growD false a.C5 a.C6 a.C4 n e g i h) (d:=.int h) rfl (qg8 rfl) ⟨false,n,e,g,i,h,rfl,rfl⟩ rfl (qb3 ⟨_,⟨.int h,_,rfl,rfl,rfl⟩,qa0 (a:=(qj4 a n e g i h (kL S) .u)) rfl (qa0 (a:=true) rfl q)⟩)))))) (λ_ Q q=>qx3 (qo5 (p:=growD false a.C5 a.C6 a.C4 n e g i h) (d:=.int h) rfl (qg8 rfl) ⟨false,n,e,g,i,h,rfl,rfl⟩ rfl (qa0 (a:=D.bl false) (qW2 (x:=.int h) rfl) (qa0 (a:=false) rfl q)))) q) nofun λ_=>?_
 refine qb0 (qj4 a n e g i h (kL S) (rA a n true e g [])) (λK s=>qe1 (qp9 (p:=growD false a.C5 a.C6 a.C4 n e g i h) rfl (qg8 rfl) (qb3 (qa0 (a:=growD false a.C5 a.C6 a.C4 n e g i h) rfl ⟨n,e,g,i,h,S,rfl,⋯,o.2,G,u,KP,qa0 (a:=(qj4 a n e g i h (kL S) .u)) rfl s⟩)))) ?_;refine qh0 false (λQ q=>qy0 false false (λQ q=>qt4 (b:=true) (show G1 a.C6 (rA a n true e g []) (.adr a.C6)=some (.bl true) from qaA8) q) (λ_ Q q=>qy0 false false (λQ q=>qx3 (qo5 (p:=rA a n true e g []) (d:=.l false []) rfl (qc6 rfl) ⟨false,n,true,e,g,[],rfl,rfl,rfl⟩ rfl (qa0 (a:=D.bl false) rfl (qa0 (a:=false) rfl q)))) (λ_ Q q=>(show ttNot _ _ _ _ from(show ttE _ _ _ _ from qe0 (qb9 (x:=rA a n true e g []) rfl (qb9 (x:=Om n true e) rfl (qg5 (qax3 (x:=Om n true e) (y:=kL S) rfl rfl rfl ⟨n,true,e,false,S,rfl,⋯,o.2,G.nd,KP.h.1,⋯,λ⟨q,c⟩=>absurd c (KP.no_crowd q),λ_ g2 K2=>qa0 (a:=(qj4 a n e g i h (kL S) (rA a n true e g []))) rfl (qb3 (qa0 (a:=Om n true e) rfl (qa0 (a:=rA a n true e g []) rfl ?_)))⟩))))))) q) q) nofun λ_=>?_
 {rw[show rL n g2=rL n g from congrArg (D.l false) (qi0 (K2.same KP λ_=>Iff.rfl))];exact⟨n,true,e,g,false,S,rfl,⋯,o.2,G.nd,u,KP,qa0 (a:=(qj4 a n e g i h (kL S) (rA a n true e g []))) rfl (qa0 (a:=true) rfl q)⟩};refine qh0 false (λQ q=>qi3 (b:=false) (Af (x:=Om n true e) (y:=Om n true e) ?_ rfl qaG8) q) nofun λ_=>?_
 {unfold A6 A5;rw[Au (Au rfl qe2) qc2,Au (Au rfl qe2) qp0,Au (Au rfl qe2) qav5];rfl};refine qc3 (λt=>∃d,t=(qj4 a n e g i h (kL S) d)) (λK s=>?_) ?_;{refine if_v (b:=!S.isEmpty) (Af rfl rfl qaZ4) (λv=>?_) λv=>?_;{cases S with|nil=>cases v|cons k L=>exact qg3 (qp9 (p:=rA a n true e g []) rfl (qc6 rfl) (qd3 (y:=.int k) (Af (x:=kL (k::L)) (y:=.int 0) rfl rfl (qac6 (xs:=Op (k::L)) (j:=0) rfl)) rfl (qb3 (qa0 (a:=rA a n true e g []) rfl ⟨n,true,e,g,[],k::L,k,rfl,⋯,o.2,u,KP,zA9,∅,λr came B K'=>qa0 rfl (s _ ⟨_,rfl⟩)⟩))))};cases S with|cons k L=>cases v|nil=>exact qg3 (qp9 (p:=rA a n true e g []) rfl (qc6 rfl) (qc0 (y:=.int 5) rfl (qb3 (qa0 (a:=rA a n true e g []) rfl ⟨n,true,e,g,[],[],5,rfl,⋯,o.2,⟨∅,∅⟩,nofun,KP,nofun,qaj6 (by show 1<=_;lia),∅,λcame B K'=>qa0 rfl (s _ ⟨_,rfl⟩)⟩))))};rintro t ⟨d,rfl⟩;exact qf5 (.bl true) rfl q
theorem qas9:qa8 ["_law_size", "_law_many"] ["_law_size", "_law_many"] (qa2 qU4):=by walk_at "s"
theorem qaT0{u v:VT}(b:Bool)(h:∀Q:Bool->Ds->Prop,Q b ds->qc ds Q xe)(h1:b=true->u ds Q xe)(h2:b=false->v ds Q xe):tIfE qc u v ds Q xe:=h _ (by
 cases b with
 |true=>exact Dm rfl (h1 rfl)
 |false=>exact Gs ∅ (h2 rfl))
def qas2:VSp:=Ay λds d=>∃n s,ds=[.int n,.int s]/\Be n/\0<=s/\s<=100/\d=.int (Dk n s.toNat)
theorem qat8(T:Txt K mg a):VFn P w K mg base 1 a.f52 a.d52 ["_law_size", "_law_many"] qas2:=by
 refine VFn.mk2 T.d52.F qas9 (wOf [true,true]) qb2 (by walk_at "l") (λ_ _ _ _ _ _ _ e=>⟨_,(Ag (Ap (eif (Gn (q2 (Am Bk (qa9 _)) Bn (v2 (Ah qj3) qk0 Ae (v2 (Ah qn2) qn1 (vnm 1) Ae)) (v2 (Ah qj3) qk0 Ae (vnm 0))) (Ew (q2 (Am Ef (qa9 _)) Et (vnm 0) Ae))).te (qa4 (v2 (Ah qj3) qk0 Ae (vnm 0))) (qb4 (vnm 0))))),λf Q g h=>?_⟩);obtain⟨d,⟨n,s,rfl,c,i,j,rfl⟩,q⟩:=h;have k:4<=n/\n<=64:=by unfold Be at c;lia
 refine As [.int n,.int s] rfl ?_;refine qf4 (qaT0 (decide (3*n<4*(s+1))&&decide (n<64)) (λQ q=>ql0 (decide (3*n<4*(s+1))) (decide (n<64)) (λQ q=>qi3 ?_ q) (λ_ Q q=>qi3 rfl q) q) (λb=>?_) λb=>?_);{refine Af (x:=.int (4*(s+1))) (y:=.int (3*n)) (Af (x:=.int 4) (y:=.int (s+1)) rfl rfl (Gv ∅)) (Af (x:=.int 3) (y:=.int n) rfl rfl (Gv ∅)) rfl};{have b:=zAg.mp b;have m:=zA8 b.1;have o:=zA8 b.2;refine qo4 (d:=.int (Dk n s.toNat)) ?_ q;unfold Dk;rw[if_pos ⟨⋯,⋯⟩];exact Af (x:=.int 2) (y:=.int n) rfl rfl (Gv ∅)};rw[Bool.and_eq_false_iff] at b;have b:¬(4*((s.toNat:Int)+1)>3*n/\n<64):=by rcases b with b|b<;>have:=zB0 b<;>lia
 unfold Dk at q;rw[if_neg b] at q;exact qq0 (d:=.int n) rfl rfl q
theorem qai5:qa8 ["_law_size", "_law_many"] ["_law_size", "_law_many"] (qa2 qJ8):=by walk_at "s"
def qah4:VSp:=Ay λds d=>∃n s,ds=[.int n,.int s]/\Be n/\0<=s/\s<=100/\d=.int (E8 n s.toNat)
theorem qal3(T:Txt K mg a):VFn P w K mg base 1 a.f53 a.d53 ["_law_size", "_law_many"] qah4:=by
 refine VFn.mk2 T.d53.F qai5 (wOf [true,true]) qb2 (by walk_at "l") (λ_ _ _ _ _ _ _ e=>⟨_,(Ag (Ap (eif (Gn (q2 (Am Ef (qa9 _)) Et (v2 (Ah qj3) qk0 Ae (vnm 1)) (vnm 0)) (Ew (q2 (Am Bk (qa9 _)) Bn (vnm 0) Ae))).te (qa4 (v2 (Ah qx5) Ii (vnm 0) Ae)) (qb4 (vnm 0))))),λf Q g h=>?_⟩);obtain⟨d,⟨n,s,rfl,c,i,j,rfl⟩,q⟩:=h;have k:4<=n/\n<=64:=by unfold Be at c;lia
 refine As [.int n,.int s] rfl ?_;refine qf4 (qaT0 (decide (8*s<n)&&decide (4<n)) (λQ q=>ql0 (decide (8*s<n)) (decide (4<n)) (λQ q=>qi3 ?_ q) (λ_ Q q=>qi3 rfl q) q) (λb=>?_) λb=>?_);{refine Af (x:=.int (8*s)) (y:=.int n) (Af (x:=.int 8) (y:=.int s) rfl rfl (Gv ∅)) rfl rfl};{have b:=zAg.mp b;have m:=zA8 b.1;have o:=zA8 b.2;refine qo4 (d:=.int (E8 n s.toNat)) ?_ q;unfold E8;rw[if_pos ⟨⋯,⋯⟩];exact Af (x:=.int n) (y:=.int 2) rfl rfl (I8 ∅ ∅)};rw[Bool.and_eq_false_iff] at b;have b:¬(8*(s.toNat:Int)<n/\n>4):=by rcases b with b|b<;>have:=zB0 b<;>lia
 unfold E8 at q;rw[if_neg b] at q;exact qq0 (d:=.int n) rfl rfl q
theorem qe7:qa8 ["_law_row", "_law_state", "_law_key", "_law_plan", "_law_there", "_law_moved", "_law_size", "_law_due", "_law_found"] ["_law_row", "_law_state", "_law_key"] (qa2 qC1):=by walk_at "s"
theorem qbc4(a:S.Nodup):(S.filter λx=>decide (x≠k))=S.erase k:=by rw[a.erase_eq_filter];apply L7;intro x _;by_cases h:x=k;{subst h;simp};simp[h]
theorem qaT4(h:k∈S):gRem (Op S) [.int k]=some (Op (S.erase k),.non):=by show (intsD (Op S)).bind _=_;rw[qan7];exact if_pos h
theorem qaA2{g:Ds->Ds->Option (Ds×D)}{zs:Ds}(hi:ds[i]?=some (.l false ys))(b:f ds=some (.int k))(c:g ys [.int k]=some (zs,.non))(q:Q .non (ds.set i (.l false zs))):Ea g i (tbV (B8 f) A7) ds Q xe:=by
 have e:(rdN i ds).bind D.own=some ys:=by rw[qo1 hi rfl];rfl
 refine⟨by rw[e];rfl,qd3 b rfl ?_⟩;refine qa0 (k:=λys=>orF (g ys [.int k]) λz=>Q z.2 (ds.set i (.l false z.1))) e ?_;exact qa0 (a:=(zs,D.non)) c q
theorem Gy{z:Bool}(h:rdN i ds=some (.l z (Op ks)))(e:sl=(ks.length:Nat)):A6 (fx1 E5) (A5 (rdN i) λ_=>some []) ds=some (.int sl):=by rw[qL9 h,qm3,e]
noncomputable def b01(b:Bool):Int:=bif b then 1 else 0
theorem due_D{n a v:Int}(e:sl=(l:Nat))(b:v=mvN n a l):F9 (.int sl) (.int (b01 (!(a==n))))=some (.int v):=by subst b;unfold mvN;by_cases h:a=n;{subst h;rw[if_pos rfl,zB3];exact(qi1 ∅).trans (by rw[show b01 (!true)=0 from rfl,Int.mul_zero])};rw[if_neg h,beq_false_of_ne h];exact(qi1 ∅).trans (by rw[show b01 (!false)=1 from rfl,Int.mul_one,e])
theorem dueS{b v:Int}(h1:f ds=some (.int sl))(h2:fb ds=some (.int b))(a:F9 (.int sl) (.int b)=some (.int v))(q:u e (ds.set i (.int v))):Gf (Eo (B7 (f2 F9 f fb)) (gNm i)) u e ds:=qt8 (e:={e with nx:=u e}) (Af h1 h2 a) q
noncomputable def stepS(S:List Int)(k:Int):List Int:=if k∈S then S.erase k else S++[k]
def qad8(CG C CP:γ):VSp:=λds Q _=>∃n ps g dn h S k,ds=[growD false CG C CP n ps g dn h,.l false [Om n true ps,kL S,.int h],.int k]/\Be n/\qt3 ps/\An k/\(∀x∈S,An x)/\Kept n.toNat true (On n ps) g S/\dn.length<=900/\(¬k∈S->S.length+1<=64)/\∀a g' b h',Be a->Kept a.toNat true (On a ps) g' (stepS S k)->b.length<=dn.length+1->Q (.bl true) [growD false CG C CP a ps g' b h',.l false [Om a true ps,kL (stepS S k),.int h'],.int k]
abbrev qe6(a:Adr)(n:Int)(ps:Pr) (g) (dn) (h) (w) (k) (b c d e:D):=([growD false a.C5 a.C6 a.C4 n ps g dn h,.l false [Om n true ps,.hole w,.int h],.int k,Om n true ps,b,.int h,c,d,e]:Ds)
theorem qae7(T:Txt K mg a):VFn P w K mg base 16 a.f56 a.d56 ["_law_row", "_law_state", "_law_key"] (qad8 a.C5 a.C6 a.C4):=by
 refine VFn.mk2 T.d56.F qe7 (wOf [true,true,true]) (by walk_at "m") (by walk_at "l") (λ_ _ _ _ _ _ _ A=>⟨_,(sunl 1 3 4 5 qe7.nd rfl (λav=>(Ab (sif (q2 (Am qz8 (by with_unfolding_all rfl)) Fy (vnm 2) (vnm 4)) (Ab (Bb (Dp 4 qaZ5 Nz N6 F.type_list_remove qau0 (vaV (qb4 (vnm 2)) Ad))) (Ab (Ak 6 qe7.nd (Aj T.d53 (qal3 T) qa1 (rm A) (vaV (qb4 (v2 (Ax qb5) Aq (vnm 3) Ae)) (vaV (qa4 (vbi qq2 qq1.ops T.Co (qa3 (vnm 4) qa6 rfl))) Ad)))) (Ab (Ak 7 qe7.nd (qa4 (v2 (Ah qj3) qaz8 (vbi qq2 qq1.ops T.Co (qa3 (vnm 4) qa6 rfl)) (Fc qA0 qaw5.ops T.Cz (qa3 (v2 (Aw (qh5 A.u64) (qa9 _)) Bo (vnm 6) (v2 (Ax qb5) Aq (vnm 3) Ae)) qa6 rfl))))) (Ag (Ak 8 qe7.nd (qj0 0 T.d40 T.C7.cl (qG0 T) qa1 (rm A) (vaN 2 Ad))))))) (Ab (Ak 6 qe7.nd (Aj T.d52 (qat8 T) qa1 (rm A) (vaV (qb4 (v2 (Ax qb5) Aq (vnm 3) Ae)) (vaV (qa4 (vbi qq2 qq1.ops T.Co (qa3 (vnm 4) qa6 rfl))) Ad)))) (Ab (Ak 7 qe7.nd (qa4 (v2 (Ah qj3) qaz8 (vbi qq2 qq1.ops T.Co (qa3 (vnm 4) qa6 rfl)) (Fc qA0 qaw5.ops T.Cz (qa3 (v2 (Aw (qh5 A.u64) (qa9 _)) Bo (vnm 6) (v2 (Ax qb5) Aq (vnm 3) Ae)) qa6 rfl))))) (Ab (Ak 8 qe7.nd (qj0 0 T.d39 T.C7.cl (qL1 T) qa1 (rm A) (vaN 2 Ad))) (Ag (Bb (Dp 4 qz3 Nz N0 N1 qd6 (vaV (qb4 (vnm 2)) Ad)))))))) (Ab (Fe (qa4 (E6 (qa3 (vnm 6) (qa3 vbl (qa3 (v2 (Ax qb5) Aq (vnm 3) Ae) qa6 rfl) rfl) rfl))) (Dq (vpn 1) Ae)) (Ab (Fe (qa4 (v2 (Ah qn2) qn1 (vnm 5) (vnm 7))) (Dq (vpn 1) Ae)) (Ag (Ap (Fb (Aj T.d44 (qK9 T) qa1 (rm A) (vaN 8 Ad)) (G3 (qa4 (v2 (Aw (qs4 A.u64) (qa9 _)) Bp (vnm 8) (vnm 7))))))))))) (vpn 1)),λE Q xe h=>?_⟩);obtain⟨n,e,g,o,h,S,k,rfl,B,G,W,O,KP,H,X,q⟩:=h;have R:=KP.len;have hn:4<=n/\n<=64:=by unfold Be at B;lia
 have Y:=KP.h.1;refine As [growD false a.C5 a.C6 a.C4 n e g o h,.l false [Om n true e,kL S,.int h],.int k,.u,.u,.u,.u,.u,.u] rfl ?_;refine⟨Om n true e,kL S,.int h,rfl,rfl,rfl,(λz=>nomatch z),∅,λw=>?_⟩;refine As (qe6 a n e g o h w k (kL S) .u .u .u) rfl ?_;refine qc3 (λE=>∃c j f v,E=[growD false a.C5 a.C6 a.C4 c e j f (h+v),.l false [Om n true e,.hole w,.int h],.int k,Om n true e,kL (stepS S k),.int h,.int c,.int v,.int v]/\Be c/\Kept c.toNat true (On c e) j (stepS S k)/\f.length<=o.length+1) (λK s=>?_) ?_;{refine if_v (b:=decide (k∈S)) (Af rfl rfl qaS1) (λM=>?_) λM=>?_;{have r:=zA8 M;have Z:=List.length_erase_of_mem r;have U:=qbc4 (k:=k) Y;have V:=qaT4 r;have J:stepS S k=S.erase k:=if_pos r;generalize S.erase k=T at Z U V J;rw[J] at s;obtain⟨t,i⟩:∃t:Int,t=(T.length:Nat):=⟨_,rfl⟩;obtain⟨c,u⟩:∃c,c=E8 n T.length:=⟨_,rfl⟩;obtain⟨v,I⟩:∃v,v=mvN n c T.length:=⟨_,rfl⟩;refine qb0 (qe6 a n e g o h w k (kL T) .u .u .u) (λK s=>qg3 (qaA2 rfl rfl V s)) ?_;refine qb0 (qe6 a n e g o h w k (kL T) (.int c) .u .u) (λK s=>?_) (dueS (sl:=t) (v:=v) (by exact Gy rfl i) (b:=b01 (!(c==n))) ?_ (due_D i I) ?_);{exact qe1 (qe0 (qd3 (y:=.int n) rfl rfl (qc0 (y:=.int t) (Gy rfl i) (qb3 ⟨.int c,⟨n,t,rfl,B,⋯,⋯,by rw[u,i,Int.toNat_natCast]⟩,qa0 (a:=(qe6 a n e g o h w k (kL T) .u .u .u)) rfl s⟩))))};{show (Jr (.bl (!(c==n))))=_;cases c==n<;>rfl};refine As (qe6 a n e g o h w k (kL T) (.int c) (.int v) .u) rfl ?_;refine qe1 (qp9 (p:=growD false a.C5 a.C6 a.C4 n e g o h) rfl (qg8 rfl) (qb9 (x:=.int k) rfl (qb3 (qa0 (a:=D.int k) rfl (qa0 (a:=growD false a.C5 a.C6 a.C4 n e g o h) rfl ⟨n,e,g,o,h,S,k,rfl,B,G,O,KP,r,H,λn2 v2 j f L e2 K' C=>?_⟩)))));rw[U] at L e2 K';subst L;obtain rfl:c=_:=u;obtain rfl:v=v2:=I.trans e2.symm;exact qa0 (a:=[growD false a.C5 a.C6 a.C4 (E8 n T.length) e j f (h+v),.l false [Om n true e,.hole w,.int h],.int k,Om n true e,kL T,.int h,.int (E8 n T.length),.int v,.u]) rfl (s _ ⟨_,j,f,v,rfl,qaM5 B,K',C⟩)};have r:=zB0 M;have J:stepS S k=S++[k]:=if_neg r;rw[J] at s;obtain⟨t,i⟩:∃t:Int,t=(S.length:Nat):=⟨_,rfl⟩;obtain⟨c,u⟩:∃c,c=Dk n S.length:=⟨_,rfl⟩;obtain⟨v,I⟩:∃v,v=mvN n c S.length:=⟨_,rfl⟩;refine qb0 (qe6 a n e g o h w k (kL S) (.int c) .u .u) (λK s=>?_) (dueS (sl:=t) (v:=v) (by exact Gy rfl i) (b:=b01 (!(c==n))) ?_ (due_D i I) ?_);{exact qe1 (qe0 (qd3 (y:=.int n) rfl rfl (qc0 (y:=.int t) (Gy rfl i) (qb3 ⟨.int c,⟨n,t,rfl,B,⋯,⋯,by rw[u,i,Int.toNat_natCast]⟩,qa0 (a:=(qe6 a n e g o h w k (kL S) .u .u .u)) rfl s⟩))))};{show (Jr (.bl (!(c==n))))=_;cases c==n<;>rfl};refine As (qe6 a n e g o h w k (kL S) (.int c) (.int v) .u) rfl ?_;refine qc3 (λE=>∃j f,E=[growD false a.C5 a.C6 a.C4 c e j f (h+v),.l false [Om n true e,.hole w,.int h],.int k,Om n true e,kL S,.int h,.int c,.int v,.int v]/\Kept c.toNat true (On c e) j (S++[k])/\f.length<=o.length+1) (λK s=>qe1 (qp9 (p:=growD false a.C5 a.C6 a.C4 n e g o h) rfl (qg8 rfl) (qb9 (x:=.int k) rfl (qb3 (qa0 (a:=D.int k) rfl (qa0 (a:=growD false a.C5 a.C6 a.C4 n e g o h) rfl ⟨n,e,g,o,h,S,k,rfl,B,G,W,O,KP,r,X r,H,λn2 v2 j f L e2 K' C=>?_⟩)))))) ?_;{subst L;obtain rfl:c=_:=u;obtain rfl:v=v2:=I.trans e2.symm;exact qa0 (a:=[growD false a.C5 a.C6 a.C4 (Dk n S.length) e j f (h+v),.l false [Om n true e,.hole w,.int h],.int k,Om n true e,kL S,.int h,.int (Dk n S.length),.int v,.u]) rfl (s _ ⟨j,f,rfl,K',C⟩)};rintro E ⟨j,f,rfl,K',C⟩;exact qg3 (qaA2 rfl rfl (zs:=Op (S++[k])) (by unfold Op;rw[zBh];exact if_pos (by rw[zAa];unfold big;lia)) (s _ ⟨c,j,f,v,rfl,u ▸ qao3 B,K',C⟩))};rintro E ⟨c,j,f,v,rfl,N,K',C⟩;refine qb0 [growD false a.C5 a.C6 a.C4 c e j f (h+v),.l false [Om c true e,.hole w,.int h],.int k,Om n true e,kL (stepS S k),.int h,.int c,.int v,.int v] (λK s=>qG6 (d:=Om c true e) (n:=0) rfl rfl rfl rfl s) ?_;refine qb0 [growD false a.C5 a.C6 a.C4 c e j f (h+v),.l false [Om c true e,.hole w,.int (h+v)],.int k,Om n true e,kL (stepS S k),.int h,.int c,.int v,.int v] (λK s=>qG6 (d:=.int (h+v)) (n:=2) rfl rfl rfl rfl s) ?_;refine qf4 (qaK8 (Iw (x:=.int v) rfl ⟨_,⟨.int v,_,rfl,rfl,rfl⟩,qa0 (a:=[growD false a.C5 a.C6 a.C4 c e j f (h+v),.l false [Om c true e,.hole w,.int (h+v)],.int k,Om n true e,kL (stepS S k),.int h,.int c,.int v,.int v]) rfl (qa0 (a:=true) rfl (Dm rfl ?_))⟩));refine qo4 (d:=.bl true) ?_ ⟨_,rfl,(λz=>nomatch z),rfl,q c j f (h+v) N K' C⟩;show some (D.bl (v==v))=_;rw[zB3]
theorem qn4:qa8 ["_law_bag_here", "_law_keys_here", "_law_there", "_law_turn", "_law_phases", "_law_out", "_law_takes", "_law_some"] ["_law_bag_here", "_law_keys_here", "_law_there", "_law_turn", "_law_phases"] (qa2 qJ9):=by walk_at "s"
theorem qbb3{c:Bool}(h:f ds=some (.bl c)):A6 (fx1 Jr) (A5 f λ_=>some []) ds=some (.int (b01 c)):=by unfold A6 A5;rw[h];cases c<;>rfl
def qah5:VSp:=λds Q _=>∃a b z ks S t p,ds=[b,.l z (Op ks),kL S,.int t,.int p]/\O1 a b/\ks≠[]/\ks.length<=64/\S.length<=64/\(∀x∈S,x∈ks)/\p<=5/\∀c k,O1 a c->k∈ks->Q (.int k) [c,.l z (Op ks),kL S,.int t,.int p]
theorem qal4(T:Txt K mg a):VFn P w K mg base 2 a.f57 a.d57 ["_law_bag_here", "_law_keys_here", "_law_there", "_law_turn", "_law_phases"] qah5:=by
 refine VFn.mk2 T.d57.F qn4 (wOf [true,true,true,true,true]) (by walk_at "m") (by walk_at "l") (λ_ _ _ _ _ _ _ s=>⟨_,(Ab (scN (NY:=["_law_key", "_law_there"]) (src:=[none,some 2]) 5 1 qn4.nd (blk (λH C Y H0 Z=>(Bf 0 (show (["_law_key", "_law_there"]:List Str).Nodup by decide +kernel))) (λH C Y H0 Z=>(F6 (q2 (Am qs3 (by with_unfolding_all rfl)) Fy (vnm 0) (vnm 1)))) (λH C Y H0 Z=>(qb4 (vnm 0))))) (Ab (Ak 6 qn4.nd (e2v (Aw Ef (qa9 _)) Et (Aj T.d46 (qf9 T) qa1 (rm s) (vaN 0 (vaV (qa4 Ae) Ad))) (vnm 3))) (Ab (sif (q2 (Am Bk (qa9 _)) Bn (vnm 4) Ae) (Ag (Ak 6 qn4.nd (qa4 (v2 (Aw (qs4 s.u64) (qa9 _)) Bp (v2 (Ah qo3) qo2 (v2 (Ah qx5) Ii (vnm 3) (v2 (Ah qj3) qk0 Ae (vnm 4))) Ae) Ae)))) Av) (Kd 7 qn4.nd (vpsel 5 2 (Fc qA0 qaw5.ops T.Cz (qa3 (vor (Jt (vnm 6) (G4 (v2 (Aw (qh5 s.u64) (qa9 _)) Bo (vnm 2) (Bq qa6)))) (G4 (v2 (Aw (qs4 s.u64) (qa9 _)) Bp (vnm 5) (Bq qa6)))) qa6 rfl))) (λH=>(Ag (Ap (e2nP 7 (Ax qb5) Aq (Aj T.d46 (qf9 T) qa1 (rm s) (vaN 0 (vaV (qa4 (vbi qq2 qq1.ops T.Co (qa3 (vnm 7) qa6 rfl))) Ad))))))))))),λg Q xe h=>?_⟩);obtain⟨ns,b,z,f,S,t,p,rfl,B,I,lk,lS,hS,p5,q⟩:=h;refine As [b,.l z (Op f),kL S,.int t,.int p,.u,.u,.u] rfl ?_;refine qb0 [b,.l z (Op f),kL S,.int t,.int p,kL (f.filter λx=>!decide (x∈S)),.u,.u] (λK o=>qe1 (qa0 (a:=D.l z (Op f)) rfl (qa0 (a:=Op f) rfl ⟨qi9 _,?_⟩))) ?_;{refine qj7 (λι=>∃d,ι=[d,kL S]) (Ec λx=>!decide (x∈S)) _ [] _ (by show 0+_<1000000;rw[qm3];lia) ⟨_,rfl⟩ ?_ ?_;{rintro y hy ι J ⟨d,rfl⟩ R hR u;obtain⟨k,_,rfl⟩:=zAx.mp hy;have this:=hR [.int k,kL S] ⟨_,rfl⟩;refine qu9 (qi3 (b:=!decide (k∈S)) (Af rfl rfl qV5) (ite_b (λh=>?_) λh=>?_));{rw[qZ4 (by exact h)] at this;exact qq0 (d:=.int k) rfl rfl ⟨u,this⟩};rw[qZ5 (by exact h)] at this;have this:R (J++[]) _:=this;rw[zAc] at this;exact this};rintro ι ⟨d,rfl⟩;rw[qD9,zB4];exact o};have hO:∀k∈f.filter λx=>!decide (x∈S),k∈f:=λk h=>(zAw.mp h).1;have A:(f.filter λx=>!decide (x∈S))=[]->S≠[]:=λe e2=>by subst e2;cases f with|nil=>exact I rfl|cons x r=>simp at e
 have lO:(f.filter λx=>!decide (x∈S)).length<=64:=zAi (Mq _ _) lk;generalize (f.filter λx=>!decide (x∈S))=O at hO A lO;refine qc3 (λg=>∃b j,g=[b,.l z (Op f),kL S,.int t,.int p,kL O,.bl j,.u]/\O1 ns b) (λK o=>qe1 (qt5 (qf0 (ds:=[b,.l z (Op f),kL S,.int t,.int p,kL O,.u,.u]) rfl B rfl ∅ ∅ λv n v0 v1 B'=>?_))) ?_;{exact qa0 (a:=D.bl (decide (v<t))) rfl (o _ ⟨n,_,rfl,B'⟩)};rintro g ⟨b,j,rfl,B⟩;refine qc3 (λg=>∃j,g=[b,.l z (Op f),kL S,.int t,.int p,kL O,.bl j,.u]) (λK o=>?_) ?_;{refine if_v (b:=decide (0<p)) rfl (λM=>?_) λ_=>o _ ⟨j,rfl⟩;have M:=zA8 M;refine qt8 (d:=.bl (t/(12*p)%2==1)) ?_ (o _ ⟨_,rfl⟩);refine Af (x:=.int (t/(12*p)%2)) (y:=.int 1) (Af (x:=.int (t/(12*p))) (y:=.int 2) (Af (x:=.int t) (y:=.int (12*p)) rfl (Af (x:=.int 12) (y:=.int p) rfl rfl (Gv ∅)) (I8 ⋯ ⋯)) rfl (qau1 ∅)) rfl rfl};rintro g ⟨j,rfl⟩;obtain⟨c,N⟩:∃c,c=(j&&!S.isEmpty||O.isEmpty):=⟨_,rfl⟩;have hf:A6 (fx1 Jr) (A5 (fOr (fAnd (rdN 6) (f2 gNe (rdN 2) (A6 gLst λ_=>some []))) (f2 gEq (rdN 5) (A6 gLst λ_=>some []))) λ_=>some []) [b,.l z (Op f),kL S,.int t,.int p,kL O,.bl j,.u]=some (.int (b01 c)):=by subst N;refine qbb3 ?_;cases j<;>cases S<;>cases O<;>rfl
 have E:∀(L:List Int)(g:Ds)(e:VEnds),L≠[]->L.length<=64->(∀x∈L,x∈f)->g[0]?=some b->g[7]?=some (kL L)->(∀n k,O1 ns n->k∈f->e.rt (.int k) (g.set 0 n))->sRet (Jo gIx 7 (qn3 qT3 [] (tbN 0 (tbV (B7 (A6 (fx1 E5) (A5 (rdN 7) λ_=>some []))) A7)))) e g:=λL g e hL lL G h0 h7 qe=>by have r7:=qo1 h7 rfl;obtain⟨sl,U⟩:∃sl:Int,sl=(L.length:Nat):=⟨_,rfl⟩;have M:=List.length_pos_iff.mpr hL;refine qf4 ⟨by rw[r7];rfl,qf0 h0 B (Gy r7 U) ⋯ ⋯ λi n i0 i1 B'=>?_⟩;obtain⟨d,hd,ed⟩:=qR0 (xs:=Op L) (i:=i) i0 (by rw[qm3];lia);obtain⟨k,V,rfl⟩:=zAx.mp hd;refine qa0 (a:=D.int k) ?_ ⟨rfl,qe n k B' (G k V)⟩;rw[qo1 (show (g.set 0 n)[7]?=some (kL L) by rw[zBj ∅];exact h7) rfl];exact ed
 cases c with
 |true=>
  have W:S≠[]:=λe=>by subst e;cases O with|nil=>exact A rfl rfl|cons x r=>cases j<;>cases N
  refine qa0 (a:=(2,[])) ?_ ⟨∅,kL S,rfl,(λz=>nomatch z),λw=>?_⟩;{unfold Hx;rw[hf];rfl};exact E S _ _ W lS hS rfl rfl λn k B' G=>⟨_,rfl,(λz=>nomatch z),rfl,q n k B' G⟩
 |false=>
  have X:O≠[]:=λe=>by subst e;cases j<;>cases S<;>cases N
  refine qa0 (a:=(5,[])) ?_ ⟨∅,kL O,rfl,(λz=>nomatch z),λw=>?_⟩;{unfold Hx;rw[hf];rfl};exact E O _ _ X lO hO rfl rfl λn k B' G=>⟨_,rfl,(λz=>nomatch z),rfl,q n k B' G⟩
theorem qn0:qa8 ["_law_script", "_law_bag_here", "_law_asked", "_law_phases", "_law_many", "_law_keys_here", "_law_homes", "_law_handed", "_law_rows", "_law_states", "_law_elder", "_law_turn", "_law_k", "_law_state", "_law_key"] ["_law_script"] (qa2 Gw):=by walk_at "s"
theorem qaJ6(N:Nat)(g:Nat->Option Int):D.fzs (Os N g)=Os N g:=by
 unfold Os;induction Lr N with
 |nil=>rfl|cons a l b=>
  show (Dw (g a)).fz::D.fzs (l.map λi=>Dw (g i))=_;have e:(Dw (g a)).fz=Dw (g a):=by cases g a<;>rfl
  rw[b,e];rfl
theorem qbc2:(Oq zr C CP n wr ps g dn).fz=Oq true C CP n wr ps g (D.fzs dn):=by show D.ins true C [("plan",(Ac true CP n wr ps).fz),("held",.l true (D.fzs (Os n.toNat g))),("done",.l true (D.fzs dn))]=_;rw[qaJ6,qao9];rfl
theorem ne_pr{z:Bool}{ps:Pr}:gNe (.l z (Ot ps)) (.l z' (Ot ps))=some (.bl false):=by show (Dl (eqN 20) (Ot ps) (Ot ps)).map (λb=>D.bl (!b))=_;rw[qp1 λx a=>qE3 (by obtain⟨p,_,rfl⟩:=zAx.mp a;rfl)];rfl
theorem qaJ7{g:VTG}(h:tr ds (λxs _ ds1=>orF (Im xs) λj=>Fw j=true/\Dr g t e (Bm 0 j.toNat) ds1) e.xe):J0 (G8 tr) g t e ds:=h
theorem qaG9{g:Ds->Ds->Option (Ds×D)}(hi:ds[i]?=some (.l false ys))(h:tr ds (λxs _ ds1=>orF ((rdN i ds1).bind D.own) λys=>orF (g ys xs) λz=>Q z.2 (ds1.set i (.l false z.1))) xe):Ea g i tr ds Q xe:=⟨by rw[qo1 hi rfl];rfl,h⟩
theorem qX4{ps:List Pl}:Al (.no::ps) (y::ys) ds=Al ps ys ds:=rfl
theorem qaq3{ps:List Pl}:Al (.sl i::ps) (y::ys) ds=Al ps ys (ds.set i y):=rfl
theorem qbb6{w:VTS}(h:qc ds (λb a=>if b=true then t {e with nx:=w e} a else w e a) e.xe):Gf (sIf qc t G6) w e ds:=h
structure GS where
 n:Int
 ps:Pr
 g:Nat->Option Int
 dn:Ds
 h:Int
 S:List Int
abbrev gS(a:Adr)(x:GS):D:=growD false a.C5 a.C6 a.C4 x.n x.ps x.g x.dn x.h
abbrev sS(x:GS):D:=.l false [Om x.n true x.ps,.l false (Op x.S),.int x.h]
structure GS.Ok(ks:List Int)(t:Nat)(x:GS):Prop where
 pn:Be x.n
 G:qt3 x.ps
 sub:∀k∈x.S,k∈ks
 kp:Kept x.n.toNat true (On x.n x.ps) x.g x.S
 dl:x.dn.length<=t
noncomputable def two{α:Type}(k:Bool)(x y:α):List α:=bif k then [y,x] else [x,y]
abbrev El:=Int×Pr×(Nat->Option Int)
abbrev eD(a:Adr)(x:El):D:=.q [Oq true a.C6 a.C4 x.1 true x.2.1 x.2.2 [],.l true (Os x.1.toNat x.2.2)]
noncomputable def dueE(y:D):Option D:=match y with|.q [_,d]=>some d|_=>none
theorem ok_rl{g:Nat->Option Int}:okN 20 (.l true (Os N g))=true:=zBe.mpr λd a=>by rcases Ki a with rfl|⟨k,rfl⟩<;>rfl
theorem ne_el{L:List El}:gNe (.l false ((L.map (eD a)).filterMap dueE)) (.l false ((L.map (eD a)).filterMap dueE))=some (.bl false):=by show (Dl (eqN 20) _ _).map (λb=>D.bl (!b))=_;rw[qp1 λx c=>qE3 (by obtain⟨y,d,e⟩:=List.mem_filterMap.mp c;obtain⟨z,_,rfl⟩:=zAx.mp d;cases e;exact ok_rl)];rfl
theorem qaB0:∀L:List El,D.imms (L.map (eD a))=true|[]=>rfl|e::L=>by show (true&&D.imms (L.map (eD a)))=true;rw[qaB0 L];rfl
abbrev qr4 (u) (full) (ph) (ks) (ps:Pr) (a:Adr) (L) (p1 f g h b c d e:D):=([D.hole u,p1,.bl full,.int ph,f,kL ks,.l true (Ot ps),.l false [.q [.int 3,.int 3]],g,h,.l false (Ni (eD a) L),b,c,d,e]:Ds)
theorem qaZ3(T:Txt K mg a):Du P w K mg base (CX1 P w) 18 a.f58 a.d58 ["_law_script"] (Hj K):=by
 refine T.d58.F.okX qn0 (λvs H Q E h=>?_) (λa8 A outer s H vs Q E hr h=>?_);{obtain⟨l,ns,rfl,_⟩:=h;rfl};obtain⟨l,ns,rfl,hS,hl,k⟩:=h;refine⟨_,qC4 (sset 1 qn0.nd (Hh T.d45 (qaQ4 T) (rm hr) (qc1 (pv 0) qm1))) (show VSs ⟨λ_=>E,λ_=>false,Ls 15 none,[]⟩ (Ez true (CX1 P w) P w K mg base ["_law_script", "_law_bag_here", "_law_asked", "_law_phases", "_law_many", "_law_keys_here", "_law_homes", "_law_handed", "_law_rows", "_law_states", "_law_elder", "_law_turn", "_law_k", "_law_state", "_law_key"] "law" (qa2 Gw) a.f58 a8 A outer s H E) _ _ from(Ab (Ak 2 qn0.nd (e2v (Aw (qs4 hr.u64) (qa9 _)) Bp (Aj T.d46 (qf9 T) qa1 (rm hr) (vaN 1 (vaV (qa4 Ae) Ad))) Ae)) (Ab (Ak 3 qn0.nd (Aj T.d46 (qf9 T) qa1 (rm hr) (vaN 1 (vaV (qa4 Ae) Ad)))) (Ab (Ak 4 qn0.nd (e2P (Ax qb5) Aq (qa4 (Bq (qa3 Ae (qa3 Ae (qa3 Ae (qa3 Ae qa6 rfl) rfl) rfl) rfl))) (Aj T.d46 (qf9 T) qa1 (rm hr) (vaN 1 (vaV (qa4 Ae) Ad))))) (Ab (Ak 5 qn0.nd (e2v (Ah qn2) qn1 (Aj T.d50 (qaG4 T) qa1 (rm hr) (vaN 1 (vaN 4 Ad))) (Bq (qa3 (vpow 1000000000000000000) qa6 rfl)))) (Ab (Ak 5 qn0.nd (qa4 (vsl (vnm 5) Go (Gq Ae)))) (Ab (Ak 6 qn0.nd (Iq (Aj T.d51 (qL0 T) qa1 (rm hr) (vaN 1 (vaN 5 Ad))))) (Ab (Ak 7 qn0.nd (qa4 (Fc qj1 qQ5.ops T.Ct (qa3 (vnm 6) qa6 rfl)))) (Ab (Ak 8 qn0.nd (Il (vaV (Ho T.C7 T.Cy T.d37 (qr0 T) qa1 (rm hr) (vaN 7 Ad)) Ad))) (Ab (sif (q2 (Am (qh5 hr.u64) (qa9 _)) Bo (vnm 7) (vnm 6)) (Ag (Ap (qa4 vbl))) Av) (Ab (Bb (qbc8 7 qaH1 Nz N7 F.type_list_clear qaH4)) (Ab (Bb (Dp 8 qz3 Nz N0 N1 qd6 (vaV (Ho T.C7 T.Cy T.d37 (qr0 T) qa1 (rm hr) (vaN 7 Ad)) Ad))) (Ab (Bb (Dp 7 qz3 Nz N0 N1 qd6 (vaV (qa4 (E6 (qa3 Ae (qa3 Ae qa6 rfl) rfl))) Ad))) (Ab (Ak 9 qn0.nd (Il (vaV (Il (vaV (qa4 (E6 (qa3 Ae (qa3 vbl (qa3 (vnm 6) qa6 rfl) rfl) rfl))) (vaV (qa4 (Bq qa6)) (vaV (qa4 Ae) Ad)))) (vaV (Il (vaV (Iq (Jw (vaV (qa4 Ae) (vaV (qa4 vbl) (vaV (qa4 (Bq qa6)) Ad))))) (vaV (qa4 (Bq qa6)) (vaV (qa4 Ae) Ad)))) Ad)))) (Ab (Ak 10 qn0.nd (qa4 (Bq qa6))) (Ab (qT5 Nw T.Cr (Ep (vaV (Aj T.d46 (qf9 T) qa1 (rm hr) (vaN 1 (vaV (qa4 Ae) Ad))) Ad)) (Bf 11 qn0.nd) (Ab (Ak 12 qn0.nd (e2v (Ah qx5) Ii (Aj T.d46 (qf9 T) qa1 (rm hr) (vaN 1 (vaV (qa4 Ae) Ad))) Ae)) (Kd 13 qn0.nd (Fs (vpn 9) (vnm 12)) (λav=>(Ab (Ak 14 qn0.nd (Aj T.d57 (qal4 T) qa1 (rm hr) (vaN 1 (vaN 5 (vaB (Fs (vpn 13) Ae) (vaN 11 (vaN 3 Ad))))))) (Ab (sif (Bj (te (Aj T.d56 (qae7 T) qa1 (rm hr) (vaB (Fs (vpn 8) (vnm 12)) (vaN 13 (vaN 14 Ad)))))) (Ag (Ap (qa4 vbl))) Av) (Ab (sif (Gn (tv (vnm 2)) (Ew (Bj (te (Aj T.d55 (qY6 T) qa1 (rm hr) (vaB (Fs (vpn 8) (vnm 12)) (vaV (qb4 (v2 (Ax qb5) Aq (vnm 13) Ae)) (vaB (Fs (vpn 13) Ae) (vaV (qb4 (v2 (Ax qb5) Aq (vnm 13) Ae)) Ad))))))))).te (Ag (Ap (qa4 vbl))) Av) (Ag (sif (q2 (Am (qs4 hr.u64) (qa9 _)) Bp (v2 (Ah qo3) qo2 (vnm 11) Ae) Ae) (Ag (Bb (Dp 10 qz3 Nz N0 N1 qd6 (vaV (Iq (Jw (vaV (Jv T.d42 T.C7.cl (qk8 T) qa1 (rm hr) (Fs (vpn 8) (vnm 12))) (vaV (Aj T.d49 (qD2 T) qa1 (rm hr) (vaV (qb4 (v2 (Ax qb5) Aq (vnm 13) Ae)) (vaB (Fs (vpn 13) Ae) Ad))) Ad)))) Ad)))) Av))))))))) (Ab (sif (q2e (Aw (qh5 hr.u64) (qa9 _)) (Am (qh5 hr.u64) (qa9 _)) Bo (ecN (NY:=["_law_now", "_law_due"]) (src:=[none,none]) 10 (blk (λav C s0 H0 ex=>(Hr (n:=2) rfl (qQ3 (Bf 0 (show (["_law_now", "_law_due"]:List Str).Nodup by decide +kernel)) (qQ3 (Bf 1 (show (["_law_now", "_law_due"]:List Str).Nodup by decide +kernel)) Hq)))) (λav C s0 H0 ex=>Fi) (λav C s0 H0 ex=>(Iq (qe9 0 T.d27 T.C8.cl (qe3 T) L2.qa1 (rm hr)))))) (ecN (NY:=["_law_now", "_law_due"]) (src:=[none,none]) 10 (blk (λav C s0 H0 ex=>(Hr (n:=2) rfl (qQ3 (Bf 0 (show (["_law_now", "_law_due"]:List Str).Nodup by decide +kernel)) (qQ3 (Bf 1 (show (["_law_now", "_law_due"]:List Str).Nodup by decide +kernel)) Hq)))) (λav C s0 H0 ex=>Fi) (λav C s0 H0 ex=>(qb4 (vnm 1)))))) (Ag (Ap (qa4 vbl))) Av) (Ab (qT5 Nw T.Cr (Ep (vaV (qa4 Ae) Ad)) (Bf 12 qn0.nd) (Kd 13 qn0.nd (Fs (vpn 9) (vnm 12)) (λav=>(Ag (sif (Bj (te (Aj T.d55 (qY6 T) qa1 (rm hr) (vaB (Fs (vpn 8) (vnm 12)) (vaV (qb4 (v2 (Ax qb5) Aq (vnm 13) Ae)) (vaB (Fs (vpn 13) Ae) (vaV (qb4 (v2 (Ax qb5) Aq (vnm 13) Ae)) Ad))))))) (Ag (Ap (qa4 vbl))) Av))))) (Ag (Ap (qa4 vbl))))))))))))))))))))).h,?_⟩;refine⟨_,rfl,l,ns,rfl,hS,hl,λp L H' hp hL kp B=>?_⟩;obtain⟨x,y,z,I,B⟩:=B;refine qau5 (rest:=[]) (X:=Ez true (CX1 P w) P w K mg base [] "law" (qa2 Gw) a.f58 a8 A outer s H E) (n:=13) (x:=x) (y:=y) (z:=z) (ns:=I) rfl (λ_=>rfl) rfl B.at_ B.li B.ne (λH'=>k H') ?_;have B0:O1 I (bagD x y z I):=⟨x,y,z,rfl,B.x0,B.y0,B.y1,B.z0,B.nn⟩;generalize bagD x y z I=b at B0;generalize V.ref l=u;refine As [.hole u,b,.u,.u,.u,.u,.u,.u,.u,.u,.u,.u,.u,.u,.u] rfl ?_;refine qc3 (λJ=>∃b full,J=[D.hole u,b,.bl full,.u,.u,.u,.u,.u,.u,.u,.u,.u,.u,.u,.u]/\O1 I b) (λK M=>?_) ?_;{exact qe1 (qt5 (qf0 rfl B0 rfl ∅ ∅ λv b' v0 v1 B'=>qa0 (a:=D.bl (v==1)) rfl (M _ ⟨b',_,rfl,B'⟩)))};rintro J ⟨b,full,rfl,B⟩;refine qc3 (λJ=>∃b r,J=[D.hole u,b,.bl full,.int r,.u,.u,.u,.u,.u,.u,.u,.u,.u,.u,.u]/\O1 I b/\r<=5) (λK M=>?_) ?_;{exact qe1 (qf0 rfl B rfl ∅ ∅ λv b' v0 v1 B'=>M _ ⟨b',v,rfl,B',⋯⟩)};rintro J ⟨b,r,rfl,B,b1⟩;refine qc3 (λJ=>∃b m,J=[D.hole u,b,.bl full,.int r,.int m,.u,.u,.u,.u,.u,.u,.u,.u,.u,.u]/\O1 I b/\0<=m/\m<=64) (λK M=>qe1 (qaD2 (x:=.l false [.int 20,.int 64,.int 64,.int 40]) rfl (qf0 (ds:=[D.hole u,b,.bl full,.int r,.u,.u,.u,.u,.u,.u,.u,.u,.u,.u,.u]) (m:=4) rfl B rfl ∅ ∅ λv b' v0 v1 B'=>?_))) ?_;{obtain⟨m,em,m0,m1⟩:=qaB5 (P:=λv=>0<=v/\v<=64) v0 v1 (x:=20) (y:=64) (z:=64) (w:=40) ∅ ∅ ∅ ∅;exact qa0 em (M _ ⟨b',m,rfl,B',m0,m1⟩)};rintro J ⟨b,m,rfl,B,m0,m1⟩;refine qc3 (λJ=>∃b f,J=[D.hole u,b,.bl full,.int r,.u,kL f,.u,.u,.u,.u,.u,.u,.u,.u,.u]/\O1 I b/\f.Nodup/\(∀k∈f,An k)/\f≠[]) (λK M=>?_) ?_;{refine qe1 (qt5 (qax3 (x:=b) (y:=.int m) (qo1 rfl B.known) rfl (qo1 rfl B.known) ⟨b,m,I,rfl,B,m0,m1,λb2 f B2 nd hk a5=>?_⟩));refine qa0 (a:=[D.hole u,b2,.bl full,.int r,.u,.u,.u,.u,.u,.u,.u,.u,.u,.u,.u]) rfl (qa0 (a:=D.l false (Op (f++[1000000000000000000]))) ?_ (M _ ⟨b2,_,rfl,B2,?_,?_,?_⟩));{rw[<-qan1];exact qi1 ⟨qi9 _,rfl,by rw[qm3];show _+1<=1000000;lia⟩};{refine zBq.mpr ⟨nd,(by simp),λx W y hy e=>?_⟩;have:=hk x W;rw[e,zAf.mp hy] at this;lia};{intro x W;rcases zAb.mp W with h|h;{have:=hk x h;exact⟨⋯,⋯⟩};rw[zAf.mp h];exact⟨∅,∅⟩};simp};rintro J ⟨b,f,rfl,B,a7,hk,ne⟩;refine qb0 [D.hole u,b,.bl full,.int r,.u,kL (f.take 64),.u,.u,.u,.u,.u,.u,.u,.u,.u] (λK M=>qt8 (d:=kL (f.take 64)) (qaT1 (z:=false) ∅) M) ?_;have a5:(f.take 64).length<=64:=by rw[zBs];lia
 replace ne:f.take 64≠[]:=λh=>ne (by cases f with|nil=>rfl|cons=>cases h);replace hk:∀k∈f.take 64,An k:=λx W=>hk x (Mh W);replace a7:=a7.sublist (Lw 64 f);generalize f.take 64=f at *
 refine qc3 (λJ=>∃b j,J=[D.hole u,b,.bl full,.int r,.u,kL f,.l true (Ot j),.u,.u,.u,.u,.u,.u,.u,.u]/\O1 I b/\qt3 j) (λK M=>?_) ?_;{refine qe1 (Gb (qax3 (x:=b) (y:=kL f) (qo1 rfl B.known) rfl (qo1 rfl B.known) ⟨b,false,f,I,rfl,B,a7,hk,a5,λb' j B' Gp=>?_⟩));refine qa0 (a:=[D.hole u,b',.bl full,.int r,.u,kL f,.u,.u,.u,.u,.u,.u,.u,.u,.u]) rfl ?_;have e:(D.l false (Ot j)).fz=.l true (Ot j):=congrArg (D.l true) (qao8 j);rw[e];exact M _ ⟨b',j,rfl,B',Gp⟩};rintro J ⟨b,j,rfl,B,Gp⟩;have G0:qt3 []:=⟨zBf _,Mr,nofun⟩;refine qb0 [D.hole u,b,.bl full,.int r,.u,kL f,.l true (Ot j),.l false (Ot j),.u,.u,.u,.u,.u,.u,.u] (λK M=>qt8 (d:=.l false (Ot j)) (show Hl (.l true (Ot j))=_ from qaA6) M) ?_;refine qb0 [D.hole u,b,.bl full,.int r,.u,kL f,.l true (Ot j),.l false (Ot j),.l false [growD false a.C5 a.C6 a.C4 4 j (λ_=>none) [] 0],.u,.u,.u,.u,.u,.u] (λK M=>qe1 (qG2 (qg5 (qP3 (qb9 (x:=.l false (Ot j)) rfl (qb3 (qa0 (a:=D.l false (Ot j)) rfl ⟨false,j,rfl,Gp,rfl,qa0 (a:=growD false a.C5 a.C6 a.C4 4 j (λ_=>none) [] 0) rfl (qa0 (a:=[D.hole u,b,.bl full,.int r,.u,kL f,.l true (Ot j),.l false (Ot j),.u,.u,.u,.u,.u,.u,.u]) rfl (qb3 ⟨by show 1<=1000000;decide,M⟩))⟩))))))) ?_;refine qm4 false (Af rfl rfl ne_pr) nofun λ_=>?_
 refine qb0 [D.hole u,b,.bl full,.int r,.u,kL f,.l true (Ot j),.l false [],.l false [growD false a.C5 a.C6 a.C4 4 j (λ_=>none) [] 0],.u,.u,.u,.u,.u,.u] (λK M=>qg3 (qaG9 rfl (qb3 (qa0 (a:=Ot j) rfl (qa0 (a:=([],D.non)) rfl M))))) ?_;refine qb0 [D.hole u,b,.bl full,.int r,.u,kL f,.l true (Ot j),.l false [],.l false [growD false a.C5 a.C6 a.C4 4 j (λ_=>none) [] 0,growD false a.C5 a.C6 a.C4 4 [] (λ_=>none) [] 0],.u,.u,.u,.u,.u,.u] (λK M=>qg3 (qaG9 rfl (qg5 (qP3 (qb9 (x:=.l false []) rfl (qb3 (qa0 (a:=D.l false []) rfl ⟨false,[],rfl,G0,rfl,qa0 (a:=growD false a.C5 a.C6 a.C4 4 [] (λ_=>none) [] 0) rfl (qa0 (a:=[D.hole u,b,.bl full,.int r,.u,kL f,.l true (Ot j),.l false [],.l false [growD false a.C5 a.C6 a.C4 4 j (λ_=>none) [] 0],.u,.u,.u,.u,.u,.u]) rfl (qb3 (qa0 (a:=[growD false a.C5 a.C6 a.C4 4 j (λ_=>none) [] 0]) rfl (qa0 (a:=([growD false a.C5 a.C6 a.C4 4 j (λ_=>none) [] 0,growD false a.C5 a.C6 a.C4 4 [] (λ_=>none) [] 0],D.non)) rfl M))))⟩))))))) ?_;refine qb0 [D.hole u,b,.bl full,.int r,.u,kL f,.l true (Ot j),.l false [.q [.int 3,.int 3]],.l false [growD false a.C5 a.C6 a.C4 4 j (λ_=>none) [] 0,growD false a.C5 a.C6 a.C4 4 [] (λ_=>none) [] 0],.u,.u,.u,.u,.u,.u] (λK M=>qg3 (qac7 (ys:=[]) (d:=.q [.int 3,.int 3]) rfl rfl ∅ M)) ?_;refine qb0 [D.hole u,b,.bl full,.int r,.u,kL f,.l true (Ot j),.l false [.q [.int 3,.int 3]],.l false [growD false a.C5 a.C6 a.C4 4 j (λ_=>none) [] 0,growD false a.C5 a.C6 a.C4 4 [] (λ_=>none) [] 0],.l false [.l false [Om 4 true j,.l false [],.int 0],.l false [Om 4 true [],.l false [],.int 0]],.u,.u,.u,.u,.u] (λK M=>qe1 (qG2 (qg5 (qG2 (qc0 (y:=Om 4 true j) rfl (qc0 (y:=.l false []) rfl (qc0 (y:=.int 0) rfl (qb3 ⟨lt3,qg5 (qG2 (qg5 (Gb (qar5 (qc0 (y:=.int 4) rfl (qc0 (y:=.bl true) rfl (qc0 (y:=.l false []) rfl (qb3 ⟨lt3,qc0 (y:=.l false []) rfl (qc0 (y:=.int 0) rfl (qb3 ⟨lt3,qb3 ⟨lt2,M⟩⟩))⟩))))))))⟩)))))))) ?_;refine qb0 [D.hole u,b,.bl full,.int r,.u,kL f,.l true (Ot j),.l false [.q [.int 3,.int 3]],.l false [growD false a.C5 a.C6 a.C4 4 j (λ_=>none) [] 0,growD false a.C5 a.C6 a.C4 4 [] (λ_=>none) [] 0],.l false [.l false [Om 4 true j,.l false [],.int 0],.l false [Om 4 true [],.l false [],.int 0]],.l false [],.u,.u,.u,.u] (λK M=>M) ?_;have b3:GS.Ok f 0 ⟨4,j,λ_=>none,[],0,[]⟩:=⟨.inl rfl,Gp,nofun,Kept.none (by show 0<(4:Int).toNat;decide) (Eh (by show (1:Int)<=4;decide)),zA2 _⟩;have b4:GS.Ok f 0 ⟨4,[],λ_=>none,[],0,[]⟩:=⟨.inl rfl,G0,nofun,Kept.none (by show 0<(4:Int).toNat;decide) (Eh (by show (1:Int)<=4;decide)),zA2 _⟩;have b5:∀x:GS,x.Ok f 90->x.S.length<=64:=λx W=>by have:=W.kp.len;have:=W.pn;unfold Be at this;lia
 have step:∀(x:GS)(i:Nat)(o O:Int)(g':Nat->Option Int)(U:Ds)(h':Int),x.Ok f i->o∈f->Be O->Kept O.toNat true (On O x.ps) g' (stepS x.S o)->U.length<=x.dn.length+1->GS.Ok f (i+1) ⟨O,x.ps,g',U,h',stepS x.S o⟩:=λx i o O g' U h' W hk p' K' l'=>⟨p',W.G,λk h=>by unfold stepS at h;split at h;{exact W.sub k (List.mem_of_mem_erase h)};rcases zAb.mp h with h|h;{exact W.sub k h};rw[zAf.mp h];exact hk,K',zAi l' (zBv W.dl)⟩;refine qc3 (λJ=>∃(b:D)(x y:GS)(L:List El)(a0 Z N:D),J=(qr4 u full r f j a L b .u (.l false [gS a x,gS a y]) (.l false [sS x,sS y]) a0 Z .u N)/\x.Ok f 90/\y.Ok f 90/\L.length<=90) (λK M=>qaJ7 (qg5 (qf0 (ds:=[D.hole u,b,.bl full,.int r,.u,kL f,.l true (Ot j),.l false [.q [.int 3,.int 3]],.l false [growD false a.C5 a.C6 a.C4 4 j (λ_=>none) [] 0,growD false a.C5 a.C6 a.C4 4 [] (λ_=>none) [] 0],.l false [.l false [Om 4 true j,.l false [],.int 0],.l false [Om 4 true [],.l false [],.int 0]],.l false [],.u,.u,.u,.u]) rfl B rfl ∅ ∅ λv b' v0 v1 B'=>qb3 (qa0 (a:=v) rfl ⟨Iz v0 ⋯,?_⟩)))) ?_
 .refine qh6 (λi J=>∃(b:D)(x y:GS)(L:List El)(a0 Z N:D),J=(qr4 u full r f j a L b .u (.l false [gS a x,gS a y]) (.l false [sS x,sS y]) a0 Z .u N)/\O1 I b/\x.Ok f i/\y.Ok f i/\L.length<=i) _ 0 _ ⟨b',⟨4,j,λ_=>none,[],0,[]⟩,⟨4,[],λ_=>none,[],0,[]⟩,[],_,_,_,rfl,B',b3,b4,zA2 _⟩ ?_ ?_
  .rintro i y hy J ⟨b,x0,y0,L,a0,Z,N,rfl,B,b6,b7,hL⟩ K2 a2;rw[zAk] at b6 b7 hL a2;have hi:=(zA5.mp hy).1;rw[qH9] at hi;obtain⟨t,_,rfl⟩:=zAx.mp (zB8 hy);generalize (0:Int)+(t:Int)=t;refine qu9 (As (qr4 u full r f j a L b .u (.l false [gS a x0,gS a y0]) (.l false [sS x0,sS y0]) (.int t) Z .u N) rfl ?_);refine qc3 (λJ=>∃b k,J=(qr4 u full r f j a L b .u (.l false [gS a x0,gS a y0]) (.l false [sS x0,sS y0]) (.int t) (.int (b01 k)) .u N)/\O1 I b) (λK M=>qe1 (qt5 (qf0 (ds:=[D.hole u,b,.bl full,.int r,.u,kL f,.l true (Ot j),.l false [.q [.int 3,.int 3]],.l false [gS a x0,gS a y0],.l false [sS x0,sS y0],.l false (Ni (eD a) L),.int t,Z,.u,N]) (m:=4) rfl B rfl ∅ ∅ λv b' v0 v1 B'=>qa0 (a:=D.int (v/3)) (I8 ∅ ∅) (M _ ⟨b',decide (v=3),?_,B'⟩)))) ?_
   .have e:v/3=b01 (decide (v=3)):=by by_cases h:v=3;{subst h;rfl};rw[zB6 h];show v/3=0;lia
    rw[e];rfl
   rintro J ⟨b,k,rfl,B⟩;obtain⟨X,Y,rfl,rfl⟩:∃X Y:GS,x0=(bif k then Y else X)/\y0=(bif k then X else Y):=by cases k;{exact⟨x0,y0,rfl,rfl⟩};exact⟨y0,x0,rfl,rfl⟩
   have hX:X.Ok f i:=by cases k<;>assumption
   have hY:Y.Ok f i:=by cases k<;>assumption
   have lX:X.S.length<=64:=b5 X ⟨hX.pn,hX.G,hX.sub,hX.kp,by have:=hX.dl;lia⟩;have nX:∀x∈X.S,An x:=λx h=>hk x (hX.sub x h);have fin:∀(b:D)(X':GS)(L':List El)(o:D)(w:V),O1 I b->GS.Ok f (i+1) X'->L'.length<=i+1->backN 13 9 [k.toNat] w K2 [D.hole u,b,.bl full,.int r,.u,kL f,.l true (Ot j),.l false [.q [.int 3,.int 3]],.l false (two k (gS a X') (gS a Y)),.l false (two k (.hole w) (sS Y)),.l false (Ni (eD a) L'),.int t,.int (b01 k),sS X',o]:=λb X' L' o w B' a3 a9=>⟨sS X',rfl,(λz=>nomatch z),by cases k<;>rfl,by cases k;{exact a2 _ ⟨b,X',Y,L',_,_,_,rfl,B',a3,⟨hY.pn,hY.G,hY.sub,hY.kp,Nat.le_succ_of_le hY.dl⟩,a9⟩};exact a2 _ ⟨b,Y,X',L',_,_,_,rfl,B',⟨hY.pn,hY.G,hY.sub,hY.kp,Nat.le_succ_of_le hY.dl⟩,a3,a9⟩⟩;refine qa0 (a:=(9,[k.toNat])) (by cases k<;>rfl) ⟨by show 9≠13;decide,sS X,by cases k<;>rfl,(λz=>nomatch z),λw=>?_⟩;refine As (qr4 u full r f j a L b .u (.l false (two k (gS a X) (gS a Y))) (.l false (two k (.hole w) (sS Y))) (.int t) (.int (b01 k)) (sS X) N) (by cases k<;>rfl) ?_;refine qc3 (λJ=>∃b o,J=(qr4 u full r f j a L b .u (.l false (two k (gS a X) (gS a Y))) (.l false (two k (.hole w) (sS Y))) (.int t) (.int (b01 k)) (sS X) (.int o))/\O1 I b/\o∈f) (λK M=>qe1 (qe0 (qb9 (x:=b) (qo1 rfl B.known) (qb9 (x:=kL f) rfl (qa0 (a:=(13,[1])) rfl (qa0 (a:=D.l false (Op X.S)) rfl ⟨rfl,λw2=>qb9 (x:=.int t) rfl (qb9 (x:=.int r) rfl (qb3 (qa0 (a:=D.int r) rfl (qa0 (a:=D.int t) rfl (qa0 (a:=D.l false (Op f)) rfl (qa0 (a:=b) (qo1 rfl B.known) ⟨I,b,false,f,X.S,t,r,rfl,B,ne,a5,lX,hX.sub,b1,λb' o B' a1=>qa0 (a:=(qr4 u full r f j a L b' .u (.l false (two k (gS a X) (gS a Y))) (.l false (two k (.hole w) (sS Y))) (.int t) (.int (b01 k)) (sS X) N)) ?_ (M _ ⟨b',o,rfl,B',a1⟩)⟩))))))⟩)))))) ?_;{rw[qaq3,qaq3,qc9 rfl];rfl};rintro J ⟨b,o,rfl,B,a1⟩;refine qbb6 (show ttNot _ _ _ _ from(show ttE _ _ _ _ from qe0 (qa0 (a:=(8,[k.toNat])) (by cases k<;>rfl) (qa0 (a:=gS a X) (by cases k<;>rfl) ⟨rfl,λw2=>qb9 (x:=sS X) rfl (qb9 (x:=.int o) rfl (qb3 (qa0 (a:=D.int o) rfl (qa0 (a:=sS X) rfl ⟨X.n,X.ps,X.g,X.dn,X.h,X.S,o,rfl,hX.pn,hX.G,hk o a1,nX,hX.kp,by have:=hX.dl;lia,λhn=>?_,λO g' U h' p' K' l'=>?_⟩))))⟩))))
   .have nd:=hX.kp.h.1;have:=(zBq.mpr ⟨nd,(by simp),λx W y hy e=>hn (by rw[<-zAf.mp hy,<-e];exact W)⟩:(X.S++[o]).Nodup).length_le_of_subset (l₂:=f) λx W=>by rcases zAb.mp W with h|h;{exact hX.sub x h};rw[zAf.mp h];exact a1
    rw[zAd] at this;exact zAi this a5
   have a3:=step X i o O g' U h' hX a1 p' K' l';have b0:∀x∈stepS X.S o,An x:=λx h=>hk x (a3.sub x h);generalize stepS X.S o=S' at *
   refine qa0 (a:=(qr4 u full r f j a L b .u (.l false (two k (growD false a.C5 a.C6 a.C4 O X.ps g' U h') (gS a Y))) (.l false (two k (.hole w) (sS Y))) (.int t) (.int (b01 k)) (.l false [Om O true X.ps,kL S',.int h']) (.int o))) ?_ (qa0 (a:=true) rfl (Gs ∅ ?_));{cases k<;>(show Al (.pl 8 _ w2::[.sl 13,.sl 14]) (_::[_,_]) _=_;rw[qc9 rfl];rfl)};refine qh0 (full&&false) (λQ q=>ql0 full false (λQ q=>qi3 rfl q) (λ_ Q q=>(show ttNot _ _ _ _ from(show ttE _ _ _ _ from qe0 (qa0 (a:=(8,[k.toNat])) (by cases k<;>rfl) (qa0 (a:=growD false a.C5 a.C6 a.C4 O X.ps g' U h') (by cases k<;>rfl) ⟨rfl,λw2=>qd3 (y:=Om O true X.ps) rfl rfl (qa0 (a:=(13,[1])) rfl (qa0 (a:=D.l false (Op S')) rfl ⟨rfl,λw3=>qd3 (y:=.int h') rfl rfl (qb3 ⟨O,X.ps,g',U,h',S',rfl,p',hX.G,b0,K',qa0 (a:=(qr4 u full r f j a L b .u (.l false (two k (growD false a.C5 a.C6 a.C4 O X.ps g' U h') (gS a Y))) (.l false (two k (.hole w) (sS Y))) (.int t) (.int (b01 k)) (.l false [Om O true X.ps,kL S',.int h']) (.int o))) ?_ (qa0 (a:=true) rfl q)⟩)⟩))⟩))))) q) (λh=>by cases full<;>cases h) λ_=>?_;{cases k<;>(show Al (.pl 8 _ w2::[.no,.pl 13 [1] w3,.no]) (_::[_,_,_]) _=_;rw[qc9 rfl,qX4,qc9 rfl];rfl)};refine if_v (b:=t%8==3) (Af (x:=.int (t%8)) (y:=.int 3) (Af (x:=.int t) (y:=.int 8) rfl rfl (qau1 ∅)) rfl rfl) (λ_=>?_) λ_=>fin b ⟨O,X.ps,g',U,h',S'⟩ L (.int o) w B a3 (Nat.le_succ_of_le hL);have h4:4<=O/\O<=64:=by unfold Be at p';lia
   refine qg3 (qaG9 rfl (qg5 (Gb (qar5 (qg5 (qD5 (i:=8) (p:=[k.toNat]) (d:=growD false a.C5 a.C6 a.C4 O X.ps g' U h') (by cases k<;>rfl) (by cases k<;>rfl) (qg8 rfl) λw2=>qb3 ⟨O,X.ps,g',U,h',S',rfl,⋯,h4.2,hX.G,b0,K',qa0 (a:=(qr4 u full r f j a L b .u (.l false (two k (growD false a.C5 a.C6 a.C4 O X.ps g' U h') (gS a Y))) (.l false (two k (.hole w) (sS Y))) (.int t) (.int (b01 k)) (.l false [Om O true X.ps,kL S',.int h']) (.int o))) ?_ ?_⟩))))));{cases k<;>(show Al (.pl 8 _ w2::[]) (_::[]) _=_;rw[qc9 rfl];rfl)};refine qg5 (qe0 (qd3 (y:=Om O true X.ps) rfl rfl (qa0 (a:=(13,[1])) rfl (qa0 (a:=D.l false (Op S')) rfl ⟨rfl,λw3=>qb3 ⟨O,true,X.ps,false,S',rfl,⋯,h4.2,hX.G.nd,K'.h.1,by have:=K'.len;lia,λ⟨q,c⟩=>absurd c (K'.no_crowd q),λ_ g2 K2=>qa0 (a:=(qr4 u full r f j a L b .u (.l false (two k (growD false a.C5 a.C6 a.C4 O X.ps g' U h') (gS a Y))) (.l false (two k (.hole w) (sS Y))) (.int t) (.int (b01 k)) (.l false [Om O true X.ps,kL S',.int h']) (.int o))) ?_ ?_⟩⟩))));{show Al (.no::_) (_::[_]) _=_;rw[qX4,qc9 rfl];rfl};rw[show rL O g2=rL O g' from congrArg (D.l false) (qi0 (K2.same K' λ_=>Iff.rfl))];refine qb3 ⟨lt2,qb3 (qa0 (a:=L.map (eD a)) rfl (qa0 (a:=((L++[(O,X.ps,g')]).map (eD a),D.non)) ?_ (fin b ⟨O,X.ps,g',U,h',S'⟩ (L++[(O,X.ps,g')]) (.int o) w B a3 (by rw[zAd];exact zBv hL))))⟩;rw[zBh];refine(if_pos (by rw[zAa];unfold big;lia)).trans ?_;show some (L.map (eD a)++[D.q [(rA a O true X.ps g' []).fz,.l true (D.fzs (Os O.toNat g'))]],D.non)=_;rw[qbc2,qaJ6];rfl
  rintro J ⟨b,x,y,L,a0,Z,N,rfl,B,W,hy,hL⟩;rw[qH9,zAk] at W hy hL;exact M _ ⟨b,x,y,L,a0,Z,N,rfl,⟨W.pn,W.G,W.sub,W.kp,by have:=W.dl;lia⟩,⟨hy.pn,hy.G,hy.sub,hy.kp,by have:=hy.dl;lia⟩,⋯⟩
 rintro J ⟨b,x,y,L,a0,Z,N,rfl,W,hy,hL⟩;have im:=qaB0 (a:=a) L;refine qh0 false (λQ q=>qaN8 (qa0 (a:=D.l false (L.map (eD a))) rfl (qa0 (a:=L.map (eD a)) rfl ⟨im,?_⟩))) nofun λ_=>?_
 {refine qj7 (λι=>∃d1 d2,ι=[d1,d2]) dueE _ [] _ (by show 0+_<1000000;rw[zAa];lia) ⟨_,_,rfl⟩ ?_ ?_;{rintro y hy ι a6 ⟨d1,d2,rfl⟩ R hR a4;obtain⟨e,_,rfl⟩:=zAx.mp hy;have this:R (a6++[.l true (Os e.1.toNat e.2.2)]) _:=hR [Oq true a.C6 a.C4 e.1 true e.2.1 e.2.2 [],.l true (Os e.1.toNat e.2.2)] ⟨_,_,rfl⟩;refine qM4 (Kh (Dm rfl (Gb (qo5 (p:=Oq true a.C6 a.C4 e.1 true e.2.1 e.2.2 []) (d:=.l false (Os e.1.toNat e.2.2)) rfl (qc6 rfl) ⟨true,_,true,_,_,[],rfl,rfl⟩ rfl ⟨a4,?_⟩))));show R (a6++[.l true (D.fzs (Os e.1.toNat e.2.2))]) _;rw[qaJ6];exact this};rintro ι ⟨d1,d2,rfl⟩;rw[zB4];refine qa0 (a:=D.l false (L.map (eD a))) rfl (qa0 (a:=L.map (eD a)) rfl ⟨im,?_⟩);refine qj7 (λι=>∃d1 d2,ι=[d1,d2]) dueE _ [] _ (by show 0+_<1000000;rw[zAa];lia) ⟨_,_,rfl⟩ ?_ ?_;{rintro y hy ι a6 ⟨d1,d2,rfl⟩ R hR a4;obtain⟨e,_,rfl⟩:=zAx.mp hy;have this:R (a6++[.l true (Os e.1.toNat e.2.2)]) _:=hR [Oq true a.C6 a.C4 e.1 true e.2.1 e.2.2 [],.l true (Os e.1.toNat e.2.2)] ⟨_,_,rfl⟩;exact qM4 (Kh (Dm rfl (qq0 (d:=.l true (Os e.1.toNat e.2.2)) rfl rfl ⟨a4,this⟩)))};rintro ι ⟨d1,d2,rfl⟩;rw[zB4];exact qa0 (a:=D.bl false) ne_el (qa0 (a:=false) rfl q)};refine qc3 (λ_=>True) (λK M=>qaa3 (n:=2) rfl ∅ ?_) λ_ _=>qf5 (.bl true) rfl rfl;refine qh6 (λ_ J=>∃Z,J=(qr4 u full r f j a L b .u (.l false [gS a x,gS a y]) (.l false [sS x,sS y]) a0 Z .u N)) _ 0 _ ⟨_,rfl⟩ ?_ λ_ _=>M _ trivial;rintro i c hc J ⟨Z,rfl⟩ K2 a2;obtain⟨k,rfl⟩:∃k:Bool,c=.int (b01 k):=by rcases i with _|_|i;{exact⟨false,(Nv hc).symm⟩};{exact⟨true,(Nv hc).symm⟩};cases hc
 refine qu9 (As (qr4 u full r f j a L b .u (.l false [gS a x,gS a y]) (.l false [sS x,sS y]) a0 (.int (b01 k)) .u N) rfl ?_);obtain⟨X,Y,rfl,rfl⟩:∃X Y:GS,x=(bif k then Y else X)/\y=(bif k then X else Y):=by cases k;{exact⟨x,y,rfl,rfl⟩};exact⟨y,x,rfl,rfl⟩
 have hX:X.Ok f 90:=by cases k<;>assumption
 refine qa0 (a:=(9,[k.toNat])) (by cases k<;>rfl) ⟨by show 9≠13;decide,sS X,by cases k<;>rfl,(λz=>nomatch z),λw=>?_⟩;refine As (qr4 u full r f j a L b .u (.l false (two k (gS a X) (gS a Y))) (.l false (two k (.hole w) (sS Y))) a0 (.int (b01 k)) (sS X) N) (by cases k<;>rfl) ?_;refine Kf false (λQ q=>(show ttNot _ _ _ _ from(show ttE _ _ _ _ from qe0 (qa0 (a:=(8,[k.toNat])) (by cases k<;>rfl) (qa0 (a:=gS a X) (by cases k<;>rfl) ⟨rfl,λw2=>qd3 (y:=Om X.n true X.ps) rfl rfl (qa0 (a:=(13,[1])) rfl (qa0 (a:=D.l false (Op X.S)) rfl ⟨rfl,λw3=>qd3 (y:=.int X.h) rfl rfl (qb3 ⟨X.n,X.ps,X.g,X.dn,X.h,X.S,rfl,hX.pn,hX.G,λx h=>hk x (hX.sub x h),hX.kp,qa0 (a:=(qr4 u full r f j a L b .u (.l false (two k (gS a X) (gS a Y))) (.l false (two k (.hole w) (sS Y))) a0 (.int (b01 k)) (sS X) N)) ?_ (qa0 (a:=true) rfl q)⟩)⟩))⟩))))) nofun λ_=>?_
 {cases k<;>(show Al (.pl 8 _ w2::[.no,.pl 13 [1] w3,.no]) (_::[_,_,_]) _=_;rw[qc9 rfl,qX4,qc9 rfl];rfl)};refine⟨sS X,rfl,(λz=>nomatch z),by cases k<;>rfl,?_⟩;cases k;{exact a2 _ ⟨_,rfl⟩};exact a2 _ ⟨_,rfl⟩
end
theorem dfX{x:Str}{f:γ}{m:Array (Option V')}{kV e i d j:V'}(X:K.In h)(G:h.Ns Ku mg)(a:W.nsIn K Ku x=some (some (.ref f)))(l:K.lookup f=some ⟨oc,n,.func (W.fnOf x qual (qg4 st) (qd0 st) (qa2 st) .none kV e i g d j),m⟩)(c:W.codeIn K d qual=true)(k:W.keepIn K (.ref f)=true)(b:∀(kV e i:V')(g:Option γ)(d j:V')(us:List V'),us.length=ps.length->bindArgs (W.fnOf x qual (qg4 st) (qd0 st) (qa2 st) .none kV e i g d j) ⟨us,[]⟩=pure (ps.zip us)):Df K mg x qual st f (W.fnOf x qual (qg4 st) (qd0 st) (qa2 st) .none kV e i g d j) ps:=dfmk l c k (W.mg_of X G a) b
theorem qbe4{l:W.OpenLaw}{w:La}{K:Nx}{mg:Str->Option V'}{fa f0 f1 f2 f3 f4 f5 f6 f7 f8 f9 f g h i j n o p q r t u x y z A c B C D E F G H I J L d M N O P Q R S T U V X Y Z a0 a1 a2 a3 a4 a5 a6 i5 C0 C1 C2:γ}{d0 d1 d2 d3 d4 d5 d6 d7 d8 d9 a7 a8 a9 b0 b1 b2 b3 b4 b5 b6 b7 b8 b9 c0 c1 c2 c3 c4 c5 c6 c7 c8 c9 e0 e1 e3 e4 e5 e6 e7 e8 e9 g0 g9 h0 h1 h2 h3 h4 h5 h6 h7 h8 h9 i0 i1 i2 i3 b:ε}{Ck Cq Cp Cj:Tok}(i6:mg "law"=some (.ref fa))(j0:Df K mg "_wall" "_wall" qay3 f0 d0 ["k"])(j1:Df K mg "is_whole" "is_whole" qB3 f1 d1 ["thing"])(j2:Df K mg "is_whole_within" "is_whole_within" qh1 f2 d2 ["thing", "least", "most"])(j3:Df K mg "is_number" "is_number" qw6 f3 d3 ["thing"])(j4:Df K mg "are_parted" "are_parted" qs0 f4 d4 ["numbers"])(j5:Df K mg "is_number_pair" "is_number_pair" qi6 f5 d5 ["thing"])(j6:Df K mg "is_home_list" "is_home_list" ql3 f6 d6 ["thing"])(j7:Md K C0 "__init__" "Plan.__init__" qx1 f7 d7 ["self", "rooms", "wraps", "homes"])(j8:Md K C0 "homes_told" "Plan.homes_told" qh2 f8 d8 ["self"])(j9:Md K C0 "is_room" "Plan.is_room" ql5 f9 d9 ["self", "thing"])(i7:Md K C0 "home" "Plan.home" qx2 f a7 ["self", "key"])(i8:Md K C0 "far" "Plan.far" qC0 g a8 ["self", "key", "room"])(i9:Md K C0 "goes_ahead" "Plan.goes_ahead" qh3 h a9 ["self", "room", "one", "other"])(k0:Df K mg "room_ahead" "room_ahead" qr9 i b0 ["plan", "room"])(k1:Df K mg "word_by_room_ahead" "word_by_room_ahead" qe4 j b1 ["plan", "rooms", "room"])(k2:Df K mg "word_due" "word_due" qB2 n b2 ["plan", "rooms", "room"])(k3:Df K mg "is_turned" "is_turned" qw5 o b3 ["plan", "rooms"])(k4:Df K mg "fault_of" "fault_of" qB4 p b4 ["plan", "rooms"])(k5:Df K mg "are_crowd" "are_crowd" qw9 q b5 ["plan", "keys", "room"])(k6:Df K mg "crowded_room" "crowded_room" ql4 r b6 ["plan", "keys"])(k7:Df K mg "refuse_crowd" "refuse_crowd" ql2 t b7 ["plan", "keys"])(k8:Df K mg "bring_in" "bring_in" qB5 u b8 ["plan", "rooms", "key"])(k9:Df K mg "house_all" "house_all" qw7 x b9 ["plan", "keys"])(l0:Df K mg "room_behind" "room_behind" qn7 y c0 ["plan", "room"])(l1:Df K mg "is_drawn_from" "is_drawn_from" qj8 z c1 ["plan", "rooms", "room"])(l2:Df K mg "draw_back" "draw_back" qw8 A c2 ["plan", "rooms", "room"])(l3:MdN K C1 "__init__" "Row.__init__" qB9 c c3 ["self", "plan", "rooms"])(l4:Md K C1 "rooms_held" "Row.rooms_held" qi7 B c4 ["self"])(l5:Md K C1 "keys_held" "Row.keys_held" qj9 C c5 ["self"])(l6:Md K C1 "many" "Row.many" qB8 D c6 ["self"])(l7:Md K C1 "room_of" "Row.room_of" qn8 E c7 ["self", "key"])(l8:Md K C1 "put" "Row.put" qJ7 F c8 ["self", "key"])(l9:Md K C1 "take" "Row.take" qB7 G c9 ["self", "key"])(m0:Md K C1 "undo" "Row.undo" qB6 H e0 ["self"])(m1:Md K C1 "deeds" "Row.deeds" qx0 I e1 ["self"])(m2:Df K mg "row_of_keys" "row_of_keys" qn6 J e3 ["plan", "keys"])(m3:Df K mg "row_sized" "row_sized" qw4 L e4 ["row", "rooms"])(m4:Md K C2 "__init__" "Growing.__init__" ql7 d e5 ["self", "homes"])(m5:Md K C2 "house_anew" "Growing.house_anew" qe5 M e6 ["self", "rooms"])(m6:Md K C2 "put" "Growing.put" qo0 N e7 ["self", "key"])(m7:Md K C2 "take" "Growing.take" ql6 O e8 ["self", "key"])(m8:Md K C2 "rooms_now" "Growing.rooms_now" qf3 P e9 ["self"])(m9:Md K C2 "row_now" "Growing.row_now" qh4 Q g0 ["self"])(n0:Md K C2 "anew" "Growing.anew" ql8 R g9 ["self"])(n1:Df K mg "_law_whole" "_law_whole" qU3 S h0 ["_law_found"])(n2:Df K mg "_law_bag" "_law_bag" qaD9 T h1 ["_law_script"])(n3:Df K mg "_law_take" "_law_take" qai6 U h2 ["_law_bag_here", "_law_many"])(n4:Df K mg "_law_home" "_law_home" qai8 V h3 ["_law_plan", "_law_key"])(n5:Df K mg "_law_passing" "_law_passing" qC2 X h4 ["_law_plan", "_law_keys_here"])(n6:Df K mg "_law_housed" "_law_housed" qK1 Y h5 ["_law_plan", "_law_keys_here"])(n7:Df K mg "_law_keys" "_law_keys" qai7 Z h6 ["_law_bag_here", "_law_many"])(n8:Df K mg "_law_told_homes" "_law_told_homes" qn9 a0 h7 ["_law_bag_here", "_law_keys_here"])(n9:Df K mg "_law_grown" "_law_grown" qU4 a1 h8 ["_law_size", "_law_many"])(o0:Df K mg "_law_shrunk" "_law_shrunk" qJ8 a2 h9 ["_law_size", "_law_many"])(o1:Df K mg "_law_is_row" "_law_is_row" qK0 a3 i0 ["_law_row", "_law_plan", "_law_due"])(o2:Df K mg "_law_alike" "_law_alike" qU5 a4 i1 ["_law_row", "_law_plan", "_law_there", "_law_moved"])(o3:Df K mg "_law_stepped" "_law_stepped" qC1 a5 i2 ["_law_row", "_law_state", "_law_key"])(o4:Df K mg "_law_picked" "_law_picked" qJ9 a6 i3 ["_law_bag_here", "_law_keys_here", "_law_there", "_law_turn", "_law_phases"])(i4:Df K mg "law" "law" Gw i5 b ["_law_script"])(o5:mg "MOST_NUMBER"=some (.int 1000000000000000000 Ck))(o6:mg "MOST_ROOMS"=some (.int 64 Cq))(o7:mg "MOST_HOMES"=some (.int 64 Cp))(o8:mg "LEAST_ROOMS"=some (.int 4 Cj))(o9:mg "abs"=none)(p0:mg "all"=none)(p2:mg "bool"=none)(p3:mg "dict"=none)(p4:mg "enumerate"=none)(p5:mg "int"=none)(p6:mg "isinstance"=none)(p7:mg "len"=none)(p8:mg "list"=none)(p9:mg "max"=none)(q0:mg "range"=none)(q1:mg "set"=none)(q3:mg "sorted"=none)(q4:mg "tuple"=none)(q5:Cl K mg "Plan" C0)(q6:Mk K C0 f7)(q7:qg1 K C0 "rooms")(q8:qg1 K C0 "wraps")(q9:qg1 K C0 "homes")(r0:qg1 K C0 "home_numbers")(r1:IsO K C0)(r2:Cl K mg "Row" C1)(r3:Mk K C1 c)(r4:qg1 K C1 "plan")(r5:qg1 K C1 "held")(r6:qg1 K C1 "done")(r7:IsO K C1)(r8:Cl K mg "Growing" C2)(r9:Mk K C2 d)(s0:qg1 K C2 "row")(s1:qg1 K C2 "housed_anew")(hb:∀(s:δ)(v:V'),BindsTo s b ⟨[v],[]⟩ [("_law_script",v)]):∃fd:ε,(∀(s:δ)(v:V'),BindsTo s fd ⟨[v],[]⟩ [("_law_script",v)])/\∀base:Heap,K.In base->base.Ns Ku mg->Du l.prog w K mg base (CX1 l.prog w) 18 fa fd ["_law_script"] (Hj K):=by have e:=i6.symm.trans i4.m;injection e with e;injection e with e;subst e;exact⟨b,hb,λbase _ _=>qaZ3 (a:=⟨f0,d0,f1,d1,f2,d2,f3,d3,f4,d4,f5,d5,f6,d6,f7,d7,f8,d8,f9,d9,f,a7,g,a8,h,a9,i,b0,j,b1,n,b2,o,b3,p,b4,q,b5,r,b6,t,b7,u,b8,x,b9,y,c0,z,c1,A,c2,c,c3,B,c4,C,c5,D,c6,E,c7,F,c8,G,c9,H,e0,I,e1,J,e3,L,e4,d,e5,M,e6,N,e7,O,e8,P,e9,Q,g0,R,g9,S,h0,T,h1,U,h2,V,h3,X,h4,Y,h5,Z,h6,a0,h7,a1,h8,a2,h9,a3,i0,a4,i1,a5,i2,a6,i3,fa,b,Ck,Cq,Cp,Cj,C0,C1,C2⟩) ⟨j0,j1,j2,j3,j4,j5,j6,j7,j8,j9,i7,i8,i9,k0,k1,k2,k3,k4,k5,k6,k7,k8,k9,l0,l1,l2,l3,l4,l5,l6,l7,l8,l9,m0,m1,m2,m3,m4,m5,m6,m7,m8,m9,n0,n1,n2,n3,n4,n5,n6,n7,n8,n9,o0,o1,o2,o3,o4,i4,o5,o6,o7,o8,o9,p0,p2,p3,p4,p5,p6,p7,p8,p9,q0,q1,q3,q4,q5,q6,q7,q8,q9,r0,r1,r2,r3,r4,r5,r6,r7,r8,r9,s0,s1⟩⟩
theorem walk{l:W.OpenLaw}{d:DefRec}{K:Params->Nx}(c:l.most=some 63)(b:d.params.defaults=[])(e:∀(w:La)(h:Heap),YP w h->(K w.params).In h)(F:∀(w:La)(mg:Str->Option V')(fa:γ)(h:Heap),(K w.params).In h->h.Ns Ku mg->mg d.name=some (.ref fa)->∃fd:ε,(∀(s:δ)(u:V'),BindsTo s fd ⟨[u],[]⟩ [("_law_script",u)])/\∀base:Heap,(K w.params).In base->base.Ns Ku mg->Du l.prog w (K w.params) mg base (CX1 l.prog w) 18 fa fd ["_law_script"] (Hj (K w.params))):W.WalkO q loose XP YP l.row.toRowW d [] (λf vs=>PySem.call f vs):=L2.qaK9 (n:=63) (k:=18) (x := "_law_script") (CX:=λw=>CX1 l.prog w) (sp:=λw=>Hj (K w.params)) c ∅ b ⟨λ_=>rfl,∅,∅⟩ e F (λ_ _ a g i _ j=>⟨a,g,rfl,j,i,λ_=>rfl⟩) λ_ _ _ _ _ z=>z
end LV.My
open PySem PySem.W PyProof.Rows L2
local macro_rules | `(tactic| walk_at "u")=>`(tactic| (intro _ _ _ _ _ _;repeat' first|exact LV.ec0 (rfl)|refine LV.ec1 λ_=>?_))
local macro_rules | `(tactic| walk_at "d")=>`(tactic| (refine' LV.My.dfX (by assumption) (by assumption) ?a ?l ?c ?k ?b;(case a|l|c|k=>k_is);(case b=>walk_at "u")))
local macro_rules | `(tactic| walk_at "e")=>`(tactic| (refine' mdmk ?l ?c ?k ?a ?i ?b;(case a|i|l|c|k=>k_is);(case b=>walk_at "u")))
local macro_rules | `(tactic| walk_at "c")=>`(tactic| (refine' mg_of (by assumption) (by assumption) ?a;k_is))
local macro_rules | `(tactic| walk_at "z")=>`(tactic| (refine' mg_none_of (by assumption) (by assumption) ?a;k_is))
local macro_rules | `(tactic| walk_at "q")=>`(tactic| (first|k_is|kernel_rfl|rfl))
local macro_rules | `(tactic| walk_at "n")=>`(tactic| (show findIn _ _ _=some none;k_is))
theorem PySem.Challenge.cw_homeward_k61_growing_step_by_step_holds : PySem.Challenge.rw_homeward_k61_growing_step_by_step.Holds := by
 w_on;o_law;k_head;(case hw=>w_witness2)
 k_fill
 refine LV.My.walk (l:=PySem.Challenge.rw_homeward_k61_growing_step_by_step) rfl rfl (λw h Y=>PySem.W.kIn_of Y) ?F
 case F=>
 intro w g j h KX G f;refine' LV.My.qbe4 f ?j0 ?j1 ?j2 ?j3 ?j4 ?j5 ?j6 ?j7 ?j8 ?j9 ?A0 ?A1 ?A2 ?A3 ?A4 ?A5 ?A6 ?A7 ?A8 ?A9 ?B0 ?B1 ?B2 ?B3 ?B4 ?B5 ?B6 ?B7 ?B8 ?B9 ?C0 ?C1 ?C2 ?C3 ?C4 ?C5 ?C6 ?C7 ?C8 ?C9 ?D0 ?D1 ?D2 ?D3 ?D4 ?D5 ?D6 ?D7 ?D8 ?D9 ?E0 ?E1 ?E2 ?E3 ?E4 ?E5 ?E6 ?E7 ?E8 ?E9 ?F0 ?F1 ?F2 ?F3 ?F4 ?F5 ?F6 ?F7 ?F8 ?F9 ?G0 ?G1 ?G2 ?G3 ?G4 ?G5 ?G6 ?G7 ?G8 ?G9 ?H0 ?H1 ?H2 ?H3 ?H4 ?H5 ?H6 ?H7 ?H8 ?H9 ?I0 ?I1 ?I2 ?I3 ?hb
 case E9|F0|F1|F2=>walk_at "c"
 case G7|H4|I0=>refine' ⟨⟨?_,?_,?_,?_⟩,mg_of (by assumption) (by assumption) ?a⟩;(case a=>k_is);k_is;k_is;k_is;k_is
 case j0|j1|j2|j3|j4|j5|j6|A3|A4|A5|A6|A7|A8|A9|B0|B1|B2|B3|B4|B5|C5|C6|D4|D5|D6|D7|D8|D9|E0|E1|E2|E3|E4|E5|E6|E7|E8=>walk_at "d"
 case j7|j8|j9|A0|A1|A2|B7|B8|B9|C0|C1|C2|C3|C4|C7|C8|C9|D0|D1|D2|D3=>walk_at "e"
 case B6=>refine' LV.mdmkN ?l ?c ?k ?a ?i ?t ?b ?bn;(case a|i|l|c|k|t=>k_is);(case b=>intro _ _ _ _ _ _;repeat' first|exact LV.ec0 (⟨_,rfl,rfl⟩)|refine LV.ec1 λ_=>?_);(case bn=>intro _ _ _ _ _ _;refine LV.ec2 ?_;repeat' first|exact LV.ec0 (⟨_,rfl,rfl⟩)|refine LV.ec1 λ_=>?_)
 case F3|F4|F5|F6|F7|F8|F9|G0|G1|G2|G3|G4|G5|G6=>walk_at "z"
 case G9|H0|H1|H2|H6|H7|H8|I2|I3=>walk_at "n"
 case H3|H9=>refine⟨?_,?_,?_,?_,kf_of ?_ ?_ ?_ ?_ ?_ ?_ ?_⟩<;>walk_at "q"
 case G8|H5|I1=>refine⟨?_,?_,?_,?_⟩<;>k_is
 case hb=>exact λs v=>.of_eq rfl
#print axioms PySem.Challenge.cw_homeward_k61_growing_step_by_step_holds
