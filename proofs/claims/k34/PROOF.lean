import PyProof.Rows.All
import Wide.All
import OpenK.AllK
import Wide.FinOn
import Lean
import PyProof.EqAt
import PyProof.EqKinds
import PyProof.TupleCall
import PyProof.CompFree
import KE.KIsAll
import PyProof.AttrMiss
import PyProof.IsiH_list
import KE.KDictOf
import PyProof.ConsumeWalk
import PyProof.Rows.SetFrom
import PyProof.NeKinds
import PyProof.AutoListH
import PyProof.EnumMake
import PyProof.EnumFor
import PyProof.EnumStmt
import PyProof.LayNew
import PyProof.Rows.EnumRows
import KE.KDictList
import KE.KItemsList
import PySem.Challenge.RW_homeward_k34_whole_any_order
set_option linter.all false
set_option Elab.async false
def zA0:=@List.count_append
def zA1:=@Option.bind_eq_some_iff
def zA2:=@Nat.le_refl
def zA3:=@List.size_toArray
def zA4:=@List.getElem?_eq_some_iff
def zA5:=@PySem.Heap.get?_push_of_some
def zA6:=@List.length_append
def zA7:=@List.mem_cons_of_mem
def zA8:=@List.mem_append
def zA9:=@Option.map_eq_some_iff
def zAa:=@List.mem_singleton
def zAb:=@Nat.zero_add
def zAc:=@PySem.Heap.lt_size
def zAd:=@List.append_nil
def zAe:=@of_decide_eq_true
def zAf:=@List.mem_cons_self
def zAg:=@List.length_map
def zAh:=@Bool.and_eq_true_iff
def zAi:=@Nat.lt_of_lt_of_le
def zAj:=@Nat.le_trans
def zAk:=@List.length_cons
def zAl:=@decide_eq_true
def zAm:=@Bool.false_ne_true
def zAn:=@List.count_cons
def zAo:=@List.mem_cons
def zAp:=@List.getElem?_append_left
def zAq:=@List.append_assoc
def zAr:=@List.take_of_length_le
def zAs:=@List.mem_range
def zAt:=@Nat.ne_of_lt
def zAu:=@List.mem_append_right
def zAv:=@List.lookup_cons
def zAw:=@List.getElem?_eq_getElem
def zAx:=@List.mem_of_getElem?
def zAy:=@List.map_cons
def zAz:=@List.mem_filter
def zB0:=@Option.isSome_iff_exists
def zB1:=@PySem.Heap.get?_push_size
def zB2:=@List.forall_mem_cons
def zB3:=@List.getElem?_map
def zB4:=@List.length_range
def zB5:=@List.nil_append
def zB6:=@Array.toList_append
def zB7:=@Array.length_toList
def zB8:=@decide_eq_true_eq
def zB9:=@of_decide_eq_false
def zBa:=@Nat.le_of_lt
def zBb:=@List.cons_merge_cons
def zBc:=@List.mem_map
def zBd:=@beq_self_eq_true
def zBe:=@decide_eq_false
def zBf:=@List.map_append
def zBg:=@List.take_append_drop
def zBh:=@List.all_eq_true
def zBi:=@Bool.and_eq_true
def zBj:=@PySem.Heap.get?_update_other
def zBk:=@List.length_take
def zBl:=@Nat.zero_le
def zBm:=@List.getElem?_set_ne
def zBn:=@Array.perm_iff_toList_perm
def zBo:=@List.getElem?_append_right
def zBp:=@List.forall_mem_append
def zBq:=@List.take_add_one
def zBr:=@List.nodup_append
def zBs:=@List.replicate_succ
def zBt:=@beq_iff_eq
def zBu:=@List.take_length
def zBv:=@List.cons_append
def zBw:=@Nat.le_of_lt_succ
def zBx:=@Nat.not_lt_zero
def zBy:=@List.find?_cons
def zBz:=@beq_eq_false_iff_ne
def zC0:=@List.filterMap_cons
def zC1:=@decide_eq_decide
def zC2:=@Nat.succ_le_succ
def zC3:=@Nat.le_of_not_lt
def zC4:=@List.not_mem_nil
def zC5:=@Nat.lt_irrefl
def zC6:=@Nat.lt_of_le_of_lt
def zC7:=@Nat.lt_of_succ_lt
def zC8:=@Int.emod_eq_of_lt
def zC9:=@List.pairwise_map
def zCa:=@List.take_sublist
def zCb:=@List.flatten_cons
def zCc:=@Nat.sub_le
def zCd:=@List.any_cons
def zCe:=@Nat.mod_eq_of_lt
def zCf:=@Int.emod_lt_of_pos
def zCg:=@List.findIdx?_cons
def zCh:=@Nat.le_of_eq
def zCi:=@List.nodup_cons
set_option genSizeOf false
set_option genInjectivity false
set_option maxRecDepth 100000
noncomputable section
structure PySem.W.Fast where
 (tw12816572612862804955 tw16961564265886708630 tw1365435399811558359 tw9482851820225321736 tw2045575713563329753 tw12653925283451310532 tw18346183300858836557 tw12963373439493559508 tw13577147252554634922 tw17895692435719224488 tw4361720949784475018 tw12073943852894500050 tw2509359313675490004 tw6256752129243441018 tw8802830097950909801 tw10926826432138473545 tw13565527703395336620 tw9536869383492410606 tw13975496658265442993 tw11821551452093229566 tw6090930006627258687 tw8280983336653521201 tw13918750558249309351 tw3633507932441098659 tw16686420732491472220 tw643151733064656133 tw9551339772521645723 tw1882683288847416584 tw10773516028185837738 tw15230647730956194742 tw18250427096270118988 tw1872463963282138774 tw16412500527491968386 tw11656425592063884443 tw6140212908387888785 tw14790331805221465418 tw15956920052711692447 tw11127910089272656152 tw2576909745207184108 tw16316672051014686451
 tw2345158997566955773 tw9689402522978097125 tw6934853162041279531 tw8339105079716417693 tw16991289105332994108 tw15224975211742303720 tw3686130437307015653 tw8588505878181499549 tw4025095713153808244 tw5013962365461106205 tw1639441042150571489 tw8318355970351956174 tw9045930424294241658 tw18102171205912950406 tw474219797289280464 tw15293067818346534196 tw15981820096422442215 tw7891720175561473684 tw13477211021832474426 tw3572047772571181359 tw13686079681698911381 tw1410204092835123004 tw5175533410309235696 tw6495667938689548588 tw13029903295646043589 tw10032875628399057260 tw16440926035116866983 tw5099222278206625724 tw1553953000420130863 tw3197786298158867889 tw13904812584289006164 tw2451079019623334726 tw2556556979404368429 tw235528352247692900 tw963433299949731127 tw14000871541931498393 tw1932163552958122029 tw9890666129079471195 tw2165184968424112952 tw16361088473386023349
 tw12653709856928266448 tw3674928837563343427 tw2511002942848255419 tw514453954300457692 tw13451034722475715452 tw8429655793147592838 tw2607443365724390063 tw7369323218763859357 tw3302634173922119582 tw13533381143198875185 tw16491235647321653096 tw4147503526340270216 tw2988762835513046422 tw13060708711847956599 tw17817077954222941652 tw13698257121038428247 tw4457759321596237890 tw16253411950326605314 tw5400470520514541599 tw753744273516888947 tw8288944633556518217 tw12686401871470972291 tw16744353160992933476 tw2803578833182898695 tw13424686029051791194 tw2176871947517364526 tw3955645553055744851 tw7646199024803199155 tw9978010894844566061 tw2959675410813189256 tw15918220372036580780 tw5825753883886715925 tw5634629749579778110 tw2702073250685395330 tw8534407704028758491 tw7268533406363737265 tw15136706008975344885 tw9227695455215931434 tw11802389544121936907 tw1485527615800687502
 tw7579058875054718394 tw14215866617081103011 tw5305230702139502532 tw15268519951945679558 tw5096364718607435601 tw9890453686086417764 tw12755171292680442601 tw10895653316330136067 tw17530671915036012399 tw18182466688599960567 tw10862183194839027395 tw6376769245542559010 tw1049214998125248873 tw13572509018189241021 tw11643546179276110985 tw12724063479895357752 tw10049501918376528202 tw11957144712418424634 tw4960912808878458181 tw8506655659136797477 tw15912462222260225487 tw3800173784651107859 tw10191229417084155377 tw2386099444338725108 tw4928094474748655625 tw11875282729332445078 tw17726799520979733856 tw3451468626190162495 tw14689754147737434933 tw8446064478410425468 tw12746483549061742401 tw13632434603762743184 tw3508428343369037721 tw788287166312087627 tw6544792333519204981 tw6436241289652198307 tw1236877548148170804 tw10524147192185149093 tw2706589346255001984 tw14833101663824466307
 tw16564156406065601708 tw7052062444424395341 tw8457691681915583198 tw374764289330276587 tw18309526432330876678 tw17447885588963790317 tw12920067114378881382 tw15676342850288845931 tw8455903333271811135 tw10864619809546257464 tw16037838150602998747 tw8876904494262235713 tw2435497288785685702 tw15004477185830972132 tw903784956467169706 tw10168057948354297332 tw17855289417637774321 tw2386111128656138878 tw15457707394635924476 tw17971978520840275345 tw8882561093736581786 tw2861423838294296427 tw3378377503369963982 tw4167403305238845114 tw9032881717935443393 tw13705091979564021151 tw10453263311401412492 tw1016913896775560496 tw3703142319471683179 tw8692989937905514733 tw12542439895957086960 tw3122907942657676899 tw15793732599866228138 tw1864205247392591984 tw16755663290144867120 tw17067037502468965400 tw7452654713149134099 tw9834981825430096380 tw1898433243625520892 tw16172116288238721419
 tw7079155728927289574 tw5985047819041553150 tw14200739263719126488 tw13979121686405198660 tw7673360172345108869 tw8096129126487131364 tw6231874057559950072 tw4165257525008080696 tw15704042957116722477 tw6141049402737977677 tw1732167110102718294 tw5707981963124841256 tw9209644951255851549 tw8389470106532761707 tw7490018299785461660 tw4658538168897553906 tw3899119237901877899 tw3724639408246861609 tw3517469614291539653 tw2114698395913323562 tw18387816106575313980 tw16633911174070765117 tw15827327536334414365 tw14017564517737097793 tw13849349943590389405 tw12230340862138686039 tw11959082981057424902 tw11189212641297384012 tw10581416883204067709 tw5164415417110737963 tw15208084823604458354 tw14770604888806260679 tw11734659818277368632 tw740334530474162289 tw1762524566270689843 tw17628460214772140305 tw16919307865993419067 tw14178396183851305779 tw11309323425027210398 tw15170576902374665039
 tw7977435354826548605 tw4427487444300450297 tw17795032280554320709 tw16626752078877699754 tw16594356788055546877 tw16390263605142140827 tw14966509262118647328 tw14495110522922817869 tw4034660589710417679 tw5087409086004377841 tw8430644041407395804 tw114924532681424492 tw8517252707839236520 tw5642642152710994197 tw99232842079898183 tw9818822731466534002 tw9495537766291689786 tw9156545540891507277 tw4202317554009395481 tw3961590847666886227 tw3933726003305742044 tw3378018347835655199 tw2610462236396807738 tw2344473059317837725 tw17871191712759883599 tw16792750785396815202 tw16488147091009158950 tw16250146422103355069 tw16159257598813247827 tw15391243181145437644 tw15385132211898047938 tw11724905173354433073 tw1058480388365003308 tw16497324958590811214 tw7883028118924833854 tw5234750890313238495 tw15750086535992365283 tw17490505671378364680 tw9547293658978078326 tw8729114113994018883
 tw7080178980150902000 tw6917324830928255606 tw5838669870519125461 tw5694060225220504989 tw16839563131466956779 tw16406794917550267819 tw15091418242045171201 tw14930414677747350453 tw10233082120626175493 tw11472355791165736914 tw18328996328685712098 tw7851867859471003998 tw2008587740105831357 tw700298546370534045 tw5883557625745669262 tw11625341151969244191 tw7156083140486209441 tw10479814486354899366:Nat)
abbrev N'(x:PySem.Str):Prop:=(x == ("__debug__" : PySem.Str))=false
abbrev γ:=PySem.Addr
abbrev V':=PySem.Value
abbrev δ:=PySem.Shared
abbrev ε:=PySem.FuncData
open PySem renaming wpAny_bind→E',wpAny_pure→G',starEach→Jp,sizeLine→Jq,compareOp→Jr,foldedSetIterable→Js,wpAny_holding→Jt,bootBuiltins→Ju,wpAny_truthy_bool→Jv,attributeBase→Jw,sizeLine_eq→Jx,mainGlobals→Jy,sysModules→Jz,keywordEach→J0,wpAny_mono→J1,wpAny_passesOwn→J2,call_meets→J',assignEach→Ka,binaryOp→Kb,wpAny→Kc,model→Kd,Program→Ke,Around→Kf,World→Ki,Expr→Kj,Stmt→Kk
open PyProof.Rows renaming wpS_bind→Kl,wpS_pure→Km,pendingOf→Ko,failedOf→Kq,wpS_modify→Kr,arrOf→Ks,Keyed→Kt,SortSt→Ku,kindOf→Kv,setArr→Kw,setPending→Kx
open _root_.List renaming replicate→Ky,range→Kz,merge→K4,length→K5,eraseIdx_eq_take_drop_succ→K6,map_map→K7,length_drop→K8,all_cons→K9,map_take→La,lookup→Lb,length_nil→Lc,drop_eq_getElem_cons→Ld,count_nil→Lf,filter_cons_of_neg→Lg,filter_cons_of_pos→Lh,filter_congr→Li,drop_of_length_le→Lj,length_singleton→Ll,length_filter_le→Lm,eraseIdxIfInBounds_toArray→Ln,mem_append_left→Lp,foldl→Lq,dropLast_concat→Lr,take_append_of_le_length→Ls,drop_zero→Lu,perm_ext_iff_of_nodup→Lv,length_eraseIdx_of_lt→Lw,pairwise_iff_getElem→Lx,countP_cons→Ly,nodup_range→Lz,drop_length→L5,sublist_append_left→L6,length_filterMap_le→L7,of_mem_zip→L8,length_set→L9,range_succ→Ma,nodup_nil→Mb,set_append_right→Mc,drop_drop→Me,take_zero→Mf,eraseIdx_sublist→Mg,set_append_left→Mh,map_drop→Mi,mergeSort_perm→Mj,map_nil→Ml,getD→Mm,filter_append→Mn,set_set→Mo,filterMap_map→Mp,erase_sublist→Mq,getElem_take→Mr,getElem_drop→Ms,getElem_inj→Mt,any_eq_true→Mu,merge_right→Mv,foldl_cons→Mw,countP_map→Mx,nil_merge→Mz,take_take→M3,mapM_cons→M4,filterMap→M5,take_add→M6,take_nil→M7,any_map→M8,all_map→M9
open PySem.Value renaming ref→M',none→Na,int→Nb,bool→Nc,str→Nd,notImplemented→Nf,float→Ng,isStrOf→Nh,isInt→Ni,bytes→Nj,type→Nk
open And renaming imp_right→Nl
open Option.some renaming inj→Nm
open PySem.PassesOwn renaming leaving→Nn
open PySem.W renaming Frag→No,kitOne→Np
open PySem.F renaming plainAttrs_list→Nq,slot_list_append→Nr,type_list_append→Nt,slot_list_index→Nu,type_list_index→Nv,slot_list_pop→Nw,slot_list_remove→Nx,sub_tuple_dict→Ny,slot_list_count→Nz,type_list_remove→N0,slot_dict_get→N1,type_list_pop→N2,slot_dict_eq→N3,slot_dict_ne→N4,slot_tuple_eq_refl→N5,slot_tuple_ne_refl→N6,type_list_count→N7,args_dict_get_3→N8,entry_list_pop→N9,entry_dict_get→Oa,sub_dict_tuple→Ob,args_dict_eq_2→Oc,args_dict_ne_2→Oe,slot_int_rmul→Of,sub_dict_dict→Og,entry_dict_eq→Oh,entry_dict_ne→Oi
open PySem.NameKind renaming free→Oj,cell→Ol
open False renaming elim→Om
open Or renaming inr→On,inl→Oo
namespace L2
open PySem PySem.Spec PyProof.Rows
variable{M:Model}{N:List Str}{base:Heap}{body:List Kk}{ch fp:List γ}{i n t':Nat}{kw:List (Str×V')}{mg:Str->Option V'}{op:CmpOp}{pl:Sem Bool}{us:List V'}
abbrev Key:=Sum Int Str
noncomputable def Ff:Key->V'->Bool
 | .inl k,v=>Ni k v
 | .inr x,v=>Nh x v
noncomputable def keyH(w:Ki):Key->Int
 | .inl k=>hashInt k
 | .inr x=>hashStr w x
theorem qd4:∀{k:Key}{v:V'},Ff k v=true->(∃ i t,k=Sum.inl i/\v=Nb i t)∨(∃ x t,k=Sum.inr x/\v=Nd x t)
 | .inl i,v,h=>by
   obtain⟨t,e⟩:=Value.isInt_shape (k:=i) (v:=v) h;exact .inl ⟨i,t,rfl,e⟩
 | .inr x,v,h=>by
   obtain⟨t,e⟩:=Value.isStrOf_shape (x:=x) (v:=v) h;exact .inr ⟨x,t,rfl,e⟩
theorem qaq6(i:Int)(t:Tok):Ff (.inl i) (.int i t)=true:=by simp[Ff,Ni]
theorem qaq5(x:Str)(t:Tok):Ff (.inr x) (.str x t)=true:=by simp[Ff,Nh]
theorem qaW0(a b:Int):decide ((Sum.inl a:Key)=Sum.inl b)=(a == b):=by
 by_cases e:a=b
 . subst e;simp
 have h:¬ (Sum.inl a:Key)=Sum.inl b:=λ q=>e (Sum.inl.inj q)
 rw[zBe h];exact(zBz.mpr e).symm
theorem qaV7(a b:Str):decide ((Sum.inr a:Key)=Sum.inr b)=decide (a=b):=by
 by_cases e:a=b
 . subst e;simp
 have h:¬ (Sum.inr a:Key)=Sum.inr b:=λ q=>e (Sum.inr.inj q)
 rw[zBe h,zBe e]
theorem qaV9(a:Int)(b:Str):decide ((Sum.inl a:Key)=Sum.inr b)=false:=zBe (λ q=>nomatch q)
theorem qaV8(a:Str)(b:Int):decide ((Sum.inr a:Key)=Sum.inl b)=false:=zBe (λ q=>nomatch q)
def qg2(prog:Ke)(w:Ki):PySem.KeyKind prog w Key where
 is:=Ff
 hash:=keyH w
 inj:=λ v a b g f=>by
   rcases qd4 g with⟨i,t,rfl,rfl⟩ | ⟨x,t,rfl,rfl⟩
   . rcases qd4 f with⟨j,u,rfl,e⟩ | ⟨y,u,rfl,e⟩
     . injection e with c _;rw[c]
     exact nomatch e
   rcases qd4 f with⟨j,u,rfl,e⟩ | ⟨y,u,rfl,e⟩
   . exact nomatch e
   injection e with c _;rw[c]
 byValue:=λ k v h=>by
   rcases qd4 h with⟨i,t,rfl,rfl⟩ | ⟨x,t,rfl,rfl⟩<;>rfl
 pyHash:=λ d h=>by
   rcases qd4 d with⟨i,t,rfl,rfl⟩ | ⟨x,t,rfl,rfl⟩
   . exact wpAny_pyHash_int h
   exact wpAny_pyHash_str h
 eqBool:=λ l d h=>by
   rcases qd4 l with⟨i,t,rfl,rfl⟩ | ⟨x,t,rfl,rfl⟩
   . rcases qd4 d with⟨j,u,rfl,rfl⟩ | ⟨y,u,rfl,rfl⟩
     . rw[qaW0] at h;exact wpAny_eqBool_int h
     rw[qaV9] at h;exact SeqAt.EqAt.int_str i t y u _ _ _ _ h
   rcases qd4 d with⟨j,u,rfl,rfl⟩ | ⟨y,u,rfl,rfl⟩
   . rw[qaV8] at h;exact SeqAt.EqAt.str_int x t j u _ _ _ _ h
   rw[qaV7] at h;exact wpAny_eqBool_str h
 «strs»:=λ k x t v h=>by
   rcases qd4 h with⟨i,u,rfl,e⟩ | ⟨y,u,rfl,e⟩
   . exact nomatch e
   injection e with c _
   subst c;cases v<;>rfl
theorem qaa5(prog:Ke)(w:Ki)(i:Int)(t:Tok):(qg2 prog w).is (.inl i) (.int i t)=true:=qaq6 i t
theorem qaa4(prog:Ke)(w:Ki)(x:Str)(t:Tok):(qg2 prog w).is (.inr x) (.str x t)=true:=qaq5 x t
inductive V where
 | non | bl (b:Bool) | int (i:Int) | str (x:Str) | byt (b:Array UInt8) | flt (b:UInt64) | ref (a:γ) | ty (n:String)
 deriving DecidableEq
def Ow:V->V'->Prop
 | .non,u=>u=Na
 | .bl b,u=>u=Nc b
 | .int i,u=>∃ t,u=Nb i t
 | .str x,u=>∃ t,u=Nd x t
 | .byt b,u=>∃ t,u=Nj b t
 | .flt b,u=>∃ t,u=Ng b t
 | .ref a,u=>u=M' a
 | .ty n,u=>u=Nk n
abbrev Ox:List V->List V'->Prop:=Paired Ow
theorem Ox.length{xs:List V}(r:Ox xs us):xs.length=us.length:=Paired.length r
theorem Ox.get:∀{xs:List V}{us:List V'}{i:Nat}{x:V},Ox xs us->xs[i]? = some x->∃ u,us[i]? = some u/\Ow x u
 | _,_,_,_,.nil,e=>by simp at e
 | _,_,0,_,.cons r _,e=>by simp at e;subst e;exact⟨_,rfl,r⟩
 | _,_,i+1,x,.cons _ t,e=>by
   obtain⟨u,a,b⟩:=Ox.get (i:=i) (x:=x) t (by simpa using e);exact⟨u,by simpa using a,b⟩
theorem Ox.set{x:V}{u:V'}(r:Ow x u):∀{xs:List V}{us:List V'}(i:Nat),Ox xs us->Ox (xs.set i x) (us.set i u)
 | _,_,_,.nil=>.nil
 | _,_,0,.cons _ t=>.cons r t
 | _,_,i+1,.cons q t=>.cons q (Ox.set r i t)
theorem Ox.append{xs ys:List V}{a:List V'}(h:Ox xs us)(s:Ox ys a):Ox (xs++ys) (us++a):=by
 induction h with
 | nil=>exact s
 | cons r t i=>exact .cons r i
theorem Ox.take:∀{xs:List V}{us:List V'}(n:Nat),Ox xs us->Ox (xs.take n) (us.take n)
 | _,_,0,_=>.nil
 | _,_,_+1,.nil=>.nil
 | _,_,n+1,.cons r t=>.cons r (Ox.take n t)
theorem Ox.drop:∀{xs:List V}{us:List V'}(n:Nat),Ox xs us->Ox (xs.drop n) (us.drop n)
 | _,_,0,r=>r
 | _,_,_+1,.nil=>.nil
 | _,_,n+1,.cons _ t=>Ox.drop n t
def RelO:Option V->Option V'->Prop
 | some v,some u=>Ow v u
 | none,none=>True
 | _,_=>False
def KV{a:Type}:List (a×V)->List (a×V')->Prop:=Paired λ(p:a×V)(q:a×V')=>p.1=q.1/\Ow p.2 q.2
noncomputable def kV:Key->V
 | .inl i=>.int i
 | .inr x=>.str x
inductive HO where
   | l (xs:List V)
   | q (xs:List V)
   | dK (kvs:List (Key×V)) | dT (kvs:List (List Key×V))
   | set (S:Int->Bool) (n:Nat)
   | ins (C dx:γ) (fs:List (Str×V))
   | own (x:γ)
   | xd (fs:List (Str×V))
   | met (f x:γ)
   | rng (lo hi:Int)
   | frz (o:Obj) (u:HO)
   | tbl (ps:Array V')
   | ext (φ:Heap->Prop)
noncomputable abbrev Hp:=γ->Option HO
noncomputable def upd(H:Hp)(a:γ)(o:HO):Hp:=λ b=>if b=a then some o else H b
theorem qc1{H:Hp}{a:γ}{o:HO}:upd H a o a=some o:=by unfold upd;rw[if_pos rfl]
theorem qd1{H:Hp}{a b:γ}{o:HO}(h:b≠a):upd H a o b=H b:=by unfold upd;rw[if_neg h]
theorem qaG7{H:Hp}{a:γ}{o u:HO}:upd (upd H a o) a u=upd H a u:=by
 funext b;unfold upd;split<;>rfl
theorem ne_of{H:Hp}{a b:γ}{o u:HO}(h:H a=some o)(h':H b=some u)(d:o≠u):a≠b:=by
 intro e;subst e;rw[h] at h';exact d (Nm h')
theorem qe5{H:Hp}{a b:γ}{o:HO}(h:H a=some o)(h':H b=none):a≠b:=by
 intro e;subst e;rw[h] at h';cases h'
section
variable(P:Ke)(w:Ki)
def ObjOk(H:Hp)(h:Heap)(a:γ):HO->Prop
 | .l xs=>xs.length<=Jq/\∃(its:List V')(n:Nat),Ox xs its/\h.get? a=some { cls:=.type "list",data:=.seq its.toArray n }
 | .q xs=>xs.length<=Jq/\∃ its:List V',Ox xs its/\IsTup h a its.toArray
 | .dK kvs=>kvs.length<=Jq/\(a == Jz)=false/\∃ vs,KV kvs vs/\h.DictOf (qg2 P w) a vs
 | .dT kvs=>kvs.length<=Jq/\(a == Jz)=false/\∃ xs:List (List Key×γ×V'),
     Paired (λ(p:List Key×V)(q:List Key×γ×V')=>p.1=q.1/\H q.2.1=some (.q (p.1.map kV))/\Ow p.2 q.2.2) kvs xs /\
     ∃ o es b,h.get? a=some o/\o.ExactDict/\o.data=.dict es b/\es.toList=xs.map (entryOfKey (tupleKind (qg2 P w)))/\(xs.map (·.1)).Nodup
 | .set S n=>h.SetOf (intKind P w) a S n
 | .ins C dx fs=>H dx=some (.own a)/\fs.length<=1000/\dx≠a/\h.get? a=some (W.instObj C dx) /\
     ∃ mA,h.Ns1 dx mA/\(∀ f,RelO (fs.lookup f) (mA f))/\PySem.Within mA (fs.map (·.1))
 | .own _=>∃ o,h.get? a=some o
 | .xd fs=>∃ mA,h.Ns1 a mA/\∀ f,RelO (fs.lookup f) (mA f)
 | .rng lo hi=>∃ t u v,h.get? a=some { cls:=.type "range",data:=.fields #[.int lo t,.int hi u,.int 1 v] }
 | .frz o u=>h.get? a=some o/\ObjOk H h a u
 | .tbl ps=>h.get? a=some { cls:=.none,data:=.fields ps }
 | .met f x=>h.get? a=some (W.methodObj (.ref f) (.ref x))
 | .ext φ=>φ h/\(∃ o,h.get? a=some o)/\∀ h1 h2:Heap,φ h1->(∀ o,h1.get? a=some o->h2.get? a=some o)->φ h2
def HOk(H:Hp)(h:Heap):Prop:=∀ a o,H a=some o->ObjOk P w H h a o
end
section
variable{P:Ke}{w:Ki}{H H':Hp}{h h':Heap}{a:γ}{o:HO}
theorem ObjOk.lt(x:ObjOk P w H h a o):a < h.objs.size:=by
 cases o with
 | l c=>obtain⟨_,_,_,_,e⟩:=x;exact zAc e
 | q c=>obtain⟨_,_,_,p⟩:=x;exact p.lt
 | dK b=>obtain⟨_,_,_,_,o,_,_,e,_⟩:=x;exact zAc e
 | dT b=>obtain⟨_,_,_,_,o,_,_,e,_⟩:=x;exact zAc e
 | set S n=>obtain⟨o,_,_,_,e,_⟩:=x;exact zAc e
 | ins C g d=>obtain⟨_,_,_,e,_⟩:=x;exact zAc e
 | own y=>obtain⟨_,e⟩:=x;exact zAc e
 | xd d=>obtain⟨_,⟨_,_,_,e,_⟩,_⟩:=x;exact zAc e
 | rng i j=>obtain⟨_,_,_,e⟩:=x;exact zAc e
 | frz k u=>obtain⟨e,_⟩:=x;exact zAc e
 | tbl l=>exact zAc (show h.get? a=some _ from x)
 | met f y=>exact zAc (show h.get? a=some _ from x)
 | ext φ=>obtain⟨_,⟨_,e⟩,_⟩:=x;exact zAc e
theorem Paired.mapP{α β:Type}{F G:α->β->Prop}{l:List α}{m:List β}(h:Paired F l m)(f:∀ a b,F a b->G a b):Paired G l m:=by
 induction h with
 | nil=>exact .nil
 | cons r t i=>exact .cons (f _ _ r) i
theorem ObjOk.stay(x:ObjOk P w H h a o)(k:∀ b u,(b=a∨H b=some (.own a))->h.get? b=some u->h'.get? b=some u)(E:∀ b,H b=some (.own a)->H' b=some (.own a))(F:∀ b xs,H b=some (.q xs)->H' b=some (.q xs)):ObjOk P w H' h' a o:=by
 induction o with
 | l xs=>obtain⟨z,l,n,r,e⟩:=x;exact⟨z,l,n,r,k _ _ (.inl rfl) e⟩
 | q xs=>obtain⟨z,l,r,g,e,c⟩:=x;exact⟨z,l,r,g,k _ _ (.inl rfl) e,c⟩
 | dK m=>obtain⟨z,y,G,r,g,i,j,e,c⟩:=x;exact⟨z,y,G,r,g,i,j,k _ _ (.inl rfl) e,c⟩
 | dT m =>
   obtain⟨z,y,xs,r,g,i,j,e,c⟩:=x;exact⟨z,y,xs,Paired.mapP r λ p q z=>⟨z.1,F _ _ z.2.1,z.2.2⟩,g,i,j,k _ _ (.inl rfl) e,c⟩
 | set S n=>obtain⟨g,i,j,t,e,c⟩:=x;exact⟨g,i,j,t,k _ _ (.inl rfl) e,c⟩
 | ins C L I =>
   obtain⟨d,z,J,e,s,⟨A,i,j,e2,c⟩,r⟩:=x;exact⟨E _ d,z,J,k _ _ (.inl rfl) e,s,⟨A,i,j,k _ _ (.inr d) e2,c⟩,r⟩
 | own y=>obtain⟨g,e⟩:=x;exact⟨g,k _ _ (.inl rfl) e⟩
 | xd I=>obtain⟨s,⟨A,i,j,e,c⟩,r⟩:=x;exact⟨s,⟨A,i,j,k _ _ (.inl rfl) e,c⟩,r⟩
 | rng M N=>obtain⟨t,u,v,e⟩:=x;exact⟨t,u,v,k _ _ (.inl rfl) e⟩
 | frz g u K=>obtain⟨e,q⟩:=x;exact⟨k _ _ (.inl rfl) e,K q⟩
 | tbl B =>
   have e:h.get? a=some { cls:=.none,data:=.fields B }:=x;show h'.get? a=some { cls:=.none,data:=.fields B };exact k a _ (.inl rfl) e
 | met f y =>
   have e:h.get? a=some (W.methodObj (.ref f) (.ref y)):=x;show h'.get? a=some (W.methodObj (.ref f) (.ref y));exact k a _ (.inl rfl) e
 | ext φ=>obtain⟨p,⟨o,e⟩,D⟩:=x;exact⟨D _ _ p λ o q=>k _ _ (.inl rfl) q,⟨o,k _ _ (.inl rfl) e⟩,D⟩
theorem HOk.lt(x:HOk P w H h)(e:H a=some o):a < h.objs.size:=(x a o e).lt
theorem HOk.fresh(x:HOk P w H h)(e:h.objs.size<=a):H a=none:=by
 cases q:H a with
 | none=>rfl
 | some u=>exact absurd (zAi (x.lt q) e) (zC5 _)
theorem HOk.kept(x:HOk P w H h)(k:∀ b u,h.get? b=some u->h'.get? b=some u):HOk P w H h':=λ a o e =>
 (x a o e).stay (λ b u _ q=>k b u q) (λ _ q=>q) λ _ _ q=>q
theorem HOk.laid(x:HOk P w H h)(k:∀ b u,h.get? b=some u->h'.get? b=some u)(i:h.objs.size<=a)(d:ObjOk P w (upd H a o) h' a o):HOk P w (upd H a o) h':=λ b u e=>by
 have f:=x.fresh i;by_cases g:b=a
 . subst g;rw[qc1] at e;cases e;exact d
 rw[qd1 g] at e;exact(x b u e).stay (λ c v _ q=>k c v q) (λ c q=>by rw[qd1 (qe5 q f)];exact q) λ c j q=>by rw[qd1 (qe5 q f)];exact q
end
def Rd(H:Hp)(a:γ)(u:HO):Prop:=H a=some u∨∃ o,H a=some (.frz o u)
theorem Rd.ok{P:Ke}{w:Ki}{H:Hp}{h:Heap}{a:γ}{u:HO}(r:Rd H a u)(x:HOk P w H h):ObjOk P w H h a u:=by
 rcases r with r | ⟨o,r⟩
 . exact x a u r
 obtain⟨_,q⟩:=x a _ r;exact q
def Mut:Option HO->Prop
 | some (.l _)=>True
 | some (.dK _)=>True
 | some (.dT _)=>True
 | some (.set _ _)=>True
 | some (.ins _ _ _)=>True
 | some (.ext _)=>True
 | _=>False
section
variable{P:Ke}{w:Ki}{H:Hp}{h h':Heap}{x e:γ}{o':HO}
theorem HOk.write(o:HOk P w H h)(d:Mut (H x))(m:e=x∨H e=some (.own x))(k:∀ b u,b≠e->h.get? b=some u->h'.get? b=some u)(j:∃ u,h'.get? e=some u)(l:ObjOk P w (upd H x o') h' x o'):HOk P w (upd H x o') h':=λ b u q=>by
 have nown:∀ c y,H c=some (.own y)->c≠x:=λ c y r z=>by subst z;rw[r] at d;exact d
 have ntup:∀ c f,H c=some (.q f)->c≠x:=λ c f r z=>by subst z;rw[r] at d;exact d
 by_cases g:b=x
 . subst g;rw[qc1] at q;cases q;exact l
 rw[qd1 g] at q;by_cases a:b=e
 . have n:H b=some (.own x):=by
     rcases m with z | z
     . exact absurd (a.trans z) g
     rw[a];exact z
   rw[q] at n;cases n;obtain⟨v,p⟩:=j;exact⟨v,by rw[a];exact p⟩
 refine(o b u q).stay (λ c v i r=>k c v ?_ r) (λ c r=>by rw[qd1 (nown c b r)];exact r) λ c f r=>by rw[qd1 (ntup c f r)];exact r
 rcases i with rfl | i
 . exact a
 rintro rfl;rcases m with z | z
 . exact nown c b i z
 rw[i] at z;cases z;exact g rfl
end
structure Un(fs ex:List γ)(H H':Hp)(h h':Heap):Prop where
 keep:∀ b o,h.get? b=some o->H b=none->b∉fs->b∉ex->h'.get? b=some o
 slot:∀ b o,h.get? b=some o->H b=none->b∈fs->b∉ex->∃ sl,h'.get? b=some { o with slots:=sl }
 free:∀ b o,h.get? b=some o->H b=none->b∉ex->H' b=none
 there:∀ b o,h.get? b=some o->b∉ex->∃ o',h'.get? b=some o'
 tups:∀ b xs,H b=some (.q xs)->H' b=some (.q xs)
 frzs:∀ b o u,H b=some (.frz o u)->H' b=some (.frz o u)
 tbls:∀ b ps,H b=some (.tbl ps)->∃ more,H' b=some (.tbl (ps++more))
section
variable{fs s:List γ}{H v y:Hp}{h t w h':Heap}{a x e:γ}{o:HO}
theorem Un.any(u:Un fs s H v h t){b:γ}{ob:Obj}(q:h.get? b=some ob)(n:H b=none)(a:b∉s):∃ sl,t.get? b=some { ob with slots:=sl }:=by
 by_cases c:b∈fs
 . exact u.slot b ob q n c a
 exact⟨ob.slots,u.keep b ob q n c a⟩
theorem Un.trans(a:Un fs s H v h t)(b:Un fs s v y t w):Un fs s H y h w where
 keep:=λ c d q n g e=>b.keep c d (a.keep c d q n g e) (a.free c d q n e) g e
 slot:=λ c d q n g e=>by
   obtain⟨p,f⟩:=a.slot c d q n g e;obtain⟨j,e2⟩:=b.slot c _ f (a.free c d q n e) g e;exact⟨j,e2⟩
 free:=λ c d q n e=>by
   obtain⟨k,f⟩:=a.there c d q e;exact b.free c k f (a.free c d q n e) e
 there:=λ c d q e=>by
   obtain⟨k,f⟩:=a.there c d q e;exact b.there c k f e
 tups:=λ c i q=>b.tups c i (a.tups c i q)
 frzs:=λ c d i q=>b.frzs c d i (a.frzs c d i q)
 tbls:=λ c l q=>by
   obtain⟨m,f⟩:=a.tbls c l q;obtain⟨o,e2⟩:=b.tbls c _ f;exact⟨m++o,by rw[e2,Array.append_assoc]⟩
theorem Un.kept(k:∀ b u,h.get? b=some u->h'.get? b=some u):Un fs s H H h h' :=
 ⟨λ b a q _ _ _=>k b a q,λ b a q _ _ _=>⟨a.slots,k b a q⟩,λ _ _ _ n _=>n,λ b a q _=>⟨a,k b a q⟩,λ _ _ q=>q,λ _ _ _ q=>q,λ _ c q=>⟨#[],by rw[q];simp⟩⟩
theorem Un.refl:Un fs s H H h h:=Un.kept λ _ _ q=>q
theorem Un.laid(k:∀ b u,h.get? b=some u->h'.get? b=some u)(d:h.objs.size<=a)(c:H a=none):Un fs s H (upd H a o) h h' where
 keep:=λ b u q _ _ _=>k b u q
 slot:=λ b u q _ _ _=>⟨u.slots,k b u q⟩
 free:=λ b u q n _=>by rw[qd1 (zAt (zAi (zAc q) d))];exact n
 there:=λ b u q _=>⟨u,k b u q⟩
 tups:=λ b e q=>by rw[qd1 (qe5 q c)];exact q
 frzs:=λ b u e q=>by rw[qd1 (qe5 q c)];exact q
 tbls:=λ b f q=>⟨#[],by rw[qd1 (qe5 q c),q];simp⟩
theorem Un.write(c:Mut (H x))(j:e=x∨H e=some (.own x))(k:∀ b u,b≠e->h.get? b=some u->h'.get? b=some u)(d:∃ u,h'.get? e=some u):Un fs s H (upd H x o) h h':=by
 have g:∀ b,H b=none->b≠x:=λ b n z=>by subst z;rw[n] at c;exact c
 have i:∀ b,H b=none->b≠e:=λ b n z=>by
   subst z;rcases j with r | r
   . exact g b n r
   rw[n] at r;cases r
 have f:∀ b u,H b=some u->¬ Mut (some u)->b≠x:=λ b u q l z=>by subst z;rw[q] at c;exact l c
 refine⟨λ b u q n _ _=>k b u (i b n) q,λ b u q n _ _=>⟨u.slots,k b u (i b n) q⟩,λ b u q n _=>by rw[qd1 (g b n)];exact n,λ b u q _=>?_,
   λ b m q=>by rw[qd1 (f b _ q λ z=>z)];exact q,λ b u m q=>by rw[qd1 (f b _ q λ z=>z)];exact q,λ b p q=>⟨#[],by rw[qd1 (f b _ q λ z=>z),q];simp⟩⟩
 by_cases a:b=e
 . subst a;exact d
 exact⟨u,k b u a q⟩
end
noncomputable def trk(h:Heap)(H:Hp):List γ:=(Kz h.objs.size).filter λ a=>(H a).isSome
def Fs(h:Heap)(H:Hp):Heap:=W.hideAll h (trk h H)
theorem qaq9(h:Heap)(H:Hp):(Fs h H).objs.size=h.objs.size:=W.hideAll_size _ _
theorem qaE1{h:Heap}{H:Hp}{b:γ}{o:Obj}(e:h.get? b=some o)(n:H b=none):(Fs h H).get? b=some o :=
 W.hideAll_get _ e λ a=>by
   have q:(H b).isSome=true:=(zAz.mp a).2;rw[n] at q;simp at q
theorem qaL5{h:Heap}{H:Hp}{b:γ}{o:Obj}(e:(Fs h H).get? b=some o):h.get? b=some o/\H b=none:=by
 have a:h.get? b=some o:=W.of_hideAll (trk h H) e;refine⟨a,?_⟩;cases q:H b with
 | none=>rfl
 | some x =>
   have c:b∈trk h H:=zAz.mpr ⟨zAs.mpr (zAc a),by simp[q]⟩;have z:(Fs h H).get? b=none:=W.hideAll_none (trk h H) c;rw[z] at e;cases e
structure Mod(K:No)(mg:Str->Option V')(base:Heap):Prop where
 kin:K.In base
 glob:base.Ns Jy mg
 blt:∃ mb,base.Ns builtinsNs mb/\∀ x:Str,x ≠ "__name__" -> mb x=Ju x
 nolimit:base.NoLimit
structure Cx where
 prog:Ke
 w:Ki
 K:No
 mg:Str->Option V'
 base:Heap
 A:Kf
 N:List Str
 s₀:δ
 H₀:Hp
 env:Env
 outer:List Env
 stack:List Env
 ex:List γ
 fn:Str->Bool
 calm:Bool
 pn:List (γ×Obj)
 xe:V'->δ->Prop
noncomputable def frs(l:List Env):List γ:=l.filterMap (·.frame)
abbrev Cx.fs(X:Cx):List γ:=frs X.outer
def Vis(sc:Scope)(x:Str):Prop:=sc.names.lookup x=some .local∨sc.names.lookup x=some .cell∨sc.names.lookup x=some .free
def Loc(sc:Scope)(x:Str):Prop:=sc.names.lookup x=some .local∨sc.names.lookup x=some .cell
def Look(env:Env)(h:Heap)(m:Str->Option V')(x:Str)(u:V'):Prop :=
 (env.kindOf x=some .local/\m x=some u)∨((env.kindOf x=some .cell∨env.kindOf x=some .free)/\∃ c,env.cells.lookup x=some c/\h.IsCell c (some u))
structure Cx.Ok(X:Cx):Prop where
 mod:Mod X.K X.mg X.base
 kind:X.env.scope.kind=.function
 glob:X.env.globals=Jy
 blt:X.env.builtins=builtinsNs
 above:X.s₀.heap.objs.size<=X.env.locals
 inj:∀ x y c,X.env.cells.lookup x=some c->X.env.cells.lookup y=some c->x=y
 has:∀ x,(X.env.kindOf x=some .cell∨X.env.kindOf x=some .free)->∃ c,X.env.cells.lookup x=some c
 cab:∀ x c,X.fn x=true->X.env.cells.lookup x=some c->X.s₀.heap.objs.size<=c
 hd:X.calm=true->X.A.handled=none
 frames:X.A.frames=some X.stack
 stk:X.stack=X.outer∨(X.stack=X.env::X.outer/\X.env.frame=some X.env.locals)
 exf:∀ b∈X.ex,b≠X.env.locals/\∀ x c,X.env.cells.lookup x=some c->c≠b
 bs:∀ b o,X.base.get? b=some o->X.s₀.heap.get? b=some o/\X.H₀ b=none
 bsz:X.base.objs.size<=X.s₀.heap.objs.size
 noex:∀ b o,X.base.get? b=some o->b∉X.ex
 exfs:∀ b∈X.ex,b∉X.fs
 funs:X.s₀.heap.FunFrames X.base X.outer
 frf:∀ b∈X.fs,X.H₀ b=none
structure Oz(X:Cx)(D6:List (γ×Obj))(a:List (Option V))(H:Hp)(s:δ):Prop where
 ok:X.Ok
 os:s.os=X.s₀.os
 bare:AllBare s.gens
 base:Un X.fs X.ex X.H₀ H X.s₀.heap s.heap
 loc:∃ m,s.heap.Ns X.env.locals m/\∀(i:Nat)(x:Str)(v:V),X.N[i]? = some x->a[i]? = some (some v)->Vis X.env.scope x->∃ u,Ow v u/\Look X.env s.heap m x u
 cell:∀ x c,X.env.cells.lookup x=some c->∃ v,s.heap.IsCell c v
 free:H X.env.locals=none
 freeC:∀ x c,X.env.cells.lookup x=some c->H c=none
 pin:∀ p∈X.pn++D6,s.heap.get? p.1=some p.2/\H p.1=none/\p.1≠X.env.locals/\p.1∉X.fs/\∀ v,p.2.data≠.cell v
 hok:HOk X.prog X.w H s.heap
 len:a.length=X.N.length
section
variable{X:Cx}{D6:List (γ×Obj)}{σ:List (Option V)}{H H':Hp}{s:δ}{h':Heap}
theorem Cx.Ok.nofr(a:X.Ok){b:γ}{o:Obj}(e:X.base.get? b=some o):b∉X.fs:=λ c=>by
 have:=(a.funs.mem c).1
 rw[e] at this;cases this
theorem Oz.bs(I:Oz X D6 σ H s):∀ b o,X.base.get? b=some o->s.heap.get? b=some o/\H b=none:=λ b o e =>
 ⟨I.base.keep b o (I.ok.bs b o e).1 (I.ok.bs b o e).2 (I.ok.nofr e) (I.ok.noex b o e),I.base.free b o (I.ok.bs b o e).1 (I.ok.bs b o e).2 (I.ok.noex b o e)⟩
theorem Oz.bk(I:Oz X D6 σ H s):∀ b o,X.base.get? b=some o->s.heap.get? b=some o:=λ b o e=>(I.bs b o e).1
theorem Oz.mod(I:Oz X D6 σ H s):Mod X.K X.mg X.base:=I.ok.mod
theorem Oz.kIn(I:Oz X D6 σ H s):X.K.In s.heap:=I.ok.mod.kin.keeps I.bk
theorem Oz.lt(I:Oz X D6 σ H s):X.env.locals < s.heap.objs.size:=let ⟨_,hn,_⟩:=I.loc;hn.lt
theorem Oz.sz(I:Oz X D6 σ H s):X.s₀.heap.objs.size<=s.heap.objs.size:=zAj I.ok.above (zBa I.lt)
theorem Oz.nofs(I:Oz X D6 σ H s){a:γ}(h:s.heap.objs.size<=a):a∉X.fs:=λ b=>by
 obtain⟨_,o,c,_⟩:=I.ok.funs.mem b;exact absurd (zAi (zAc c) (zAj I.sz h)) (zC5 _)
theorem Oz.cne(I:Oz X D6 σ H s):∀ x c,X.env.cells.lookup x=some c->c≠X.env.locals:=λ x c e z=>by
 obtain⟨v,o,d,f⟩:=I.cell x c e;obtain⟨m,⟨g,h,i,a,b,_⟩,_⟩:=I.loc;rw[z,a] at d;cases d;rw[b] at f;cases f
theorem Oz.funs(I:Oz X D6 σ H s):s.heap.FunFrames X.base X.outer:=by
 have all:∀(l:List Env),(∀ b∈frs l,b∈X.fs)->X.s₀.heap.FunFrames X.base l->s.heap.FunFrames X.base l:=by
   intro l
   induction l with
   | nil=>intro _ _;trivial
   | cons g r h =>
     intro f i;obtain⟨j,⟨L,o,a,k,m,n⟩,p⟩:=i;have c:L∈X.fs:=f L (by unfold frs;rw[zC0,a];exact zAf);obtain⟨q,e⟩:=I.base.slot L o m (I.ok.frf L c) c λ z=>I.ok.exfs L z c
     exact⟨j,⟨L,_,a,k,e,n⟩,h (λ b d=>f b (by unfold frs;rw[zC0,a];exact zA7 _ d)) p⟩
 exact all X.outer (λ _ d=>d) I.ok.funs
theorem Oz.stack(I:Oz X D6 σ H s):s.heap.FunFrames X.base X.stack:=by
 rcases I.ok.stk with e | ⟨e,a⟩
 . rw[e];exact I.funs
 rw[e];obtain⟨m,b,_⟩:=I.loc;refine .cons (by rw[I.ok.kind];decide) a b ?_ I.funs;exact Heap.get?_none_of_le (zAj I.ok.bsz I.ok.above)
theorem Oz.stkSub(I:Oz X D6 σ H s):∀ b∈frs X.stack,b∈X.env.locals::X.fs:=λ b a=>by
 rcases I.ok.stk with e | ⟨e,c⟩
 . rw[e] at a;exact zA7 _ a
 rw[e] at a;unfold frs at a;rw[zC0,c] at a;exact a
theorem Oz.stkFree(I:Oz X D6 σ H s):∀ b∈frs X.stack,H b=none:=λ b a=>by
 rcases zAo.mp (I.stkSub b a) with e | a
 . rw[e];exact I.free
 obtain⟨_,o,c,_⟩:=I.ok.funs.mem a;exact I.base.free b o c (I.ok.frf b a) λ z=>I.ok.exfs b z a
theorem Oz.step{g':Array GenState}{d':Drawn}(I:Oz X D6 σ H s)(f:∀ b∈ch,(b∈X.ex∨X.s₀.heap.objs.size<=b)/\b≠X.env.locals/\(∀ x c,X.env.cells.lookup x=some c->c≠b)/\∀ p∈X.pn++D6,p.1≠b)(keep:∀ b o,b≠X.env.locals->b∉X.fs->b∉ch->s.heap.get? b=some o->H b=none->h'.get? b=some o)(slot:∀ b o,b≠X.env.locals->b∈X.fs->b∉ch->s.heap.get? b=some o->H b=none->∃ sl,h'.get? b=some { o with slots:=sl })(free:∀ b o,b∉ch->s.heap.get? b=some o->H b=none->H' b=none)(there:∀ b o,b∉ch->s.heap.get? b=some o->∃ o',h'.get? b=some o')(tups:∀ b xs,H b=some (.q xs)->H' b=some (.q xs))(frzs:∀ b o u,H b=some (.frz o u)->H' b=some (.frz o u))(tbls:∀ b ps,H b=some (.tbl ps)->∃ more,H' b=some (.tbl (ps++more)))(ns:∀ m,s.heap.Ns X.env.locals m->h'.Ns X.env.locals m)(B:HOk X.prog X.w H' h')(J:AllBare g') :
   Oz X D6 σ H' { s with heap:=h',gens:=g',drawn:=d',toks:=t' }:=by
 have A:∀ b o,X.s₀.heap.get? b=some o->b≠X.env.locals:=λ b o e=>zAt (zAi (zAc e) I.ok.above)
 have h:∀ b o,X.s₀.heap.get? b=some o->b∉X.ex->b∉ch:=λ b o e a t=>by
   rcases (f b t).1 with z | z
   . exact a z
   exact absurd (zAi (zAc e) z) (zC5 _)
 have cellK:∀ x c,X.env.cells.lookup x=some c->∀ v,s.heap.IsCell c v->h'.IsCell c v:=λ x c e v ⟨o,y,C⟩=>by
   have g:c∉ch:=λ z=>(f c z).2.2.1 x c e rfl
   by_cases E:c∈X.fs
   . obtain⟨sl,q⟩:=slot c o (I.cne x c e) E g y (I.freeC x c e)
     exact⟨_,q,C⟩
   exact⟨o,keep c o (I.cne x c e) E g y (I.freeC x c e),C⟩
 refine⟨I.ok,I.os,J,⟨λ b o e n t a=>?_,λ b o e n t a=>?_,λ b o e n a=>?_,λ b o e a=>?_,λ b xs e=>tups b xs (I.base.tups b xs e),λ b o xs e=>frzs b o xs (I.base.frzs b o xs e),λ b ps e=>?_⟩,?_,λ x c e=>?_,?_,λ x c e=>?_,λ p F=>?_,B,I.len⟩
 . exact keep b o (A b o e) t (h b o e a) (I.base.keep b o e n t a) (I.base.free b o e n a)
 . obtain⟨sl,j⟩:=I.base.slot b o e n t a
   obtain⟨D,e2⟩:=slot b _ (A b o e) t (h b o e a) j (I.base.free b o e n a);exact⟨D,e2⟩
 . obtain⟨o',j⟩:=I.base.there b o e a
   exact free b o' (h b o e a) j (I.base.free b o e n a)
 . obtain⟨o',j⟩:=I.base.there b o e a
   exact there b o' (h b o e a) j
 . obtain⟨K,j⟩:=I.base.tbls b ps e
   obtain⟨L,e2⟩:=tbls b _ j;exact⟨K++L,by rw[e2,Array.append_assoc]⟩
 . obtain⟨m,M,N⟩:=I.loc
   refine⟨m,ns m M,λ i x v j e2 O=>?_⟩;obtain⟨u,r,l⟩:=N i x v j e2 O;refine⟨u,r,?_⟩;rcases l with l | ⟨k,c,e,z⟩
   . exact .inl l
   exact .inr ⟨k,c,e,cellK x c e _ z⟩
 . obtain⟨v,z⟩:=I.cell x c e
   exact⟨v,cellK x c e v z⟩
 . obtain⟨m,⟨o,_,_,y,_⟩,_⟩:=I.loc
   exact free _ o (λ z=>(f _ z).2.1 rfl) y I.free
 . obtain⟨v,o,y,C⟩:=I.cell x c e
   exact free c o (λ z=>(f c z).2.2.1 x c e rfl) y (I.freeC x c e)
 obtain⟨e,n,G,nf,d⟩:=I.pin p F;have g:p.1∉ch:=λ z=>(f p.1 z).2.2.2 p F rfl
 exact⟨keep p.1 p.2 G nf g e n,free p.1 p.2 g e n,G,nf,d⟩
theorem Oz.un(I:Oz X D6 σ H s)(u:Un X.fs [] H H' s.heap h')(c:HOk X.prog X.w H' h'):Oz X D6 σ H' { s with heap:=h',toks:=t' }:=by
 obtain⟨m,⟨o,l,p,h,r⟩,_⟩:=id I.loc;obtain⟨q,i⟩:=u.any h I.free (by simp);exact I.step (g':=s.gens) (d':=s.drawn) (ch:=[]) (λ _ z=>nomatch z) (λ b o _ d _ e n=>u.keep b o e n d (by simp)) (λ b o _ d _ e n=>u.slot b o e n d (by simp)) (λ b o _ e n=>u.free b o e n (by simp)) (λ b o _ e=>u.there b o e (by simp)) u.tups u.frzs u.tbls (λ t j=>by
   obtain⟨v,f,g,a,k⟩:=j;rw[h] at a;cases a;exact⟨_,f,g,i,k⟩) c I.bare
theorem Oz.call{g':Array GenState}{d':Drawn}(I:Oz X D6 σ H s)(u:Un (frs X.stack) ch H H' s.heap h')(g:HOk X.prog X.w H' h')(l:AllBare g')(d:∀ b∈ch,(b∈X.ex∨X.s₀.heap.objs.size<=b)/\b≠X.env.locals/\(∀ x c,X.env.cells.lookup x=some c->c≠b)/\∀ p∈X.pn++D6,p.1≠b) :
   Oz X D6 σ H' { s with heap:=h',gens:=g',drawn:=d',toks:=t' }:=by
 obtain⟨m,⟨o,y,A,k,r⟩,_⟩:=id I.loc;obtain⟨B,h⟩:=u.any k I.free λ z=>(d _ z).2.1 rfl
 exact I.step (ch:=ch) d (λ b o h q a e n=>u.keep b o e n (λ z=>(zAo.mp (I.stkSub b z)).elim h q) a) (λ b o _ _ a e n=>u.any e n a) (λ b o a e n=>u.free b o e n a) (λ b o a e=>u.there b o e a) u.tups u.frzs u.tbls (λ C t=>by
   obtain⟨D,i,j,f,v⟩:=t;rw[k] at f;cases f;exact⟨_,i,j,h,v⟩) g l
theorem Oz.turned{it:γ}(I:Oz X D6 σ H s)(k:∀ b o,b≠it->s.heap.get? b=some o->h'.get? b=some o)(g:H it=none)(f:it≠X.env.locals)(h1:it∈X.ex∨X.s₀.heap.objs.size<=it)(h2:∀ x c,X.env.cells.lookup x=some c->c≠it)(h:∀ p∈X.pn++D6,p.1≠it):Oz X D6 σ H { s with heap:=h',toks:=t' }:=by
 have d:∀ b u,H b=some u->b≠it:=λ b u e z=>by rw[z,g] at e;cases e
 refine I.step (g':=s.gens) (d':=s.drawn) (ch:=[it]) (λ b i=>?_) (λ b o _ _ a e _=>k b o (λ z=>a (by simp[z])) e) (λ b o _ _ a e _=>⟨o.slots,k b o (λ z=>a (by simp[z])) e⟩) (λ _ _ _ _ n=>n)
   (λ b o a e=>⟨o,k b o (λ z=>a (by simp[z])) e⟩) (λ _ _ e=>e) (λ _ _ _ e=>e) (λ b y e=>⟨#[],by rw[e];simp⟩) (λ m j=>?_) (λ b u e=>?_) I.bare
 . have e:b=it:=by simpa using i
   subst e;exact⟨h1,f,h2,h⟩
 . obtain⟨o,l,t,w,r⟩:=j
   exact⟨o,l,t,k _ o (Ne.symm f) w,r⟩
 refine(I.hok b u e).stay (λ c v a q=>k c v ?_ q) (λ _ q=>q) λ _ _ q=>q
 rcases a with z | z
 . rw[z];exact d b u e
 exact d c _ z
theorem Oz.tok(I:Oz X D6 σ H s)(t:Nat):Oz X D6 σ H { s with toks:=t }:=I.un (h':=s.heap) (t':=t) Un.refl I.hok
theorem Oz.kept(I:Oz X D6 σ H s)(k:∀ b u,s.heap.get? b=some u->h'.get? b=some u):Oz X D6 σ H { s with heap:=h',toks:=t' }:=I.un (Un.kept k) (I.hok.kept k)
theorem Oz.laid{a:γ}{o:HO}(I:Oz X D6 σ H s)(k:∀ b u,s.heap.get? b=some u->h'.get? b=some u)(c:s.heap.objs.size<=a)(d:ObjOk X.prog X.w (upd H a o) h' a o) :
   Oz X D6 σ (upd H a o) { s with heap:=h',toks:=t' }:=I.un (Un.laid k c (I.hok.fresh c)) (I.hok.laid k c d)
theorem Oz.write{x e:γ}{o:HO}(I:Oz X D6 σ H s)(d:Mut (H x))(f:e=x∨H e=some (.own x))(k:∀ b u,b≠e->s.heap.get? b=some u->h'.get? b=some u)(a:∃ u,h'.get? e=some u)(c:ObjOk X.prog X.w (upd H x o) h' x o):Oz X D6 σ (upd H x o) { s with heap:=h',toks:=t' }:=I.un (Un.write d f k a) (I.hok.write d f k a c)
theorem Oz.pins_of{pins':List (γ×Obj)}(I:Oz X D6 σ H s)(h:∀ p∈pins',s.heap.get? p.1=some p.2/\H p.1=none/\p.1≠X.env.locals/\p.1∉X.fs/\∀ v,p.2.data≠.cell v):Oz X pins' σ H s :=
 ⟨I.ok,I.os,I.bare,I.base,I.loc,I.cell,I.free,I.freeC,λ p a=>(zA8.mp a).elim (λ z=>I.pin p (Lp _ z)) (h p),I.hok,I.len⟩
theorem qaf9(c:N.Nodup){j:Nat}{x:Str}(a:N[i]? = some x)(b:N[j]? = some x):i=j:=by
 obtain⟨e,d⟩:=zA4.mp a;obtain⟨f,e2⟩:=zA4.mp b;exact(Mt c).mp (d.trans e2.symm)
theorem qan3{A:Kf}{E:V'->δ->Prop}{x:Str}{v:V}{u:V'}{Q:Unit->δ->Prop}(I:Oz X D6 σ H s)(hN:X.N.Nodup)(hi:X.N[i]? = some x)(t:Loc X.env.scope x)(r:Ow v u)(h:∀ s',Oz X D6 (σ.set i (some v)) H s'->(∃ a,Heap.SameBut a s.heap s'.heap/\(a=X.env.locals∨X.env.cells.lookup x=some a))->Q () s')(hf:X.fn x=true∨X.env.scope.names.lookup x=some .local:=by first | exact .inl rfl | exact .inr rfl | assumption):Kc M A (storeName X.env x u) Q E s:=by
 obtain⟨m,W,hl⟩:=id I.loc;have K:(X.env.scope.kind == .class||(X.env.scope.kind == .module&&X.env.locals != X.env.globals))=false:=by rw[I.ok.kind];rfl
 have hiσ:i < σ.length:=by rw[I.len];exact(zA4.mp hi).1
 have C:=I.cne;have tracked:∀{a:γ}{J:Heap},(∃ o,s.heap.get? a=some o/\H a=none)->Heap.SameBut a s.heap J->HOk X.prog X.w H J:=λ{a J} ha f b ob e=>by
   obtain⟨_,_,hfree⟩:=ha;refine(I.hok b ob e).stay (λ c S l q=>(f.2 c ?_).trans q) (λ _ q=>q) λ _ _ q=>q
   rintro rfl;rcases l with rfl | l
   . rw[hfree] at e;cases e
   rw[hfree] at l;cases l
 rcases t with B | B
 . refine wpAny_storeName_local B W (λ J Y f=>?_) K
   obtain⟨oL,_,_,Z,_⟩:=id W;refine h _ ⟨I.ok,I.os,I.bare,⟨λ b o e n D t=>?_,λ b o e n D t=>?_,I.base.free,λ b o e t=>?_,I.base.tups,I.base.frzs,I.base.tbls⟩,⟨_,Y,λ j y v' g e2 e3=>?_⟩,λ y c e=>?_,I.free,I.freeC,λ p hp=>?_,tracked ⟨oL,Z,I.free⟩ f,by simpa using I.len⟩ ⟨_,f,.inl rfl⟩
   . exact(f.2 b (zAt (zAi (zAc e) I.ok.above))).trans (I.base.keep b o e n D t)
   . obtain⟨sl,g⟩:=I.base.slot b o e n D t
     exact⟨sl,(f.2 b (zAt (zAi (zAc e) I.ok.above))).trans g⟩
   . obtain⟨o',g⟩:=I.base.there b o e t
     exact⟨o',(f.2 b (zAt (zAi (zAc e) I.ok.above))).trans g⟩
   . by_cases F:j=i
     . subst F
       rw[hi] at g;cases g;rw[List.getElem?_set_self hiσ] at e2;cases e2;exact⟨u,r,.inl ⟨B,by simp⟩⟩
     rw[zBm (Ne.symm F)] at e2;obtain⟨u',r',q⟩:=hl j y v' g e2 e3;refine⟨u',r',?_⟩;rcases q with⟨k,e⟩ | ⟨k,c,e,z⟩
     . refine .inl ⟨k,?_⟩
       have:y≠x:=λ e=>F (qaf9 hN g (e ▸ hi))
       simp[this,e]
     exact .inr ⟨k,c,e,z.sameBut f (C y c e)⟩
   . obtain⟨S,z⟩:=I.cell y c e
     exact⟨S,z.sameBut f (C y c e)⟩
   obtain⟨e,n,T,nf,d⟩:=I.pin p hp;exact⟨(f.2 p.1 T).trans e,n,T,nf,d⟩
 have G:X.fn x=true:=by
   rcases hf with z | z
   . exact z
   rw[z] at B;cases B
 obtain⟨c,l⟩:=I.ok.has x (.inl B);obtain⟨S,z⟩:=I.cell x c l;refine wpAny_storeName_cell I.ok.kind B l z (λ J L f=>?_);obtain⟨oc,O,P⟩:=id z;refine h { s with heap:=J } ⟨I.ok,I.os,I.bare,⟨λ b o e n D t=>?_,λ b o e n D t=>?_,I.base.free,λ b o e t=>?_,I.base.tups,I.base.frzs,I.base.tbls⟩,⟨m,W.sameBut f (Ne.symm (C x c l)),λ j y v' g e2 e3=>?_⟩,λ y U e=>?_,I.free,I.freeC,λ p hp=>?_,tracked ⟨oc,O,I.freeC x c l⟩ f,by simpa using I.len⟩ ⟨c,f,.inr l⟩
 . exact(f.2 b (zAt (zAi (zAc e) (I.ok.cab x c G l)))).trans (I.base.keep b o e n D t)
 . obtain⟨sl,g⟩:=I.base.slot b o e n D t
   exact⟨sl,(f.2 b (zAt (zAi (zAc e) (I.ok.cab x c G l)))).trans g⟩
 . obtain⟨o',g⟩:=I.base.there b o e t
   exact⟨o',(f.2 b (zAt (zAi (zAc e) (I.ok.cab x c G l)))).trans g⟩
 . by_cases F:j=i
   . subst F
     rw[hi] at g;cases g;rw[List.getElem?_set_self hiσ] at e2;cases e2;exact⟨u,r,.inr ⟨.inl B,c,l,L⟩⟩
   rw[zBm (Ne.symm F)] at e2;obtain⟨u',r',q⟩:=hl j y v' g e2 e3;refine⟨u',r',?_⟩;rcases q with q | ⟨k,U,e,z'⟩
   . exact .inl q
   refine .inr ⟨k,U,e,z'.sameBut f ?_⟩;rintro rfl;exact F (qaf9 hN g (I.ok.inj _ _ _ e l ▸ hi))
 . by_cases R:U=c
   . subst R;exact⟨_,L⟩
   obtain⟨w2,z2⟩:=I.cell y U e;exact⟨w2,z2.sameBut f R⟩
 obtain⟨e,n,T,nf,d⟩:=I.pin p hp;refine⟨(f.2 p.1 ?_).trans e,n,T,nf,d⟩;intro q;rw[q,O] at e;have q':oc=p.2:=Nm e;exact d S (by rw[<- q'];exact P)
theorem qO1{A:Kf}{E:V'->δ->Prop}{x:Str}{v:V}{u:V'}{Q:Unit->δ->Prop}(I:Oz X D6 σ H s)(a:X.N.Nodup)(hi:X.N[i]? = some x)(b:Loc X.env.scope x)(r:Ow v u)(h:∀ s',Oz X D6 (σ.set i (some v)) H s'->Q () s')(c:X.fn x=true∨X.env.scope.names.lookup x=some .local:=by first | exact .inl rfl | exact .inr rfl | assumption):Kc M A (storeName X.env x u) Q E s :=
 qan3 I a hi b r (λ s' I' _=>h s' I') c
theorem Oz.call'{s':δ}(I:Oz X D6 σ H s)(i:s'.os=s.os)(u:Un (frs X.stack) ch H H' s.heap s'.heap)(a:HOk X.prog X.w H' s'.heap)(j:AllBare s'.gens)(d:∀ b∈ch,(b∈X.ex∨X.s₀.heap.objs.size<=b)/\b≠X.env.locals/\(∀ x c,X.env.cells.lookup x=some c->c≠b)/\∀ p∈X.pn++D6,p.1≠b):Oz X D6 σ H' s':=by
 obtain⟨l,f,g,h,k⟩:=s';have e:k=s.os:=i;subst e;exact I.call (g':=f) (t':=h) (d':=g) u a j d
end
abbrev XK:=V'->Option γ->Hp->Prop
abbrev St:=List (Option V)
abbrev VK:=V->Hp->Prop
abbrev TE:=St->Hp->VK->Prop
abbrev TT:=St->Hp->(Bool->Hp->Prop)->Prop
abbrev TA:=St->Hp->(List V->Hp->Prop)->Prop
structure Dv where
 nx:St->Hp->Prop
 rt:VK
 bk:St->Hp->Prop:=λ _ _=>False
 ct:St->Hp->Prop:=λ _ _=>False
abbrev TS:=Dv->St->Hp->Prop
def EP(X:Cx)(D6:List (γ×Obj))(a:St)(Q:VK)(u:V')(s':δ):Prop:=∃ v H',Oz X D6 a H' s'/\Ow v u/\Q v H'
def TP(X:Cx)(D6:List (γ×Obj))(a:St)(Q:Bool->Hp->Prop)(b:Bool)(s':δ):Prop:=∃ H',Oz X D6 a H' s'/\Q b H'
def AP(X:Cx)(D6:List (γ×Obj))(a:St)(Q:List V->Hp->Prop)(us:List V')(s':δ):Prop:=∃ vs H',Oz X D6 a H' s'/\Ox vs us/\Q vs H'
def SP(X:Cx)(D6:List (γ×Obj))(D:Dv)(f:Flow)(s':δ):Prop :=
 match f with
 | .next=>∃ a' H',Oz X D6 a' H' s'/\D.nx a' H'
 | .brk=>∃ a' H',Oz X D6 a' H' s'/\D.bk a' H'
 | .cont=>∃ a' H',Oz X D6 a' H' s'/\D.ct a' H'
 | .ret u=>∃ v a' H',Oz X D6 a' H' s'/\Ow v u/\D.rt v H'
def PE(X:Cx)(e:Kj)(t:TE):Prop :=
 ∀(D6:List (γ×Obj))(s:δ)(a:St)(H:Hp)(Q:VK),Oz X D6 a H s->t a H Q->Kc (Kd X.prog X.w) X.A (eval e X.env) (EP X D6 a Q) X.xe s
def PT(X:Cx)(e:Kj)(t:TT):Prop :=
 ∀(D6:List (γ×Obj))(s:δ)(a:St)(H:Hp)(Q:Bool->Hp->Prop),Oz X D6 a H s->t a H Q->Kc (Kd X.prog X.w) X.A (isTrue e X.env (eval e X.env)) (TP X D6 a Q) X.xe s
def PW(X:Cx)(e:Kj)(t:TT):Prop :=
 ∀(whole:Sem V')(D6:List (γ×Obj))(s:δ)(a:St)(H:Hp)(Q:Bool->Hp->Prop),Oz X D6 a H s->t a H Q->Kc (Kd X.prog X.w) X.A (isTrue e X.env whole) (TP X D6 a Q) X.xe s
theorem PW.pt{X:Cx}{e:Kj}{t:TT}(h:PW X e t):PT X e t:=h _
def PA(X:Cx)(es:List Kj)(t:TA):Prop :=
 ∀(pos:Pos)(D6:List (γ×Obj))(s:δ)(a:St)(H:Hp)(Q:List V->Hp->Prop),Oz X D6 a H s->t a H Q->Kc (Kd X.prog X.w) X.A (spliced (backTo pos (Jp es X.env))) (AP X D6 a Q) X.xe s
def PS(X:Cx)(st:Kk)(t:TS):Prop :=
 ∀(D6:List (γ×Obj))(s:δ)(a:St)(H:Hp)(D:Dv),Oz X D6 a H s->t D a H->Kc (Kd X.prog X.w) X.A (exec st X.env) (SP X D6 D) X.xe s
def PSs(X:Cx)(st:List Kk)(t:TS):Prop :=
 ∀(D6:List (γ×Obj))(s:δ)(a:St)(H:Hp)(D:Dv),Oz X D6 a H s->t D a H->Kc (Kd X.prog X.w) X.A (execs st X.env) (SP X D6 D) X.xe s
theorem thn{α:Type}{t:Sem α}{Q Q':α->δ->Prop}{A:Kf}{E:V'->δ->Prop}{s:δ}(h:Kc M A t Q E s)(b:∀ a s,Q a s->Q' a s):Kc M A t Q' E s:=J1 h b λ _ _ x=>x
section
variable{X:Cx}
def E5(i:Nat):TE:=λ n H Q=>∃ v,n[i]? = some (some v)/\Q v H
def tC(v:V):TE:=λ _ H Q=>Q v H
theorem qn3{x:Str}{pos:Pos}(f:X.N[i]? = some x)(g:Vis X.env.scope x)(b:N' x:=by decide)(d:(x == ("__classdict__" : Str))=false:=by decide):PE X (.Name x pos) (E5 i):=by
 intro D6 s n H Q I h;obtain⟨v,e,h⟩:=h;obtain⟨m,j,k⟩:=I.loc;obtain⟨u,r,l⟩:=k i x v f e g;have fin:EP X D6 n Q u s:=⟨v,H,I,r,h⟩
 rcases l with⟨a,hm⟩ | ⟨a,c,hc,hcell⟩
 . exact wpAny_Name (wpAny_loadName_local I.ok.kind a j hm fin) b
 rcases a with a | a
 . exact wpAny_Name (wpAny_loadName_cell I.ok.kind a hc hcell fin) b
 exact wpAny_Name (wpAny_loadName_free I.ok.kind a hc hcell fin d) b
theorem qJ7{i j pos}:PE X (.Constant (.int i) j pos) (tC (.int i)):=λ _ _ _ H _ I h=>wpAny_Constant_int ⟨.int i,H,I.tok _,⟨_,rfl⟩,h⟩
theorem pe_bl{b j pos}:PE X (.Constant (.bool b) j pos) (tC (.bl b)):=λ _ _ _ H _ I h=>Constant_bool ⟨.bl b,H,I,rfl,h⟩
theorem qaK3{j pos}:PE X (.Constant .none j pos) (tC .non):=λ _ _ _ H _ I h=>Constant_none ⟨.non,H,I,rfl,h⟩
theorem qaS9{x j pos}:PE X (.Constant (.str x) j pos) (tC (.str x)):=λ _ _ _ H _ I h=>Calls.Constant_str ⟨.str x,H,I.tok _,⟨_,rfl⟩,h⟩
def Gl(X:Cx)(x:Str):Prop:=X.env.kindOf x=some .globalImplicit
theorem qah8{E:V'->δ->Prop}{D6:List (γ×Obj)}{s:δ}{n:St}{H:Hp}{x:Str}{u:V'}{pos:Pos}{Q:V'->δ->Prop}(I:Oz X D6 n H s)(a:Gl X x)(hm:X.mg x=some u)(h:Q u s)(b:N' x:=by decide):Kc (Kd X.prog X.w) X.A (eval (.Name x pos) X.env) Q E s :=
 Calls.Name_function_global I.ok.kind a (Calls.loadGlobal_global (by rw[I.ok.glob];exact I.mod.glob.keeps I.bk) hm h) b
theorem qah9{E:V'->δ->Prop}{D6:List (γ×Obj)}{s:δ}{n:St}{H:Hp}{x:Str}{u:V'}{pos:Pos}{Q:V'->δ->Prop}(I:Oz X D6 n H s)(a:Gl X x)(hm:X.mg x=none)(b:Ju x=some u)(h:Q u s)(c:x ≠ "__name__" := by decide)(d:N' x:=by decide):Kc (Kd X.prog X.w) X.A (eval (.Name x pos) X.env) Q E s:=by
 obtain⟨g,e,f⟩:=I.mod.blt;exact Calls.Name_function_global I.ok.kind a (Calls.loadGlobal_builtin (by rw[I.ok.glob];exact I.mod.glob.keeps I.bk) hm (by rw[I.ok.blt];exact e.keeps I.bk) ((f x c).trans b) h) d
theorem qav5{x:Str}{v:V}{u:V'}{pos:Pos}(a:Gl X x)(hm:X.mg x=some u)(r:Ow v u)(b:N' x:=by decide):PE X (.Name x pos) (tC v) :=
 λ _ _ _ H _ I h=>qah8 I a hm ⟨v,H,I,r,h⟩ b
theorem qaK5{x:Str}{v:V}{u:V'}{pos:Pos}(a:Gl X x)(hm:X.mg x=none)(b:Ju x=some u)(r:Ow v u)(c:x ≠ "__name__" := by decide)(d:N' x:=by decide):PE X (.Name x pos) (tC v) :=
 λ _ _ _ H _ I h=>qah9 I a hm b ⟨v,H,I,r,h⟩ c d
variable{a b:Kj}{o p:TE}{pos:Pos}
def tB(t:TE):TT:=λ n H Q=>t n H λ x H1=>∃ c,x=.bl c/\Q c H1
theorem qaA4{e:Kj}{t:TE}(h:PE X e t)(b:∀ whole,isTrue e X.env whole=(do let v <- whole;standAt e.pos;holding [v] (truthy v)):=by intro _;rfl):PT X e (tB t):=by
 intro D6 s n H Q I c;refine isTrue_plain (thn (h D6 s n H _ I c) λ v i a=>?_) (b _);obtain⟨x,H1,I1,f,g⟩:=a;obtain⟨d,rfl,q⟩:=g;cases f;exact Jv ⟨H1,I1,q⟩
variable{y tB':TT}{rest:List Kj}
def tAnd(t u:TT):TT:=λ n H Q=>t n H λ c H1=>if c=true then u n H1 Q else Q false H1
def tOr(t u:TT):TT:=λ n H Q=>t n H λ c H1=>if c=true then Q true H1 else u n H1 Q
def tNot(t:TT):TT:=λ n H Q=>t n H λ c H1=>Q (!c) H1
theorem qaI9(b:PT X a y):PW X (.BoolOp .And [a] pos) y:=by
 intro d D6 s n H Q I h;refine isTrue_and (thn (b D6 s n H Q I h) λ c f e=>?_);cases c with
 | true=>exact isTrue_and_nil e
 | false=>exact e
theorem qaS2(b:PT X a y):PW X (.BoolOp .Or [a] pos) y:=by
 intro d D6 s n H Q I h;refine isTrue_or (thn (b D6 s n H Q I h) λ c f e=>?_);cases c with
 | false=>exact isTrue_or_nil e
 | true=>exact e
theorem qaS3(f:PT X a y)(g:PW X (.BoolOp .And (b::rest) pos) tB'):PW X (.BoolOp .And (a::b::rest) pos) (tAnd y tB'):=by
 intro i D6 s n H Q I h;refine isTrue_and (thn (f D6 s n H _ I h) λ c j d=>?_);obtain⟨H1,I1,e⟩:=d;cases c with
 | true=>exact g i D6 j n H1 Q I1 e
 | false=>exact⟨H1,I1,e⟩
theorem pw_or(f:PT X a y)(g:PW X (.BoolOp .Or (b::rest) pos) tB'):PW X (.BoolOp .Or (a::b::rest) pos) (tOr y tB'):=by
 intro i D6 s n H Q I h;refine isTrue_or (thn (f D6 s n H _ I h) λ c j d=>?_);obtain⟨H1,I1,e⟩:=d;cases c with
 | true=>exact⟨H1,I1,e⟩
 | false=>exact g i D6 j n H1 Q I1 e
theorem qaJ0(b:PT X a y):PT X (.UnaryOp .Not a pos) (tNot y):=by
 intro D6 s n H Q I h;exact isTrue_not (b D6 s n H (λ c H1=>Q (!c) H1) I h)
def tAndV(o p:TE):TE:=λ n H Q=>o n H λ x H1=>∃ c,x=.bl c/\if c=true then p n H1 Q else Q (.bl false) H1
def tOrV(o p:TE):TE:=λ n H Q=>o n H λ x H1=>∃ c,x=.bl c/\if c=true then Q (.bl true) H1 else p n H1 Q
def tNotV(o:TE):TE:=λ n H Q=>o n H λ x H1=>∃ c,x=.bl c/\Q (.bl (!c)) H1
theorem qao7{op}{t:TE}(h:PE X a t):PE X (.BoolOp op [a] pos) t:=λ D6 s n H Q I b=>BoolOp_one (h D6 s n H Q I b)
theorem qap0(f:PE X a o)(g:PE X (.BoolOp .And (b::rest) pos) p):PE X (.BoolOp .And (a::b::rest) pos) (tAndV o p):=by
 intro D6 s n H Q I h;refine BoolOp_and (thn (f D6 s n H _ I h) λ v i e=>?_);obtain⟨x,H1,I1,j,d⟩:=e;obtain⟨c,rfl,d⟩:=d;cases j;refine Jv ?_;cases c with
 | true=>exact g D6 i n H1 Q I1 d
 | false=>exact⟨.bl false,H1,I1,rfl,d⟩
theorem pe_or(f:PE X a o)(g:PE X (.BoolOp .Or (b::rest) pos) p):PE X (.BoolOp .Or (a::b::rest) pos) (tOrV o p):=by
 intro D6 s n H Q I h;refine BoolOp_or (thn (f D6 s n H _ I h) λ v i e=>?_);obtain⟨x,H1,I1,j,d⟩:=e;obtain⟨c,rfl,d⟩:=d;cases j;refine Jv ?_;cases c with
 | false=>exact g D6 i n H1 Q I1 d
 | true=>exact⟨.bl true,H1,I1,rfl,d⟩
theorem qaK2(e:PE X a o):PE X (.UnaryOp .Not a pos) (tNotV o):=by
 intro D6 s n H Q I h;refine UnaryOp_ (thn (e D6 s n H _ I h) λ v g b=>?_);obtain⟨x,H1,I1,f,d⟩:=b;obtain⟨c,rfl,d⟩:=d;cases f;exact not_of (Jv ⟨.bl (!c),H1,I1,rfl,d⟩)
def tIf(t:TT)(o p:TE):TE:=λ n H Q=>t n H λ c H1=>if c=true then o n H1 Q else p n H1 Q
theorem qae9{c:Kj}(i:PT X c y)(j:PE X a o)(k:PE X b p):PE X (.IfExp c a b pos) (tIf y o p):=by
 intro D6 s n H Q I h;refine wpAny_IfExp (thn (i D6 s n H _ I h) λ d f e=>?_);obtain⟨H1,I1,g⟩:=e;cases d with
 | true=>exact j D6 f n H1 Q I1 g
 | false=>exact k D6 f n H1 Q I1 g
end
def SqL(K:No)(H:Hp)(a:γ)(xs:List V):Prop :=
 Rd H a (.l xs) ∨
   ∃(o:Obj)(its:Array V')(n:Nat),K.lookup a=some o/\o.cls=.type "list" /\ o.dict=none/\o.data=.seq its n/\its.size<=Jq/\Ox xs its.toList
def SqT(K:No)(H:Hp)(a:γ)(xs:List V):Prop :=
 Rd H a (.q xs) ∨
   ∃(o:Obj)(its:Array V')(n:Nat),K.lookup a=some o/\o.cls=.type "tuple" /\ o.data=.seq its n/\its.size<=Jq/\Ox xs its.toList
noncomputable def absV:V'->Option V
 | .none=>some .non
 | .bool b=>some (.bl b)
 | .int i _=>some (.int i)
 | .str x _=>some (.str x)
 | .bytes b _=>some (.byt b)
 | .float b _=>some (.flt b)
 | .ref a=>some (.ref a)
 | .type n=>some (.ty n)
 | _=>none
theorem Ow.abs{x:V}{u:V'}(r:Ow x u):absV u=some x:=by
 cases x with
 | non=>cases r;rfl
 | bl _=>cases r;rfl
 | int _=>obtain⟨t,rfl⟩:=r;rfl
 | str _=>obtain⟨t,rfl⟩:=r;rfl
 | byt _=>obtain⟨t,rfl⟩:=r;rfl
 | flt _=>obtain⟨t,rfl⟩:=r;rfl
 | ref _=>cases r;rfl
 | ty _=>cases r;rfl
theorem Ow.inj{x y:V}{u:V'}(r:Ow x u)(q:Ow y u):x=y:=Nm (r.abs.symm.trans q.abs)
theorem Ox.inj{xs ys:List V}(h:Ox xs us)(g:Ox ys us):xs=ys:=by
 induction h generalizing ys with
 | nil=>cases g;rfl
 | cons r t i=>cases g with | cons q u=>rw[r.inj q,i u]
section
variable{X:Cx}{q:List (γ×Obj)}{m:St}{H:Hp}{s:δ}{a:γ}{xs ys:List V}
theorem SqL.of{K:No}(h:H a=some (.l xs)):SqL K H a xs:=.inl (.inl h)
theorem Oz.list(I:Oz X q m H s)(h:SqL X.K H a xs):∃ its:List V',Ox xs its/\PlainL s.heap a its.toArray/\xs.length<=Jq:=by
 rcases h with h | ⟨o,its,n,b,c,d,f,g,r⟩
 . obtain⟨z,its,n,r,e⟩:=h.ok I.hok
   exact⟨its,r,⟨_,n,e,rfl,rfl,rfl⟩,z⟩
 refine⟨its.toList,r,⟨o,n,I.kIn a o b,c,d,by simpa using f⟩,?_⟩;have e:=r.length;simp only[zB7] at e;lia
theorem Oz.tuple(I:Oz X q m H s)(h:SqT X.K H a xs):∃ its:List V',Ox xs its/\IsTup s.heap a its.toArray/\xs.length<=Jq:=by
 rcases h with h | ⟨o,its,n,b,c,d,f,r⟩
 . obtain⟨z,its,r,p⟩:=h.ok I.hok
   exact⟨its,r,p,z⟩
 refine⟨its.toList,r,⟨o,I.kIn a o b,c,n,by simpa using d⟩,?_⟩;have e:=r.length;simp only[zB7] at e;lia
theorem Oz.list_inj(I:Oz X q m H s)(h:SqL X.K H a xs)(h':SqL X.K H a ys):xs=ys:=by
 obtain⟨b,r,⟨o,n,e,_,_,d⟩,_⟩:=I.list h;obtain⟨its',g,⟨j,k,c,_,_,f⟩,_⟩:=I.list h';rw[e] at c;cases c;rw[d] at f;injection f with i _
 have:b=its':=by simpa using congrArg Array.toList i
 subst this;exact r.inj g
end
noncomputable abbrev Cx.wish(X:Cx)(E:V'->δ->Prop):Cx:={ X with xe:=E }
abbrev Cx.nox(X:Cx):Cx:=X.wish λ _ _=>False
theorem Cx.Ok.wish{X:Cx}(a:X.Ok)(E:V'->δ->Prop):(X.wish E).Ok :=
 ⟨a.mod,a.kind,a.glob,a.blt,a.above,a.inj,a.has,a.cab,a.hd,a.frames,a.stk,a.exf,a.bs,a.bsz,a.noex,a.exfs,a.funs,a.frf⟩
theorem Cx.Ok.unwish{X:Cx}{E:V'->δ->Prop}(a:(X.wish E).Ok):X.Ok :=
 ⟨a.mod,a.kind,a.glob,a.blt,a.above,a.inj,a.has,a.cab,a.hd,a.frames,a.stk,a.exf,a.bs,a.bsz,a.noex,a.exfs,a.funs,a.frf⟩
section
variable{X:Cx}{c:List (γ×Obj)}{b:St}{H:Hp}{s:δ}{E:V'->δ->Prop}
theorem Oz.wish(I:Oz X c b H s)(E:V'->δ->Prop):Oz (X.wish E) c b H s:=⟨I.ok.wish E,I.os,I.bare,I.base,I.loc,I.cell,I.free,I.freeC,I.pin,I.hok,I.len⟩
theorem Oz.unwish(I:Oz (X.wish E) c b H s):Oz X c b H s:=⟨I.ok.unwish,I.os,I.bare,I.base,I.loc,I.cell,I.free,I.freeC,I.pin,I.hok,I.len⟩
theorem SP.unwish{D:Dv}{f:Flow}{s':δ}(h:SP (X.wish E) c D f s'):SP X c D f s':=by
 cases f with
 | next=>obtain⟨b',H',I,q⟩:=h;exact⟨b',H',I.unwish,q⟩
 | brk=>obtain⟨b',H',I,q⟩:=h;exact⟨b',H',I.unwish,q⟩
 | cont=>obtain⟨b',H',I,q⟩:=h;exact⟨b',H',I.unwish,q⟩
 | ret u=>obtain⟨v,b',H',I,r,q⟩:=h;exact⟨v,b',H',I.unwish,r,q⟩
theorem PSs.nox{st:List Kk}{t:TS}(h:PSs X.nox st t):PSs X st t:=λ c s b H D I a =>
 J1 (h c s b H D (I.wish _) a) (λ _ _ q=>q.unwish) λ _ _ z=>Om z
end
section
variable{X:Cx}{n:Kk}{rest:List Kk}{t u:TS}{e:Kj}{te:TE}{m:Pos}
def tNext:TS:=λ D l H=>D.nx l H
def tSeq(t u:TS):TS:=λ D l H=>t { D with nx:=u D } l H
theorem qav0:PSs X [] tNext:=λ _ _ l H _ I h=>wpAny_execs_nil ⟨l,H,I,h⟩
theorem qQ1(h1:PS X n t)(h2:PSs X rest u):PSs X (n::rest) (tSeq t u):=by
 intro D6 s l H D I h;refine wpAny_execs_cons (thn (h1 D6 s l H { D with nx:=u D } I h) λ f a q=>?_);cases f with
 | next =>
   obtain⟨l',H',I',q⟩:=q;exact h2 D6 a l' H' D I' q
 | ret v=>exact q
 | brk=>exact q
 | cont=>exact q
theorem qy9(h1:PS X n t):PSs X [n] t:=by
 intro D6 s l H D I h;refine wpAny_execs_cons (thn (h1 D6 s l H D I h) λ f a q=>?_);cases f with
 | next=>exact wpAny_execs_nil q
 | ret v=>exact q
 | brk=>exact q
 | cont=>exact q
theorem Oz.quiet{D6:List (γ×Obj)}{l:St}{H:Hp}{s:δ}(I:Oz X D6 l H s):interactive X.env=false:=by simp[interactive,I.ok.kind]
def tDrop(te:TE):TS:=λ D l H=>te l H λ _ H1=>D.nx l H1
theorem qaJ2(a:PE X e te)(b:swapsWith e none m.line X.env=pure false:=by rfl):PS X (.Expr e m) (tDrop te):=by
 intro D6 s l H D I h;exact wpAny_Expr_any (thn (a D6 s l H _ I h) λ v d ⟨x,H1,I1,f,c⟩=>⟨l,H1,I1,c⟩) I.quiet b
def tRet(te:TE):TS:=λ D l H=>te l H D.rt
theorem qZ6(a:PE X e te):PS X (.Return (some e) m) (tRet te):=by
 intro D6 s l H D I h;exact wpAny_Return_some (thn (a D6 s l H _ I h) λ v d ⟨x,H1,I1,b,c⟩=>⟨x,l,H1,I1,b,c⟩)
def tIfS(c:TT)(t u:TS):TS:=λ D l H=>c l H λ b H1=>if b=true then t D l H1 else u D l H1
theorem ps_if{c:Kj}{a b:List Kk}{tc:TT}(i:PT X c tc)(j:PSs X a t)(k:PSs X b u):PS X (.If c a b m) (tIfS tc t u):=by
 intro D6 s l H D I h;refine wpAny_If (thn (i D6 s l H _ I h) λ d f e=>?_);obtain⟨H1,I1,g⟩:=e;cases d with
 | true=>exact j D6 f l H1 D I1 g
 | false=>exact k D6 f l H1 D I1 g
def qaR8:TS:=λ _ _ _=>False
theorem qaA6:PS X n qaR8:=λ _ _ _ _ _ _ h=>h.elim
end
abbrev TG:=V->St->Hp->(St->Hp->Prop)->Prop
abbrev TGs:=List V->St->Hp->(St->Hp->Prop)->Prop
def PG(X:Cx)(target:Kj)(t:TG):Prop :=
 ∀(D6:List (γ×Obj))(s:δ)(a:St)(H:Hp)(v:V)(u:V')(Q:St->Hp->Prop),Oz X D6 a H s->Ow v u->t v a H Q ->
   Kc (Kd X.prog X.w) X.A (assign target X.env u) (λ _ s'=>∃ a' H',Oz X D6 a' H' s'/\Q a' H') X.xe s
def PGs(X:Cx)(a:List Kj)(t:TGs):Prop :=
 ∀(D6:List (γ×Obj))(s:δ)(b:St)(H:Hp)(vs:List V)(us:List V')(Q:St->Hp->Prop),Oz X D6 b H s->Ox vs us->t vs b H Q ->
   Kc (Kd X.prog X.w) X.A (assignInOrder ((Ka a X.env).map (·.2)) us) (λ _ s'=>∃ b' H',Oz X D6 b' H' s'/\Q b' H') X.xe s
abbrev Hs:=V->V->V->Hp->(Hp->Prop)->Prop
def PSet(X:Cx)(t:Hs):Prop :=
 ∀(D6:List (γ×Obj))(s:δ)(a:St)(H:Hp)(o i v:V)(ov iv u:V')(Q:Hp->Prop),Oz X D6 a H s->Ow o ov->Ow i iv->Ow v u->t o i v H Q ->
   Kc (Kd X.prog X.w) X.A (setItem ov iv u) (λ _ s'=>∃ H',Oz X D6 a H' s'/\Q H') X.xe s
abbrev TIp:=V->V->Hp->VK->Prop
def PIp(X:Cx)(op:Operator)(t:TIp):Prop :=
 ∀(D6:List (γ×Obj))(s:δ)(a:St)(H:Hp)(x y:V)(v u:V')(Q:VK),Oz X D6 a H s->Ow x v->Ow y u->t x y H Q ->
   Kc (Kd X.prog X.w) X.A (inplaceOp op v u) (EP X D6 a Q) X.xe s
section
variable{X:Cx}{pos:Pos}
def Et(i:Nat):TG:=λ v R H Q=>Q (R.set i (some v)) H
theorem qav3{x:Str}(a:X.N.Nodup)(hi:X.N[i]? = some x)(b:Loc X.env.scope x)(c:X.fn x=true∨X.env.scope.names.lookup x=some .local:=by first | exact .inl rfl | exact .inr rfl | assumption):PG X (.Name x pos) (Et i):=by
 intro D6 s R H v u Q I r h;exact wpAny_assign_Name (qO1 I a hi b r (λ d I'=>⟨_,H,I',h⟩) c)
def gNil:TGs:=λ vs R H Q=>vs=[]/\Q R H
def gCons(t:TG)(u:TGs):TGs:=λ vs R H Q=>∃ v r,vs=v::r/\t v R H λ R' H'=>u r R' H' Q
theorem qaJ8:PGs X [] gNil:=by
 intro D6 s R H a b Q I r h;obtain⟨e,h⟩:=h;subst e;cases r;exact assignInOrder_nil ⟨R,H,I,h⟩
theorem qaB1{e:Kj}{es:List Kj}{t:TG}{u:TGs}(h1:PG X e t)(h2:PGs X es u)(b:(Ka (e::es) X.env).map (·.2)=assign e X.env::(Ka es X.env).map (·.2):=by rfl):PGs X (e::es) (gCons t u):=by
 intro D6 s R H i j Q I r h;obtain⟨v,k,c,h⟩:=h;subst c;cases r with
 | cons r d =>
   rw[b];refine assignInOrder_cons (thn (h1 D6 s R H _ _ _ I r h) λ _ f a=>?_);obtain⟨σ1,H1,I1,g⟩:=a;exact h2 D6 f σ1 H1 _ _ Q I1 d g
def gTup(K:No)(n:Nat)(t:TGs):TG:=λ v R H Q=>∃ a xs,v=.ref a/\SqT K H a xs/\xs.length=n/\t xs R H Q
theorem qaS6{es:List Kj}{k:Nat}{t:TGs}(g:X.calm=true)(h:PGs X es t)(i:(Ka es X.env).length=n:=by rfl)(c:(Ka es X.env).findIdx? (·.1)=none:=by rfl):PG X (.Tuple es k pos) (gTup X.K n t):=by
 intro D6 s R H v u Q I r d;obtain⟨a,j,l,m,p,d⟩:=d;subst l;cases r;obtain⟨q,f,w,z⟩:=I.tuple m;refine assign_Tuple_tuple (I.ok.hd g) w (by simp[i,<- p,f.length]) c λ x y=>?_
 have I1:Oz X D6 R H { s with heap:=x }:=I.kept (t':=s.toks) λ b o e=>y b o (zAt (zAc e)) e
 exact h D6 _ R H j _ Q I1 (by simpa using f) d
def gSub(to a:TE)(t:Hs):TG:=λ v R H Q=>to R H λ o H1=>a R H1 λ i H2=>t o i v H2 λ H3=>Q R H3
theorem qaS7{o i:Kj}{to b:TE}{t:Hs}(c:PE X o to)(hi:PE X i b)(d:PSet X t)(e:∀ v,assign (.Subscript o i pos) X.env v=(do
     let ov <- holding [v] (eval o X.env)
     let iv <- holding [v,ov] (eval i X.env)
     standAt pos
     holding [v,ov,iv] (setItem ov iv v)
     release [v,ov,iv] []):=by intro _;rfl):PG X (.Subscript o i pos) (gSub to b t):=by
 intro D6 s R H v u Q I r h;rw[e];refine E' (Jt (thn (c D6 s R H _ I h) λ ov f a=>?_));obtain⟨x,H1,I1,g,j⟩:=a;refine E' (Jt (thn (hi D6 f R H1 _ I1 j) λ iv k a=>?_));obtain⟨y,H2,I2,l,q2⟩:=a;refine E' (wpAny_standAt (E' (Jt (thn (d D6 k R H2 x y v ov iv u _ I2 g l r q2) λ _ n a=>?_))));obtain⟨H3,I3,m⟩:=a;exact wpAny_release ⟨R,H3,I3,m⟩
def Ha(te:TE)(g:TG):TS:=λ D R H=>te R H λ x H1=>g x R H1 D.nx
theorem qaS5{tg e:Kj}{te:TE}{g:TG}(b:PE X e te)(c:PG X tg g)(d:swapsWithSole [tg] e pos.line X.env=pure false:=by rfl)(f:swappedStores [tg] e X.env=pure none:=by rfl)(h1:(Ka [tg] X.env).map (·.2)=[assign tg X.env]:=by rfl):PS X (.Assign [tg] e pos) (Ha te g):=by
 intro D6 s R H D I h;refine wpAny_Assign_stores (thn (b D6 s R H _ I h) λ v i a=>?_) d f;obtain⟨x,H1,I1,j,k⟩:=a;rw[h1];exact thn (c D6 i R H1 x v _ I1 j k) λ _ l q=>q
theorem qaJ1{x:Str}{e:Kj}{te:TE}{pos':Pos}(b:X.N.Nodup)(hi:X.N[i]? = some x)(c:Loc X.env.scope x)(d:PE X e te)(f:swapsWith e (some (.Name x pos')) pos.line X.env=pure false:=by rfl)(g:X.fn x=true∨X.env.scope.names.lookup x=some .local:=by first | exact .inl rfl | exact .inr rfl | assumption) :
   PS X (.Assign [.Name x pos'] e pos) (Ha te (Et i)):=by
 intro D6 s R H D I h;refine wpAny_Assign_Name (thn (d D6 s R H _ I h) λ v l a=>?_) f;obtain⟨y,H1,I1,j,k⟩:=a;exact qO1 I1 b hi c j (λ m I2=>⟨_,H1,I2,k⟩) g
def tAugS(to b te:TE)(tget:V->V->Hp->VK->Prop)(a:TIp)(tset:Hs):TS:=λ D R H=>to R H λ o H1=>b R H1 λ i H2=>tget o i H2 λ x H3=>te R H3 λ y H4=>a x y H4 λ z H5=>tset o i z H5 λ H6=>D.nx R H6
def PGet(X:Cx)(t:V->V->Hp->VK->Prop):Prop :=
 ∀(D6:List (γ×Obj))(s:δ)(R:St)(H:Hp)(o i:V)(ov iv:V')(Q:VK),Oz X D6 R H s->Ow o ov->Ow i iv->t o i H Q ->
   Kc (Kd X.prog X.w) X.A (getItem ov iv) (EP X D6 R Q) X.xe s
theorem qaJ3{o i e:Kj}{to j te:TE}{tget:V->V->Hp->VK->Prop}{f:TIp}{tset:Hs}{op:Operator}{tpos:Pos}(p:PE X o to)(hi:PE X i j)(q:PGet X tget)(r:PE X e te)(t:PIp X op f)(u:PSet X tset)(w:∀ c d b,augStore i c d b=(do holding [b,c,d] (setItem c d b);release [b,c,d] [];pure .next):=by intros;rfl):PS X (.AugAssign (.Subscript o i tpos) op e pos) (tAugS to j te tget f tset):=by
 intro D6 s R H D I h;refine wpAny_AugAssign_SubscriptAny (thn (p D6 s R H _ I h) λ c x a=>?_) w;obtain⟨k,H1,I1,l,y⟩:=a;refine thn (hi D6 x R H1 _ I1 y) λ d z a=>?_
 obtain⟨m,H2,I2,n,q2⟩:=a;refine thn (q D6 z R H2 k m c d _ I2 l n q2) λ g A a=>?_
 obtain⟨B,H3,I3,C,E⟩:=a;refine thn (r D6 A R H3 _ I3 E) λ v F a=>?_
 obtain⟨G,H4,I4,J,K⟩:=a;refine thn (t D6 F R H4 B G g v _ I4 C J K) λ b L a=>?_
 obtain⟨M,H5,I5,N,O⟩:=a;exact thn (u D6 L R H5 k m M c d b _ I5 l n N O) λ _ Q ⟨H6,I6,P⟩=>⟨R,H6,I6,P⟩
def ipI(f:Int->Int->Int):TIp:=λ x y H Q=>∃ i j,x=.int i/\y=.int j/\Q (.int (f i j)) H
theorem qaW4:PIp X .Add (ipI λ i j=>i+j):=by
 intro D6 s R H x y v u Q I a b h;obtain⟨i,j,c,e2,q⟩:=h;subst c;subst e2;obtain⟨t,rfl⟩:=a;obtain⟨d,rfl⟩:=b;exact iadd_int ⟨.int _,H,I.tok _,⟨_,rfl⟩,q⟩
end
section
variable{X:Cx}{B:Pos}
def qaR7(c:TT)(tb:TS):TS:=λ D z H=>∃ W:Nat->St->Hp->Prop,(∃ m,W m z H)/\∀ m z H,W m z H ->
 c z H λ b H1=>if b=true then ∃ N:St->Hp->Prop,(∀ z' H',N z' H'->∃ a,a < m/\W a z' H')/\tb { D with nx:=N,ct:=N,bk:=D.nx } z H1 else D.nx z H1
theorem qaA5{c:Kj}{tc:TT}{tb:TS}(k:PassesOwn (Kd X.prog X.w) X.A X.env X.xe)(m:PT X c tc)(o:PSs X body tb):PS X (.While c body [] B) (qaR7 tc tb):=by
 intro D6 s z H D I h;obtain⟨W,⟨p,q⟩,turn⟩:=h;refine wpAny_While (codeAny_whileLoop (λ n r=>∃ z' H',Oz X D6 z' H' r/\W n z' H') ?_ p ⟨z,H,I,q⟩);rintro n t ⟨σ1,H1,I1,u⟩;refine J2 k (thn (m D6 t σ1 H1 _ I1 (turn n σ1 H1 u)) λ b x d=>?_);obtain⟨H2,I2,q2⟩:=d;cases b with
 | true =>
   obtain⟨N,l,q2⟩:=q2;rw[if_pos rfl];refine J2 k (thn (o D6 x σ1 H2 _ I2 q2) λ f y a=>?_);cases f with
   | next =>
     obtain⟨σ3,H3,I3,e⟩:=a;obtain⟨g,i,j⟩:=l σ3 H3 e;exact⟨g,i,σ3,H3,I3,j⟩
   | cont =>
     obtain⟨σ3,H3,I3,e⟩:=a;obtain⟨g,i,j⟩:=l σ3 H3 e;exact⟨g,i,σ3,H3,I3,j⟩
   | brk=>exact a
   | ret v=>exact a
 | false =>
   rw[if_neg zAm];exact wpAny_execs_nil ⟨σ1,H2,I2,q2⟩
end
structure It where
 go:Nat->Hp->Prop
 yld:Nat->Hp->V->Hp->Prop
 stop:Nat->Hp->Prop
def Ft(X:Cx)(D6:List (γ×Obj))(H:Hp)(b:γ):Prop :=
 H b=none/\b≠X.env.locals/\b∉X.fs/\(b∈X.ex∨X.s₀.heap.objs.size<=b)/\(∀ x c,X.env.cells.lookup x=some c->c≠b)/\∀ p∈X.pn++D6,p.1≠b
theorem Oz.fpOk{X:Cx}{D6:List (γ×Obj)}{g:St}{H H':Hp}{s:δ}{b:γ}(I:Oz X D6 g H s)(a:s.heap.objs.size<=b)(d:H' b=none):Ft X D6 H' b:=by
 refine⟨d,Nat.ne_of_gt (zAi I.lt a),I.nofs a,.inr (zAj I.sz a),λ x c e z=>?_,λ p f z=>?_⟩
 . obtain⟨v,q⟩:=I.cell x c e
   exact absurd (zAi q.lt (by rw[z];exact a)) (zC5 _)
 exact absurd (zAi (zAc (I.pin p f).1) (by rw[z];exact a)) (zC5 _)
structure Ht(P:Ke)(w:Ki)(K:No)(tg:Kj)(J:It)(fp:List γ)(it:γ)(tn:Nat->Heap->Prop):Prop where
 mem:it∈fp
 obj:∀ i h,tn i h->∀ b∈fp,∃ o,h.get? b=some o/\∀ v,o.data≠.cell v
 keep:∀ i h h',tn i h->(∀ b∈fp,∀ o,h.get? b=some o->h'.get? b=some o)->tn i h'
 item:∀(X:Cx),X.prog=P->X.w=w->X.K=K->X.calm=true->∀(i:Nat)(D6:List (γ×Obj))(s:δ)(a:St)(H:Hp)(E:V'->δ->Prop),Oz X D6 a H s->(∀ b∈fp,Ft X D6 H b)->tn i s.heap->J.go i H ->
   Kc (Kd P w) X.A (pyNext (.ref it)) (λ r s1=>∃ u,r=some u /\
     Kc (Kd P w) X.A (letOwnedTupleGo tg (.ref it) u) (λ _ s2=>∃ x H',Oz X D6 a H' s2/\Ow x u/\J.yld i H x H'/\tn (i+1) s2.heap/\∀ b∈fp,H' b=none) E s1) E s
 done:∀(X:Cx),X.prog=P->X.w=w->X.K=K->X.calm=true->∀(i:Nat)(D6:List (γ×Obj))(s:δ)(a:St)(H:Hp)(E:V'->δ->Prop),Oz X D6 a H s->(∀ b∈fp,Ft X D6 H b)->tn i s.heap->J.stop i H ->
   Kc (Kd P w) X.A (pyNext (.ref it)) (λ r s1=>r=none/\Oz X D6 a H s1) E s
 self:∀(A:Kf)(i:Nat)(s:δ)(Q:V'->δ->Prop)(E:V'->δ->Prop),tn i s.heap->Q (.ref it) s->Kc (Kd P w) A (pyIter (.ref it)) Q E s
abbrev TI:=St->Hp->(It->Hp->Prop)->Prop
def PIE(X:Cx)(D6:List (γ×Obj))(c:St)(tg:Kj)(R:It->Hp->Prop)(a:V')(s2:δ):Prop :=
 ∃(it:γ)(fp:List γ)(tn:Nat->Heap->Prop)(J:It)(H':Hp),a=.ref it/\Oz X D6 c H' s2/\Ht X.prog X.w X.K tg J fp it tn/\tn 0 s2.heap/\(∀ b∈fp,Ft X D6 H' b)/\R J H'
def PI(X:Cx)(tg iter:Kj)(wi:TI):Prop :=
 ∀(D6:List (γ×Obj))(s:δ)(b:St)(H:Hp)(R:It->Hp->Prop),Oz X D6 b H s->wi b H R ->
   Kc (Kd X.prog X.w) X.A (eval iter X.env) (λ v a=>Kc (Kd X.prog X.w) X.A (pyIter v) (PIE X D6 b tg R) X.xe a) X.xe s
theorem go_of{A:Kf}{E:V'->δ->Prop}{s:δ}{tg:Kj}{it:γ}{u:V'}{o:Obj}{n:String}{vs:Array V'}{Q:Unit->δ->Prop}(b:s.heap.get? it=some o)(c:o.cls=.type n)(d:o.data=.fields vs)(e:["enumerate", "zip", "dict_itemiterator", "dict_reverseitemiterator", "odict_iterator", "itertools.zip_longest", "itertools.pairwise"].contains n=false)(a:Q () s):Kc M A (letOwnedTupleGo tg (.ref it) u) Q E s:=by
 unfold letOwnedTupleGo;cases tg<;>first
   | exact G' a
   | (cases u<;>first
       | exact G' a
       | (refine E' (wpAny_load b ?_)
          rw[c,d];show Kc M A (if (["enumerate", "zip", "dict_itemiterator", "dict_reverseitemiterator", "odict_iterator", "itertools.zip_longest", "itertools.pairwise"].contains n&&vs[0]? == some (rawInt _))=true then _ else _) Q E s;rw[if_neg (by intro h;rw[e,Bool.false_and] at h;cases h)];exact G' a))
noncomputable def Itl(K:No)(a:γ):It :=
 ⟨λ i H=>∃ xs x,SqL K H a xs/\xs[i]? = some x,λ i H x H'=>H'=H/\∀ xs,SqL K H a xs->xs[i]? = some x,λ i H=>∃ xs,SqL K H a xs/\xs.length<=i⟩
noncomputable def Itr(lo:Int)(n:Nat):It:=⟨λ i _=>i < n,λ i H x H'=>H'=H/\x=.int (lo+i),λ i _=>n<=i⟩
theorem qam7{P:Ke}{w:Ki}{K:No}{tg:Kj}(a it:γ):Ht P w K tg (Itl K a) [it] it (λ i h=>h.IsListIter it a i) where
 mem:=by simp
 obj:=λ i h f b g=>by
   have e:b=it:=by simpa using g
   subst e;obtain⟨o,e,c,d⟩:=f;exact⟨o,e,λ v z=>by rw[d] at z;cases z⟩
 keep:=λ i h l f k=>f.at λ o e=>k it (by simp) o e
 item:=by
   intro X q r t J i D6 s R H E I m f y;subst q r t;obtain⟨L,x,n,A⟩:=y;obtain⟨B,C,p,M⟩:=I.list n;obtain⟨u,N,O⟩:=C.get A;obtain⟨D,f1,f2,f3,F,G⟩:=m it (by simp);refine wpAny_pyNext_list_item f p.isList (x:=u) (by simpa using N) λ l j Q=>?_
   have I1:Oz X D6 R H { s with heap:=l }:=I.turned (t':=s.toks) (λ b o g e=>(Q.2 b g).trans e) D f1 f3 F G;obtain⟨o,e,c,d⟩:=id j;exact⟨u,rfl,go_of (s:={ s with heap:=l }) e c d (by decide) ⟨x,H,I1,O,⟨rfl,λ U S=>by rw[I.list_inj S n];exact A⟩,j,λ b g=>(m b g).1⟩⟩
 done:=by
   intro X q r t J i D6 s R H E I m f y;subst q r t;obtain⟨L,n,A⟩:=y;obtain⟨B,C,p,M⟩:=I.list n;obtain⟨D,f1,f2,f3,F,G⟩:=m it (by simp);have V:=C.length;exact wpAny_pyNext_list_end (I.ok.hd J) f p.isList (by simp;lia) λ l T=>⟨rfl,I.turned (t':=s.toks) (λ b o g e=>T b o g e) D f1 f3 F G⟩
 self:=λ _ _ _ _ _ f h=>wpAny_pyIter_listiter f h
theorem qab5{P:Ke}{w:Ki}{K:No}{tg:Kj}(it:γ)(lo:Int)(n:Nat):Ht P w K tg (Itr lo n) [it] it (λ i h=>IsRangeIter h it (lo+(i:Nat) * 1) ((n:Int) - (i:Nat)) 1) where
 mem:=by simp
 obj:=λ i h a b c=>by
   have e:b=it:=by simpa using c
   subst e;exact⟨_,a,λ v z=>by
     have A:Data.fields _=Data.cell v:=z;cases A⟩
 keep:=λ i h f a k=>k it (by simp) _ a
 item:=by
   intro X j l m p i D6 s F H E I g a q;subst j l m;obtain⟨r,f1,f2,f3,u,x⟩:=g it (by simp);have W:=Walks.range (prog:=X.prog) (w:=X.w) (I.ok.hd p) it lo 1 n;refine W.item i s _ _ q a λ v f y B d C=>?_
   obtain⟨t,rfl⟩:=B;have I1:Oz X D6 F H { s with heap:=f,toks:=y }:=I.turned (λ b o c e=>C b o (by simpa using c) e) r f1 f3 u x;refine⟨_,rfl,go_of (s:={ s with heap:=f,toks:=y }) (n := "range_iterator") d rfl rfl (by decide) ⟨.int (lo+i),H,I1,⟨t,?_⟩,⟨rfl,rfl⟩,d,λ b c=>(g b c).1⟩⟩;rw[Int.mul_one]
 done:=by
   intro X j l m p i D6 s F H E I g a q;subst j l m;obtain⟨r,f1,f2,f3,u,x⟩:=g it (by simp);exact wpAny_pyNext_range_end (I.ok.hd p) a (by have:n<=i:=q;lia) λ f D=>⟨rfl,I.turned (t':=s.toks) (λ b o c e=>D b o c e) r f1 f3 u x⟩
 self:=λ _ _ _ _ _ a h=>wpAny_pyIter_rangeiter a h
section
variable{X:Cx}{tg:Kj}
def Gp(K:No)(tl:TE):TI:=λ σ H R=>tl σ H λ x H1=>∃ a,x=.ref a/\(∃ xs,SqL K H1 a xs)/\R (Itl K a) H1
theorem qz0{l:Kj}{tl:TE}(f:PE X l tl):PI X tg l (Gp X.K tl):=by
 intro D6 s σ H R I h;refine thn (f D6 s σ H _ I h) λ v c d=>?_
 obtain⟨x,H1,I1,g,i⟩:=d;obtain⟨a,e,⟨n,j⟩,q⟩:=i;subst e;cases g;obtain⟨k,r,p,t⟩:=I1.list j;refine wpAny_pyIter_list p.isList ?_;refine⟨c.heap.objs.size,[c.heap.objs.size],_,_,H1,rfl,I1.kept (t':=c.toks) λ b o e=>zA5 _ e,qam7 a _,⟨_,zB1 _ rfl,rfl,rfl⟩,λ b m=>?_,q⟩;have e:b=c.heap.objs.size:=by simpa using m
 subst e;exact I1.fpOk (zA2 _) (I1.hok.fresh (zA2 _))
theorem qaA3{D6:List (γ×Obj)}{σ:St}{H:Hp}{s:δ}{R:It->Hp->Prop}{E:V'->δ->Prop}{lo hi:Int}{t u v:Tok}{a:Nat}(I:Oz X D6 σ H s)(h1:-(2 ^ 62)<=lo)(h2:lo < 2 ^ 62)(c:-(2 ^ 62)<=hi)(d:hi < 2 ^ 62)(q:R (Itr lo (hi - lo).toNat) H):Kc (Kd X.prog X.w) X.A (pyIter (.ref s.heap.objs.size)) (PIE X D6 σ tg R) E { s with heap:=s.heap.push { cls:=.type "range",data:=.fields #[.int lo t,.int hi u,.int 1 v] },toks:=a }:=by
 refine wpAny_pyIter_range (IsRange.new ..) (small_one h1 h2 c d) ?_;have I1:Oz X D6 σ H { s with heap:=s.heap.push { cls:=.type "range",data:=.fields #[.int lo t,.int hi u,.int 1 v] },toks:=a }:=I.kept λ b o e=>zA5 _ e
 refine⟨(s.heap.push { cls:=.type "range",data:=.fields #[.int lo t,.int hi u,.int 1 v] }).objs.size,[(s.heap.push { cls:=.type "range",data:=.fields #[.int lo t,.int hi u,.int 1 v] }).objs.size],_,_,H,rfl,
   I1.kept (t':=a) λ b o e=>zA5 _ e,qab5 _ lo (hi - lo).toNat,?_,λ b f=>?_,q⟩
 . have g:lo+((0:Nat):Int) * 1=lo:=by simp
   have e2:(((hi - lo).toNat:Nat):Int) - ((0:Nat):Int)=Builtin.Range.rangeSize lo hi 1:=by rw[rangeSize_one];split<;>lia
   show IsRangeIter _ _ (lo+((0:Nat):Int) * 1) ((((hi - lo).toNat:Nat):Int) - ((0:Nat):Int)) 1;rw[g,e2];exact zB1 _ rfl
 have e:b=(s.heap.push { cls:=.type "range",data:=.fields #[.int lo t,.int hi u,.int 1 v] }).objs.size:=by simpa using f
 subst e;exact I1.fpOk (zA2 _) (I1.hok.fresh (zA2 _))
def iRng1(ta:TA):TI:=λ σ H R=>ta σ H λ vs H1=>∃ j:Int,vs=[.int j]/\-(2 ^ 62)<=j/\j < 2 ^ 62/\R (Itr 0 j.toNat) H1
theorem qT9{a:Kj}{ta:TA}{p pos:Pos}(d:Gl X "range")(hm:X.mg "range" = none)(f:PA X [a] ta)(g:Jp [a] X.env=[(false,eval a X.env)]:=by rfl):PI X tg (.Call (.Name "range" p) [a] [] pos) (iRng1 ta):=by
 intro D6 s σ H R I h;refine Call_ (qah9 I d hm boot_range (PyProof.Rows.callWith_type1 (thn (f pos D6 s σ H _ I h) λ l m b=>?_) g rfl));obtain⟨n,H1,I1,i,c⟩:=b;obtain⟨j,e,c,q2,q⟩:=c;subst e;cases i with
 | cons r k =>
   cases k;obtain⟨t,rfl⟩:=r;exact call_range_1 (qaA3 I1 (by lia) (by lia) c q2 (by simpa using q))
def tFor(wi:TI)(g:TG)(tb:TS):TS:=λ D σ H=>wi σ H λ J H1=>∃ W:Nat->Nat->St->Hp->Prop,(∃ m,W 0 m σ H1)/\∀ i m σ H,W i m σ H ->
 (J.stop i H/\D.nx σ H)∨(J.go i H/\∃ N:St->Hp->Prop,(∀ σ' H',N σ' H'->∃ a,a < m/\W (i+1) a σ' H')/\∀ x H',J.yld i H x H'->g x σ H' λ σ2 H2=>tb { D with nx:=N,ct:=N,bk:=D.nx } σ2 H2)
noncomputable def Hu(fp:List γ)(h:Heap):List (γ×Obj):=fp.filterMap λ b=>(h.get? b).map λ o=>(b,o)
theorem qr7{h:Heap}{b:γ}{o:Obj}(a:b∈fp)(e:h.get? b=some o):(b,o)∈Hu fp h:=List.mem_filterMap.mpr ⟨b,a,by rw[e];rfl⟩
theorem qap5{h:Heap}{p:γ×Obj}(a:p∈Hu fp h):p.1∈fp/\h.get? p.1=some p.2:=by
 obtain⟨b,c,e⟩:=List.mem_filterMap.mp a;cases q:h.get? b with
 | none=>rw[q] at e;cases e
 | some o =>
   rw[q] at e;have d:(b,o)=p:=Nm e;subst d;exact⟨c,q⟩
theorem Oz.pinned{D6:List (γ×Obj)}{σ:St}{H:Hp}{s:δ}(I:Oz X D6 σ H s)(f:∀ b∈fp,Ft X D6 H b)(g:∀ b∈fp,∃ o,s.heap.get? b=some o/\∀ v,o.data≠.cell v):Oz X (D6++Hu fp s.heap) σ H s :=
 I.pins_of λ p h=>(zA8.mp h).elim (λ z=>I.pin p (zAu _ z)) λ z=>by
   obtain⟨a,e⟩:=qap5 z;obtain⟨i,f1,f2,_⟩:=f p.1 a;obtain⟨o,c,d⟩:=g p.1 a;rw[e] at c;cases c;exact⟨e,i,f1,f2,d⟩
theorem Oz.unpinned{D6 pl:List (γ×Obj)}{σ:St}{H:Hp}{s:δ}(I:Oz X (D6++pl) σ H s):Oz X D6 σ H s:=I.pins_of λ p a=>I.pin p (zAu _ (Lp _ a))
theorem qaA7{iter:Kj}{wi:TI}{g:TG}{tb:TS}{pos:Pos}(l:PassesOwn (Kd X.prog X.w) X.A X.env X.xe)(F:X.calm=true)(hi:PI X tg iter wi)(O:PG X tg g)(c:PSs X body tb)(P:∀ x,Js iter X.env x=pure x:=by intro _;rfl):PS X (.For tg iter body [] pos) (tFor wi g tb):=by
 intro D6 s σ H D I h;refine wpAny_For (thn (hi D6 s σ H _ I h) λ v s1 Q=>thn Q λ R s2 S=>?_) P;obtain⟨it,p,G,J,H2,e,I2,T,z,f2,W,⟨U,V⟩,turn⟩:=S;subst e;have stat:∀{H':Hp},(∀ b∈p,H' b=none)->∀ b∈p,Ft X D6 H' b:=λ Y b c=>⟨Y b c,(f2 b c).2⟩
 refine codeAny_forLoop_any (λ n K=>∃ i σ' H',Oz X D6 σ' H' K/\G i K.heap/\(∀ b∈p,H' b=none)/\W i n σ' H') ?_ U ⟨0,σ,H2,I2,z,λ b c=>(f2 b c).1,V⟩;rintro n L ⟨i,σ3,H3,I3,q,t,Z⟩;rcases turn i n σ3 H3 Z with⟨stop,qn⟩ | ⟨go,N,hN,step⟩
 . refine J2 l (thn (T.done X rfl rfl rfl F i D6 L σ3 H3 X.xe I3 (stat t) q stop) λ r s4 a=>?_)
   obtain⟨B,I4⟩:=a;subst B;exact wpAny_execs_nil ⟨σ3,H3,I4,qn⟩
 refine J2 l (thn (T.item X rfl rfl rfl F i D6 L σ3 H3 X.xe I3 (stat t) q go) λ r s4 a=>?_);obtain⟨u,B,h4⟩:=a;subst B;refine J2 l (thn h4 λ _ M a=>?_);obtain⟨x,H5,I5,r5,y5,k,C⟩:=a;have I5':=I5.pinned (stat C) (T.obj _ _ k);refine J2 l (thn (O _ M σ3 H5 x u _ I5' r5 (step x H5 y5)) λ _ s6 a=>?_);obtain⟨σ6,H6,I6,q6⟩:=a;refine J2 l (thn (c _ s6 σ6 H6 _ I6 q6) λ f E j=>?_);have again:∀{σ7:St}{H7:Hp},Oz X (D6++Hu p M.heap) σ7 H7 E->N σ7 H7->∃ m,m < n/\∃ i σ' H',Oz X D6 σ' H' E/\G i E.heap/\(∀ b∈p,H' b=none)/\W i m σ' H':=λ{σ7 H7} I7 y=>by
   obtain⟨m',hm,w7⟩:=hN σ7 H7 y;refine⟨m',hm,i+1,σ7,H7,I7.unpinned,T.keep _ _ _ k λ b c o e=>(I7.pin (b,o) (zAu _ (zAu _ (qr7 c e)))).1,λ b c=>?_,w7⟩;obtain⟨o,e,d⟩:=T.obj _ _ k b c;exact(I7.pin (b,o) (zAu _ (zAu _ (qr7 c e)))).2.1
 cases f with
 | next=>obtain⟨σ7,H7,I7,y⟩:=j;exact again I7 y
 | cont=>obtain⟨σ7,H7,I7,y⟩:=j;exact again I7 y
 | brk=>obtain⟨σ7,H7,I7,j⟩:=j;exact⟨σ7,H7,I7.unpinned,j⟩
 | ret v=>obtain⟨x7,σ7,H7,I7,r7,j⟩:=j;exact⟨x7,σ7,H7,I7.unpinned,r7,j⟩
end
theorem qaj9{K:No}{a:γ}{xs:List V}{g:TG}{tb:TS}{D:Dv}{n:St}{H:Hp}(Pv:Nat->St->Hp->Prop)(d:Pv 0 n H)(f:∀ i n H,i<=xs.length->Pv i n H->SqL K H a xs)(h:∀ i x n H,xs[i]? = some x->Pv i n H->g x n H λ σ2 H2=>tb { D with nx:=Pv (i+1),ct:=Pv (i+1),bk:=D.nx } σ2 H2)(j:∀ n H,Pv xs.length n H->D.nx n H) :
   ∃ W:Nat->Nat->St->Hp->Prop,(∃ m,W 0 m n H)/\∀ i m n H,W i m n H ->
     ((Itl K a).stop i H/\D.nx n H)∨((Itl K a).go i H/\∃ N:St->Hp->Prop,(∀ n' H',N n' H'->∃ c,c < m/\W (i+1) c n' H')/\∀ x H',(Itl K a).yld i H x H'->g x n H' λ σ2 H2=>tb { D with nx:=N,ct:=N,bk:=D.nx } σ2 H2):=by
 refine⟨λ i m n H=>m=xs.length - i/\i<=xs.length/\Pv i n H,⟨xs.length,by simp,zBl _,d⟩,?_⟩;rintro i m n H ⟨rfl,k,p⟩;have q:=f i n H k p;by_cases b:i < xs.length
 . refine .inr ⟨⟨xs,xs[i],q,by simp[b]⟩,Pv (i+1),λ n' H' l=>⟨xs.length - (i+1),by lia,rfl,b,l⟩,λ x H' y=>?_⟩
   obtain⟨e,y⟩:=y;subst e;exact h i x n _ (y xs q) p
 have e:i=xs.length:=by lia
 subst e;exact .inl ⟨⟨xs,q,zA2 _⟩,j n H p⟩
theorem qar3{lo:Int}{g:TG}{tb:TS}{D:Dv}{k:St}{H:Hp}(Pv:Nat->St->Hp->Prop)(c:Pv 0 k H)(d:∀ i k H,i < n->Pv i k H->g (.int (lo+i)) k H λ σ2 H2=>tb { D with nx:=Pv (i+1),ct:=Pv (i+1),bk:=D.nx } σ2 H2)(f:∀ k H,Pv n k H->D.nx k H) :
   ∃ W:Nat->Nat->St->Hp->Prop,(∃ m,W 0 m k H)/\∀ i m k H,W i m k H ->
     ((Itr lo n).stop i H/\D.nx k H)∨((Itr lo n).go i H/\∃ N:St->Hp->Prop,(∀ k' H',N k' H'->∃ b,b < m/\W (i+1) b k' H')/\∀ x H',(Itr lo n).yld i H x H'->g x k H' λ σ2 H2=>tb { D with nx:=N,ct:=N,bk:=D.nx } σ2 H2):=by
 refine⟨λ i m k H=>m=n - i/\i<=n/\Pv i k H,⟨n,by simp,zBl _,c⟩,?_⟩;rintro i m k H ⟨rfl,j,p⟩;by_cases a:i < n
 . refine .inr ⟨a,Pv (i+1),λ k' H' h=>⟨n - (i+1),by lia,rfl,a,h⟩,λ x H' y=>?_⟩
   obtain⟨e,y⟩:=y;subst e y;exact d i k _ a p
 have e:i=n:=by lia
 subst e;exact .inl ⟨zA2 _,f k H p⟩
abbrev R2:=V->V->Hp->VK->Prop
def OpR(X:Cx)(f:V'->V'->Sem V')(r:R2):Prop :=
 ∀(D6:List (γ×Obj))(s:δ)(a:St)(H:Hp)(x y:V)(v u:V')(Q:VK),Oz X D6 a H s->Ow x v->Ow y u->r x y H Q ->
   Kc (Kd X.prog X.w) X.A (f v u) (EP X D6 a Q) X.xe s
def UnR(X:Cx)(f:V'->Sem V')(r:V->Hp->VK->Prop):Prop :=
 ∀(D6:List (γ×Obj))(s:δ)(a:St)(H:Hp)(x:V)(v:V')(Q:VK),Oz X D6 a H s->Ow x v->r x H Q ->
   Kc (Kd X.prog X.w) X.A (f v) (EP X D6 a Q) X.xe s
def CallR(X:Cx)(f:V')(r:List V->Hp->VK->Prop):Prop :=
 ∀(D6:List (γ×Obj))(s:δ)(a:St)(H:Hp)(xs:List V)(us:List V')(Q:VK),Oz X D6 a H s->Ox xs us->r xs H Q ->
   Kc (Kd X.prog X.w) X.A (call f us) (EP X D6 a Q) X.xe s
def tOp(r:R2)(ta tb:TE):TE:=λ a H Q=>ta a H λ x H1=>tb a H1 λ y H2=>r x y H2 Q
def tUn(r:V->Hp->VK->Prop)(ta:TE):TE:=λ a H Q=>ta a H λ x H1=>r x H1 Q
def rI(C:Int->Int->Prop)(g:Int->Int->V):R2:=λ x y H Q=>∃ i j,x=.int i/\y=.int j/\C i j/\Q (g i j) H
def rI0(g:Int->Int->V):R2:=λ x y H Q=>∃ i j,x=.int i/\y=.int j/\Q (g i j) H
def rU(g:Int->V):V->Hp->VK->Prop:=λ x H Q=>∃ i,x=.int i/\Q (g i) H
section
variable{X:Cx}{a b:Kj}{n p:TE}{o:Pos}
theorem binT(d:PE X a n)(e:PE X b p){D6:List (γ×Obj)}{s:δ}{m:St}{H:Hp}{R:V->V->Hp->Prop}(I:Oz X D6 m H s)(h:n m H λ x H1=>p m H1 λ y H2=>R x y H2){Q:V'->δ->Prop}{f:V'->V'->Sem V'}(g:∀ v u s2 x y H2,Oz X D6 m H2 s2->Ow x v->Ow y u->R x y H2->Kc (Kd X.prog X.w) X.A (f v u) Q X.xe s2) :
   Kc (Kd X.prog X.w) X.A (eval a X.env) (λ v s₁=>Kc (Kd X.prog X.w) X.A (eval b X.env) (λ u s₂=>Kc (Kd X.prog X.w) X.A (f v u) Q X.xe s₂) X.xe s₁) X.xe s:=by
 refine thn (d D6 s m H _ I h) λ v i c=>?_
 obtain⟨x,H1,I1,j,k⟩:=c;refine thn (e D6 i m H1 _ I1 k) λ u s2 c=>?_
 obtain⟨y,H2,I2,l,q2⟩:=c;exact g v u s2 x y H2 I2 j l q2
theorem pe_op{op:Operator}{r:R2}(c:OpR X (Kb op) r)(d:PE X a n)(e:PE X b p):PE X (.BinOp a op b o) (tOp r n p):=by
 intro D6 s m H Q I h;exact wpAny_BinOp (binT d e I h λ v u f x y H2 I2 g i q=>c D6 f m H2 x y v u Q I2 g i q)
theorem pe_un{op:UnaryOp}{r:V->Hp->VK->Prop}(b:UnR X (unaryOp op) r)(c:PE X a n):PE X (.UnaryOp op a o) (tUn r n):=by
 intro D6 s m H Q I h;exact UnaryOp_ (thn (c D6 s m H _ I h) λ v d ⟨x,H1,I1,e,f⟩=>b D6 d m H1 x v Q I1 e f)
theorem opI{f:V'->V'->Sem V'}{C:Int->Int->Prop}{g:Int->Int->Int}(rule:∀(i j:Int)(t u:Tok)(s:δ)(Q:V'->δ->Prop)(E:V'->δ->Prop),C i j->Q (.int (g i j) s.toks) { s with toks:=s.toks+1 }->Kc (Kd X.prog X.w) X.A (f (.int i t) (.int j u)) Q E s) :
   OpR X f (rI C λ i j=>.int (g i j)):=by
 intro D6 s m H x y v u Q I a b h;obtain⟨i,j,rfl,rfl,c,q⟩:=h;obtain⟨t,rfl⟩:=a;obtain⟨d,rfl⟩:=b;exact rule i j t d s _ _ c ⟨.int (g i j),H,I.tok _,⟨_,rfl⟩,q⟩
theorem opI0{f:V'->V'->Sem V'}{g:Int->Int->Int}(rule:∀(i j:Int)(t u:Tok)(s:δ)(Q:V'->δ->Prop)(E:V'->δ->Prop),Q (.int (g i j) s.toks) { s with toks:=s.toks+1 }->Kc (Kd X.prog X.w) X.A (f (.int i t) (.int j u)) Q E s) :
   OpR X f (rI0 λ i j=>.int (g i j)):=by
 intro D6 s m H x y v u Q I a b h;obtain⟨i,j,rfl,rfl,q⟩:=h;obtain⟨t,rfl⟩:=a;obtain⟨c,rfl⟩:=b;exact rule i j t c s _ _ ⟨.int (g i j),H,I.tok _,⟨_,rfl⟩,q⟩
theorem opB0{f:V'->V'->Sem V'}{g:Int->Int->Bool}(rule:∀(i j:Int)(t u:Tok)(s:δ)(Q:V'->δ->Prop)(E:V'->δ->Prop),Q (.bool (g i j)) s->Kc (Kd X.prog X.w) X.A (f (.int i t) (.int j u)) Q E s) :
   OpR X f (rI0 λ i j=>.bl (g i j)):=by
 intro D6 s m H x y v u Q I a b h;obtain⟨i,j,rfl,rfl,q⟩:=h;obtain⟨t,rfl⟩:=a;obtain⟨c,rfl⟩:=b;exact rule i j t c s _ _ ⟨.bl (g i j),H,I,rfl,q⟩
def CPow(i j:Int):Prop:=0<=j/\j<=1000000/\i.natAbs < 2 ^ 64
def CMul(i j:Int):Prop:=(-(2 ^ 64) < i/\i < 2 ^ 64)∨(-(2 ^ 64) < j/\j < 2 ^ 64)
theorem CMul.ok{i j:Int}(h:CMul i j):IntMulOk i j:=by
 rcases h with⟨h1,h2⟩ | ⟨h1,h2⟩
 . exact .of_left (intBits_le_64 h1 h2)
 exact .of_right (intBits_le_64 h1 h2)
theorem qaU4:OpR X (Kb .Add) (rI0 λ i j=>.int (i+j)):=opI0 λ _ _ _ _ _ _ _ q=>add_int q
theorem qv7:OpR X (Kb .Sub) (rI0 λ i j=>.int (i - j)):=opI0 λ _ _ _ _ _ _ _ q=>sub_int q
theorem qaT8:OpR X (Kb .Mult) (rI CMul λ i j=>.int (i * j)):=opI λ _ _ _ _ _ _ _ a q=>mul_int q a.ok
theorem qp3:OpR X (Kb .Mod) (rI (λ _ j=>0 < j) λ i j=>.int (i % j)):=opI λ i j _ _ _ _ _ a q=>by
 have b:(0:Int) < j:=a;exact mod_int' (by lia) (by rw[Int.fmod_eq_emod_of_nonneg i (by lia)];exact q)
theorem qaT6:OpR X (Kb .Pow) (rI CPow λ i j=>.int (i ^ j.toNat)):=opI λ _ _ _ _ _ _ _ a q=>pow_int_small a.1 a.2.1 a.2.2 q
theorem unI{f:V'->Sem V'}{g:Int->Int}(rule:∀(i:Int)(t:Tok)(s:δ)(Q:V'->δ->Prop)(E:V'->δ->Prop),Q (.int (g i) s.toks) { s with toks:=s.toks+1 }->Kc (Kd X.prog X.w) X.A (f (.int i t)) Q E s) :
   UnR X f (rU λ i=>.int (g i)):=by
 intro D6 s m H x v Q I a h;obtain⟨i,rfl,q⟩:=h;obtain⟨t,rfl⟩:=a;exact rule i t s _ _ ⟨.int (g i),H,I.tok _,⟨_,rfl⟩,q⟩
theorem qaR4:UnR X (unaryOp .USub) (rU λ i=>.int (-i)):=unI λ _ _ _ _ _ q=>neg_int q
end
section
variable{X:Cx}{a b c:Kj}{M L O:TE}{N:Pos}
theorem qaP2{D6:List (γ×Obj)}{K:St}{H:Hp}{s:δ}{Q:VK}{k a:Bool}(I:Oz X D6 K H s)(q:Q (.bl k) H)(e:k=a):EP X D6 K Q (.bool a) s:=by
 subst e;exact⟨.bl k,H,I,rfl,q⟩
theorem Hv:OpR X (Jr .Lt) (rI0 λ i j=>.bl (decide (i < j))):=opB0 λ _ _ _ _ _ _ _ q=>lt_int q
theorem Gq:OpR X (Jr .LtE) (rI0 λ i j=>.bl (decide (i<=j))):=opB0 λ _ _ _ _ _ _ _ q=>le_int q
theorem Da:OpR X (Jr .Gt) (rI0 λ i j=>.bl (decide (j < i))):=opB0 λ _ _ _ _ _ _ _ q=>gt_int q
theorem Gr:OpR X (Jr .GtE) (rI0 λ i j=>.bl (decide (j<=i))):=opB0 λ _ _ _ _ _ _ _ q=>ge_int q
theorem qaT9:OpR X (Jr .Is) (λ x y H Q=>y=.non/\Q (.bl (decide (x=.non))) H):=by
 intro D6 s K H x y v u Q I a b h;obtain⟨rfl,q⟩:=h;cases b;refine is_none_gen (qaP2 I q ?_);cases x<;>first
   | (cases a;rfl)
   | (obtain⟨t,rfl⟩:=a;rfl)
theorem qaL2:OpR X (Jr .IsNot) (λ x y H Q=>y=.non/\Q (.bl (!decide (x=.non))) H):=by
 intro D6 s K H x y v u Q I a b h;obtain⟨rfl,q⟩:=h;cases b;refine isnot_none_gen (qaP2 I q ?_);cases x<;>first
   | (cases a;rfl)
   | (obtain⟨t,rfl⟩:=a;rfl)
theorem OpR.or{f:V'->V'->Sem V'}{r a:R2}(h:OpR X f r)(h':OpR X f a):OpR X f (λ x y H Q=>r x y H Q∨a x y H Q):=by
 intro D6 s K H x y v u Q I b c q;rcases q with q | q
 . exact h D6 s K H x y v u Q I b c q
 exact h' D6 s K H x y v u Q I b c q
theorem qb0(b:Kj)(h:op≠.In:=by decide)(h2:op≠.NotIn:=by decide):behindInMarks op b=false:=by
 have a:(op == CmpOp.In)=false:=by cases op<;>first | rfl | exact absurd rfl h
 have e2:(op == CmpOp.NotIn)=false:=by cases op<;>first | rfl | exact absurd rfl h2
 cases b<;>simp[behindInMarks,a,e2]
theorem qaK4{r:R2}(c:OpR X (Jr op) r)(d:PE X a M)(e:PE X b L)(hm:behindInMarks op b=false):PE X (.Compare a [op] [b] N) (tOp r M L):=by
 intro D6 s K H Q I h;exact wpAny_Compare1 (binT d e I h λ v u f x y H2 I2 g i q=>c D6 f K H2 x y v u Q I2 g i q) hm
def tTest(t:TE):TT:=λ K H Q=>t K H λ x H'=>∃ k,x=.bl k/\Q k H'
theorem qau9{r:R2}(d:OpR X (Jr op) r)(f:PE X a M)(g:PE X b L)(hm:behindInMarks op b=false):PT X (.Compare a [op] [b] N) (tTest (tOp r M L)):=by
 intro D6 s K H Q I h;refine wpAny_isTrue_Compare1 (thn (f D6 s K H _ I h) λ v i ⟨x,H1,I1,j,l⟩=>thn (g D6 i K H1 _ I1 l) λ u m ⟨y,H2,I2,n,q2⟩ =>
   thn (d D6 m K H2 x y v u _ I2 j n q2) λ c q ⟨z,H3,I3,o,k,e,p⟩=>?_) hm
 subst e;cases o;exact Jv ⟨H3,I3,p⟩
def qaH4(r a:R2)(M L O:TE):TE:=λ K H Q=>M K H λ x H1=>L K H1 λ y H2=>r x y H2 λ z H3=>∃ k,z=.bl k /\
 (if k=true then O K H3 λ b H4=>a y b H4 Q else Q (.bl false) H3)
theorem qaf0{f:CmpOp}{r i:R2}(m:OpR X (Jr op) r)(g:OpR X (Jr f) i)(n:PE X a M)(o:PE X b L)(p:PE X c O)(hm:lastMarks [op,f] [b,c]=false:=by with_unfolding_all rfl):PE X (.Compare a [op,f] [b,c] N) (qaH4 r i M L O):=by
 intro D6 s K H Q I h;refine Compare_chain (thn (n D6 s K H _ I h) λ v q ⟨x,H1,I1,t,w⟩=>chain_link (thn (o D6 q K H1 _ I1 w) λ u A ⟨y,H2,I2,j,q2⟩ =>
   thn (m D6 A K H2 x y v u _ I2 t j q2) λ d B ⟨z,H3,I3,C,k,e,l⟩=>?_)) hm
 subst e;cases C;refine Jv ?_;cases k with
 | false=>exact ite_ff ⟨.bl false,H3,I3,rfl,l⟩
 | true=>exact ite_tt (chain_last (thn (p D6 B K H3 _ I3 l) λ D E ⟨F,H4,I4,G,J⟩=>g D6 E K H4 y F u D Q I4 j G J))
theorem qR4:(Jq:Nat) < 2 ^ 63:=by rw[Jx];decide
theorem qaf6:OpR X (Kb .Add) (λ x y H Q=>∃ i j,x=.str i/\y=.str j/\i.length+j.length<=Jq/\Q (.str (i++j)) H):=by
 intro D6 s K H x y v u Q I a b h;obtain⟨i,j,rfl,rfl,c,q⟩:=h;obtain⟨t,rfl⟩:=a;obtain⟨d,rfl⟩:=b;exact add_str (λ d e=>⟨.str (i++j),H,I.tok _,⟨_,rfl⟩,q⟩) c
theorem B6{x:V}(r:Ox [x] us):∃ u,us=[u]/\Ow x u:=by
 cases r with
 | cons a b=>cases b;exact⟨_,rfl,a⟩
theorem Gs{x y:V}(r:Ox [x,y] us):∃ u a,us=[u,a]/\Ow x u/\Ow y a:=by
 cases r with
 | cons b c =>
   cases c with
   | cons d e=>cases e;exact⟨_,_,rfl,b,d⟩
theorem qaF6:CallR X (.builtin "abs") (λ xs H Q=>∃ i,xs=[.int i]/\Q (.int (if i < 0 then -i else i)) H):=by
 intro D6 s K H xs a Q I r h;obtain⟨i,rfl,q⟩:=h;obtain⟨u,rfl,t,rfl⟩:=B6 r;exact call_abs_int λ u b=>⟨.int (if i < 0 then -i else i),H,I.tok _,⟨_,rfl⟩,q⟩
theorem qX5(b:X.calm=true):CallR X (.builtin "max") (λ xs H Q=>∃ i j,xs=[.int i,.int j]/\Q (.int (if j > i then j else i)) H):=by
 intro D6 s K H xs c Q I r h;obtain⟨i,j,rfl,q⟩:=h;obtain⟨u,d,rfl,⟨t,rfl⟩,⟨e,rfl⟩⟩:=Gs r;refine max_two_ints (I.ok.hd b) λ f g k=>⟨_,H,I.kept k,?_,q⟩
 by_cases a:j > i
 . rw[if_pos a,if_pos a];exact⟨_,rfl⟩
 rw[if_neg a,if_neg a];exact⟨_,rfl⟩
theorem qH9(b:X.calm=true):CallR X (.builtin "min") (λ xs H Q=>∃ i j,xs=[.int i,.int j]/\Q (.int (if j < i then j else i)) H):=by
 intro D6 s K H xs c Q I r h;obtain⟨i,j,rfl,q⟩:=h;obtain⟨u,d,rfl,⟨t,rfl⟩,⟨e,rfl⟩⟩:=Gs r;refine min_two_ints (I.ok.hd b) λ f g k=>⟨_,H,I.kept k,?_,q⟩
 by_cases a:j < i
 . rw[if_pos a,if_pos a];exact⟨_,rfl⟩
 rw[if_neg a,if_neg a];exact⟨_,rfl⟩
theorem qX6:CallR X (.type "int") (λ xs H Q=>(∃ i,xs=[.int i]/\Q (.int i) H)∨∃ k,xs=[.bl k]/\Q (.int (if k then 1 else 0)) H):=by
 intro D6 s K H xs b Q I r h;rcases h with⟨i,rfl,q⟩ | ⟨k,rfl,q⟩
 . obtain⟨u,rfl,t,rfl⟩:=B6 r
   exact call_int_int ⟨.int i,H,I,⟨_,rfl⟩,q⟩
 obtain⟨u,rfl,a⟩:=B6 r;cases a;exact call_int_bool ⟨.int (if k then 1 else 0),H,I.tok _,⟨_,rfl⟩,q⟩
end
structure ObjM(h:Heap)(x dx C:γ)(mA:Str->Option V'):Prop where
 obj:h.get? x=some (W.instObj C dx)
 ns:h.Ns1 dx mA
 ne:dx≠x
theorem qaq1{h:Heap}{dx:γ}{mA:Str->Option V'}(n:h.Ns1 dx mA):∃ c,h.get? dx=some c/\∀ name,W.lookIn name c=some (mA name):=by
 obtain⟨o,d,m,f,g,i,_,j⟩:=n;refine⟨o,f,λ name=>?_⟩;have e:=j name;unfold nsFind findBy at e;rw[<- Array.find?_toList] at e;unfold W.lookIn;rw[g];dsimp only;split
 . rename_i y q
   rw[q] at e;exact congrArg some e
 rename_i q
 rw[q] at e;have a:d.toList.any (·.refKey)=false:=by
   rw[List.any_eq_false];intro y k;obtain⟨z,t,b⟩:=i y (Array.mem_toList_iff.mp k);simp[DictEntry.refKey,b]
 have l:¬ d.toList.any (·.refKey)=true:=by rw[a];exact zAm
 rw[if_neg l];exact congrArg some e
theorem ObjM.look{h:Heap}{x dx C:γ}{mA:Str->Option V'}(I:ObjM h x dx C mA):∃ a,W.InstAt h x (W.instObj C dx) C (some a)/\∀ name,W.lookIn name a=some (mA name) :=
 let ⟨a,ho,hl⟩:=qaq1 I.ns
 ⟨a,⟨I.obj,rfl,rfl,ho⟩,hl⟩
section
variable{prog:Ke}{w:Ki}{A:Kf}{E:V'->δ->Prop}{s:δ}{K:No}{x H C f:γ}{F:Str->Option V'}{name:Str}{v:V'}
theorem qaO3{expr:Bool}{Q:V'->δ->Prop}(X:K.In s.heap)(I:ObjM s.heap x H C F)(b:W.plainGet K C name=true)(c:W.hasDictIn K C=true)(d:W.findIn K (.ref C) name=some none)(e:F name=some v)(a:W.handedIn v=true)(h:Q v { s with toks:=s.toks+1 }) :
   Kc (Kd prog w) A (getAttr (.ref x) name expr) Q E s:=by
 obtain⟨g,J,f⟩:=I.look;exact W.get_value X J (W.plainGet_of b).1 (W.findObj_own c d rfl (by rw[f,e])) a h
theorem qaE2{Q:V'×List V'->δ->Prop}(X:K.In s.heap)(I:ObjM s.heap x H C F)(a:W.plainGet K C name=true)(b:W.findIn K (.ref C) name=some (some (.ref f)))(c:W.isFn K (.ref f)=true)(d:F name=none)(h:Q (.ref f,[.ref x]) s) :
   Kc (Kd prog w) A (getMethod (.ref x) name pl) Q E s:=by
 obtain⟨e,J,g⟩:=I.look;exact W.method_fn X J (W.plainGet_of a).1 (W.plainGet_of a).2 b (zBt.mp c) (by show (W.lookIn name e).map (·.isSome)=some false;rw[g,d];rfl) h
theorem qaI0{ns:List Str}{Q:Unit->δ->Prop}(X:K.In s.heap)(I:ObjM s.heap x H C F)(j:W.findIn K (.ref C) "__setattr__" = some (some (.builtin "object.__setattr__")))(k:W.plainOver K C=true)(l:W.takerIn K C name=some none)(m:W.hasDictIn K C=true)(n:PySem.Within F ns)(hsz:ns.length<=Jq)(h:∀ h',ObjM h' x H C (λ y=>if y=name then some v else F y)->Heap.SameBut H s.heap h'->Q () { s with heap:=h',toks:=s.toks+2 }) :
   Kc (Kd prog w) A (setAttr (.ref x) name v) Q E s:=by
 obtain⟨u,J,z⟩:=I.look;refine W.set_plain X J j (W.osa_open (s:={ s with toks:=s.toks+1 }) (r:=none) X J k l λ b=>?_);obtain⟨B,o,e⟩:=W.any_some m;have p:s.heap.get? x=some ⟨.ref C,some H,.plain,#[]⟩:=I.obj;refine E' (G' (E' (E' (wpAny_loadPart p (E' (W.Looks.here (s:={ s with toks:=s.toks+1 }) (W.looks_clsIn X o) ?_))))));rw[e];refine G' (a:=some H) (E' (G' (E' ?_)));refine wpAny_nsSet1 (s:={ s with toks:=s.toks+1 }) I.ns λ h' c d=>?_
 obtain⟨D,q,t,f,g,i⟩:=c.count (PySem.Within.cons name v n);refine E' (wpAny_lookBehind f (by rw[g];exact pastItsLine_dict (zAj i (by rw[zAk];lia))) ?_);exact G' (h _ ⟨(d.2 _ (Ne.symm I.ne)).trans I.obj,c,I.ne⟩ d)
theorem qaD3{R:Result->δ->Prop}{vs:List V'}(X:K.In s.heap)(hm:W.makesIn K C=true)(hi:W.findIn K (.ref C) "__init__" = some (some (.ref f)))(a:W.typeIn K (.ref f)=some (.type "function"))(h:codeAny (Kd prog w) (A.under (.builtin "type.__call__" ⟨.ref C::vs,kw⟩)) (.call (.ref f) ⟨.ref (s.heap.objs.size+1)::vs,kw⟩) (W.InitBack (s.heap.objs.size+1) R)
     { s with heap:=(s.heap.push W.emptyDict).push (W.instObj C s.heap.objs.size) }) :
   codeAny (Kd prog w) A (.call (.ref C) ⟨vs,kw⟩) R s:=by
 obtain⟨b,g,d,t,c⟩:=s;exact W.make_core (W.makes_of X hm) (W.looks_findIn X hi) (λ self=>W.bind_fn X self a) (.inl rfl) h
end
noncomputable def Bu(f:Str)(v:V):List (Str×V)->List (Str×V)
 | []=>[(f,v)]
 | (g,x)::r=>if g=f then (g,v)::r else (g,x)::Bu f v r
theorem qD5(f g:Str)(v:V):∀ fs:List (Str×V),(Bu f v fs).lookup g=if g=f then some v else fs.lookup g
 | []=>by
   show Lb g [(f,v)]=_;by_cases h:g=f
   . have a:(g == f)=true:=zBt.mpr h
     simp only[Lb,a,if_pos h]
   have a:(g == f)=false:=zBz.mpr h;simp only[Lb,a,if_neg h]
 | (k,x)::r=>by
   have c:=qD5 f g v r;rw[show Bu f v ((k,x)::r)=(if k=f then (k,v)::r else (k,x)::Bu f v r) from rfl];by_cases b:k=f
   . rw[if_pos b]
     by_cases h:g=k
     . have a:(g == k)=true:=zBt.mpr h
       simp only[Lb,a,if_pos (h.trans b)]
     have a:(g == k)=false:=zBz.mpr h;simp only[Lb,a,if_neg (λ e:g=f=>h (e.trans b.symm))]
   rw[if_neg b];by_cases h:g=k
   . have a:(g == k)=true:=zBt.mpr h
     simp only[Lb,a,if_neg (λ e:g=f=>b (h.symm.trans e))]
   have a:(g == k)=false:=zBz.mpr h;simp only[Lb,a];exact c
theorem qG8(f:Str)(v:V):∀ fs:List (Str×V),f∈(Bu f v fs).map (·.1)/\∀ g,g∈fs.map (·.1)->g∈(Bu f v fs).map (·.1)
 | []=>⟨by simp[Bu],λ g h=>by simp at h⟩
 | (k,x)::r=>by
   obtain⟨b,c⟩:=qG8 f v r;rw[show Bu f v ((k,x)::r)=(if k=f then (k,v)::r else (k,x)::Bu f v r) from rfl];by_cases a:k=f
   . rw[if_pos a]
     subst a;exact⟨by simp,λ g h=>by simpa using h⟩
   rw[if_neg a];refine⟨?_,λ g h=>?_⟩
   . rw[zAy]
     exact zA7 _ b
   rw[zAy] at h ⊢;rcases zAo.mp h with e | e
   . exact zAo.mpr (.inl e)
   exact zA7 _ (c g e)
theorem qD7(f:Str)(v:V):∀ fs:List (Str×V),(Bu f v fs).length<=fs.length+1
 | []=>by simp[Bu]
 | (k,x)::r=>by
   have b:=qD7 f v r;rw[show Bu f v ((k,x)::r)=(if k=f then (k,v)::r else (k,x)::Bu f v r) from rfl];by_cases a:k=f
   . rw[if_pos a,zAk,zAk];lia
   rw[if_neg a,zAk,zAk];lia
theorem RelO.some_of{v:V}{o:Option V'}(r:RelO (some v) o):∃ u,o=some u/\Ow v u:=by
 cases o with
 | none=>exact(show False from r).elim
 | some u=>exact⟨u,rfl,r⟩
theorem RelO.none_of{o:Option V'}(r:RelO none o):o=none:=by
 cases o with
 | none=>rfl
 | some u=>exact(show False from r).elim
theorem qar0{v:V}{u:V'}(r:Ow v u):W.handedIn u=true:=by
 cases v with
 | non=>cases (show u=Na from r);rfl
 | bl b=>cases (show u=Nc b from r);rfl
 | int i=>obtain⟨t,e⟩:=(show ∃ t,u=Nb i t from r);cases e;rfl
 | str x=>obtain⟨t,e⟩:=(show ∃ t,u=Nd x t from r);cases e;rfl
 | byt b=>obtain⟨t,e⟩:=(show ∃ t,u=Nj b t from r);cases e;rfl
 | flt b=>obtain⟨t,e⟩:=(show ∃ t,u=Ng b t from r);cases e;rfl
 | ref a=>cases (show u=M' a from r);rfl
 | ty n=>cases (show u=Nk n from r);rfl
section
variable{P:Ke}{w:Ki}{H:Hp}{h:Heap}{a C i:γ}{fs:List (Str×V)}
theorem qV2(b:HOk P w H h)(e:H a=some (.ins C i fs)):∃ mA,ObjM h a i C mA/\(∀ f,RelO (fs.lookup f) (mA f))/\PySem.Within mA (fs.map (·.1))/\fs.length<=1000/\H i=some (.own a):=by
 obtain⟨d,z,c,g,mA,n,r,q⟩:=(show ObjOk P w H h a (.ins C i fs) from b a _ e)
 exact⟨mA,⟨g,n,c⟩,r,q,z,d⟩
end
structure Cls(K:No)(C:γ):Prop where
 pg:W.plainGet K C Str.empty=true
 hd:W.hasDictIn K C=true
 po:W.plainOver K C=true
 sa:W.findIn K (.ref C) "__setattr__" = some (some (.builtin "object.__setattr__"))
theorem Cls.get{K:No}{C:γ}(c:Cls K C)(f:Str):W.plainGet K C f=true:=c.pg
def qg1(K:No)(C:γ)(f:Str):Prop:=W.findIn K (.ref C) f=some none
theorem qg1.taker{K:No}{C:γ}{f:Str}(n:qg1 K C f):W.takerIn K C f=some none:=by
 unfold W.takerIn;rw[show W.findIn K (.ref C) f=some none from n];rfl
structure Hw(K:No)(C:γ)(m:Str)(f:γ):Prop where
 at_:W.findIn K (.ref C) m=some (some (.ref f))
 fn:W.isFn K (.ref f)=true
 kp:W.keepIn K (.ref f)=true
section
variable{X:Cx}{G:List (γ×Obj)}{F:St}{H:Hp}{s:δ}{a C J:γ}{fs:List (Str×V)}{f:Str}{v:V}{A:Kf}{E:V'->δ->Prop}
theorem qaj4{b:Bool}{Q:V'->δ->Prop}(I:Oz X G F H s)(e:H a=some (.ins C J fs))(c:Cls X.K C)(n:qg1 X.K C f)(l:fs.lookup f=some v)(h:∀ u s',Oz X G F H s'->Ow v u->Q u s'):Kc (Kd X.prog X.w) A (getAttr (.ref a) f b) Q E s:=by
 obtain⟨g,O,r,_,_,_⟩:=qV2 I.hok e;obtain⟨u,i,d⟩:=RelO.some_of (v:=v) (o:=g f) (by rw[<- l];exact r f);exact qaO3 I.kIn O (c.get f) c.hd n i (qar0 d) (h u _ (I.tok _) d)
theorem qL5{m:Str}{g:γ}{Q:V'×List V'->δ->Prop}(I:Oz X G F H s)(e:H a=some (.ins C J fs))(c:Cls X.K C)(k:Hw X.K C m g)(l:fs.lookup m=none)(h:Q (.ref g,[.ref a]) s):Kc (Kd X.prog X.w) A (getMethod (.ref a) m pl) Q E s:=by
 obtain⟨b,O,r,_,_,_⟩:=qV2 I.hok e;have d:b m=none:=RelO.none_of (by rw[<- l];exact r m);exact qaE2 I.kIn O (c.get m) k.at_ k.fn d h
theorem qac9{y:V}{u:V'}{Q:Unit->δ->Prop}(I:Oz X G F H s)(e:H a=some (.ins C J fs))(c:Cls X.K C)(n:qg1 X.K C f)(D:fs.length < 1000)(k:Ow y u)(h:∀ s',Oz X G F (upd H a (.ins C J (Bu f y fs))) s'->Q () s'):Kc (Kd X.prog X.w) A (setAttr (.ref a) f u) Q E s:=by
 obtain⟨d,O,r,i,_,j⟩:=qV2 I.hok e;have l:(fs.map (·.1)).length<=Jq:=by rw[zAg,Jx];lia
 refine qaI0 I.kIn O c.sa c.po n.taker c.hd i l λ m O' p=>h _ ?_
 have t:∃ o,m.get? J=some o:=let ⟨o,_,_,e',_⟩:=O'.ns;⟨o,e'⟩
 refine I.write (x:=a) (e:=J) (by rw[e];exact True.intro) (.inr j) (λ b q v z=>(p.2 b v).trans z) t ?_;refine⟨by rw[qd1 O.ne];exact j,?_,O.ne,O'.obj,_,O'.ns,λ g=>?_,λ g B=>?_⟩
 . have:=qD7 f y fs;lia
 . show RelO ((Bu f y fs).lookup g) (if g=f then some u else d g)
   rw[qD5];by_cases q:g=f
   . rw[if_pos q,if_pos q];exact k
   rw[if_neg q,if_neg q];exact r g
 by_cases q:g=f
 . rw[q];exact(qG8 f y fs).1
 refine(qG8 f y fs).2 g (i g λ z=>B ?_);show (if g=f then some u else d g)=none;rw[if_neg q];exact z
theorem Oz.made(I:Oz X G F H s):Oz X G F (upd (upd H s.heap.objs.size (.own (s.heap.objs.size+1))) (s.heap.objs.size+1) (.ins C s.heap.objs.size []))
   { s with heap:=(s.heap.push W.emptyDict).push (W.instObj C s.heap.objs.size) }:=by
 have c:(s.heap.push W.emptyDict).get? s.heap.objs.size=some W.emptyDict:=zB1 s.heap rfl;have e2:((s.heap.push W.emptyDict).push (W.instObj C s.heap.objs.size)).get? (s.heap.objs.size+1)=some (W.instObj C s.heap.objs.size):=by
   have:=zB1 (s.heap.push W.emptyDict) (o:=W.instObj C s.heap.objs.size) rfl
   rwa[Heap.size_push] at this
 have f:(s.heap.push W.emptyDict).Ns s.heap.objs.size (λ _=>none):=⟨W.emptyDict,#[],_,c,rfl,(λ e g=>absurd g (by simp)),λ _=>rfl⟩
 have I1:=I.laid (a:=s.heap.objs.size) (o:=.own (s.heap.objs.size+1)) (h':=s.heap.push W.emptyDict) (t':=s.toks) (λ b u q=>zA5 _ q) (zA2 _) ⟨_,c⟩;refine I1.laid (a:=s.heap.objs.size+1) (o:=.ins C s.heap.objs.size []) (t':=s.toks) (λ b u q=>zA5 _ q) (zCh (Heap.size_push _ _)) ?_;have d:s.heap.objs.size≠s.heap.objs.size+1:=zAt (Nat.lt_succ_self _);refine⟨by rw[qd1 d,qc1],zBl _,d,e2,λ _=>none,(Heap.Ns1.of_empty f).at λ o q=>zA5 _ q,λ _=>True.intro,λ y h=>absurd rfl h⟩
theorem qaQ3{prog:Ke}{w:Ki}{env:Env}{e:Kj}{f:Str}{pos:Pos}{s:δ}{Q:V'->δ->Prop}(a:Jw e f env (eval e env)=eval e env)(h:Kc (Kd prog w) A (eval e env) (λ o s₁=>Kc (Kd prog w) A (getAttr o f true) Q E s₁) E s):Kc (Kd prog w) A (eval (.Attribute e f pos) env) Q E s :=
 Attribute_any_ h (by rw[arm_eval_Attribute,a])
end
def tFld(K:No)(ta:TE)(f:Str):TE:=λ b H Q=>ta b H λ x H1=>∃ a C dx fs v,x=.ref a/\H1 a=some (.ins C dx fs)/\Cls K C/\qg1 K C f/\fs.lookup f=some v/\Q v H1
def sFld(K:No)(ta tv:TE)(f:Str):TS:=λ D b H=>tv b H λ y H1=>ta b H1 λ x H2=>∃ a C dx fs,x=.ref a/\H2 a=some (.ins C dx fs)/\Cls K C/\qg1 K C f/\fs.length < 1000 /\
 D.nx b (upd H2 a (.ins C dx (Bu f y fs)))
section
variable{X:Cx}{o e B:Kj}{f:Str}{pos pos':Pos}{E tv:TE}
theorem qao8(d:PE X e E)(g:Jw e f X.env (eval e X.env)=eval e X.env):PE X (.Attribute e f pos) (tFld X.K E f):=by
 intro D6 s A H Q I h;refine qaQ3 g (thn (d D6 s A H _ I h) λ u o b=>?_);obtain⟨x,H1,I1,i,a,C,p,r,v,j,k,c,n,l,q⟩:=b;subst j;obtain rfl:u=M' a:=i;exact qaj4 I1 k c n l λ t w I2 m=>⟨v,H1,I2,m,q⟩
theorem qaS4(d:PE X o E)(e:PE X B tv)(g:swapsWith B (some (.Attribute o f pos')) pos.line X.env=pure false):PS X (.Assign [.Attribute o f pos'] B pos) (sFld X.K E tv f):=by
 intro D6 s A H D I h;refine plainObj_wpAny_Assign_Attribute (thn (e D6 s A H _ I h) λ u i b=>?_) g;obtain⟨y,H1,I1,j,q⟩:=b;refine thn (d D6 i A H1 _ I1 q) λ k t b=>?_
 obtain⟨x,H2,I2,m,a,C,v,w,p,r,c,n,l,q2⟩:=b;subst p;obtain rfl:k=M' a:=m;exact qac9 I2 r c n l j λ z I3=>⟨A,_,I3,q2⟩
end
section
variable{X:Cx}{F:List (γ×Obj)}{D:St}{H:Hp}{s:δ}{A:Kf}{E Q:V'->δ->Prop}{c:V'}{b:Bool}
inductive Ee(K:No)(H:Hp):V->V'->Prop where
 | non:Ee K H .non (.type "NoneType")
 | bl (x:Bool):Ee K H (.bl x) (.type "bool")
 | int (i:Int):Ee K H (.int i) (.type "int")
 | str (x:Str):Ee K H (.str x) (.type "str")
 | flt (x:UInt64):Ee K H (.flt x) (.type "float")
 | l {a:γ} {xs:List V} (e:H a=some (.l xs)):Ee K H (.ref a) (.type "list")
 | frz {a:γ} {o:Obj} {xs:List V} (e:H a=some (.frz o (.l xs))):Ee K H (.ref a) (.type "list")
 | q {a:γ} {xs:List V} (e:H a=some (.q xs)):Ee K H (.ref a) (.type "tuple")
 | dK {a:γ} {kvs:List (Key×V)} (e:H a=some (.dK kvs)):Ee K H (.ref a) (.type "dict")
 | dT {a:γ} {kvs:List (List Key×V)} (e:H a=some (.dT kvs)):Ee K H (.ref a) (.type "dict")
 | ins {a C dx:γ} {fs:List (Str×V)} (e:H a=some (.ins C dx fs)) (cl:Cls K C) (ha:W.findIn K (.ref C) "__class__" = some (some (.builtin "object.__class__")))
     (hn:W.specialIn K (.builtin "object.__class__") "__get__" = some (some (.builtin "getset_descriptor.__get__"))) (htk:W.takesIn K (.builtin "object.__class__")=some true)
     (hm:W.mroIn K C (.type "object")=some true):Ee K H (.ref a) (.ref C)
theorem qH0{x:V}{u t:V'}(I:Oz X F D H s)(d:Ow x u)(ty:Ee X.K H x t)(e:Np X.K t c=some b)(h:∀ k,Q (.bool b) { s with toks:=k }) :
   Kc (Kd X.prog X.w) A (call (.builtin "isinstance") [u,c]) Q E s:=by
 cases ty with
 | non=>cases (show u=Na from d);exact W.kia_one W.kitx_none I.kIn True.intro e (λ z=>nomatch z) h
 | bl y=>cases (show u=Nc y from d);exact W.kia_one W.kitx_bool I.kIn True.intro e (λ z=>nomatch z) h
 | int i=>obtain⟨t,q⟩:=(show ∃ t,u=Nb i t from d);cases q;exact W.kia_one W.kitx_int I.kIn True.intro e (λ z=>nomatch z) h
 | str y=>obtain⟨t,q⟩:=(show ∃ t,u=Nd y t from d);cases q;exact W.kia_one W.kitx_str I.kIn True.intro e (λ z=>nomatch z) h
 | flt y=>obtain⟨t,q⟩:=(show ∃ t,u=Ng y t from d);cases q;exact W.kia_one W.kitx_float I.kIn True.intro e (λ z=>nomatch z) h
 | @l a g ea =>
   cases (show u=M' a from d);obtain⟨_,_,n,_,f⟩:=(show ObjOk X.prog X.w H s.heap a (.l g) from I.hok a _ ea)
   exact W.kia_one W.kitx_list I.kIn ⟨_,f,rfl⟩ e (λ z=>nomatch z) h
 | @frz a ob g ea =>
   cases (show u=M' a from d);obtain⟨_,_,_,n,_,f⟩:=(show ObjOk X.prog X.w H s.heap a (.frz ob (.l g)) from I.hok a _ ea)
   exact W.kia_one W.kitx_list I.kIn ⟨_,f,rfl⟩ e (λ z=>nomatch z) h
 | @q a g ea =>
   cases (show u=M' a from d);obtain⟨_,_,_,p⟩:=(show ObjOk X.prog X.w H s.heap a (.q g) from I.hok a _ ea)
   obtain⟨o,f,j,_⟩:=p;exact W.kia_one W.kitx_tuple I.kIn ⟨o,f,j⟩ e (λ z=>nomatch z) h
 | @dK a kvs ea =>
   cases (show u=M' a from d);obtain⟨_,_,r,_,p⟩:=(show ObjOk X.prog X.w H s.heap a (.dK kvs) from I.hok a _ ea)
   obtain⟨o,l,m,f,j,_⟩:=p;exact W.kia_one W.kitx_dict I.kIn ⟨o,f,j.1⟩ e (λ z=>nomatch z) h
 | @dT a kvs ea =>
   cases (show u=M' a from d);obtain⟨_,_,g,_,o,l,m,f,j,_⟩:=(show ObjOk X.prog X.w H s.heap a (.dT kvs) from I.hok a _ ea)
   exact W.kia_one W.kitx_dict I.kIn ⟨o,f,j.1⟩ e (λ z=>nomatch z) h
 | @ins a C dx fs ea cl ha hn htk hm =>
   cases (show u=M' a from d);obtain⟨v,O,_⟩:=qV2 I.hok ea;obtain⟨B,J,_⟩:=O.look;exact W.kia_one (W.kitx_own (cl.get _) cl.hd ha hn htk hm) I.kIn J e (λ z=>nomatch z) h
end
structure O2(cm:Bool)(k:Nat)(A:Kf):Prop where
 hd:cm=true->A.handled=none
 dp:A.depth+3 * k+5 < recursionLimit
 un:A.units+16 * k+200 < cLine
abbrev Room:=O2 true
theorem O2.mono{cm:Bool}{j k:Nat}{A:Kf}(r:O2 cm k A)(h:j<=k):O2 cm j A:=⟨r.hd,by have:=r.dp;lia,by have:=r.un;lia⟩
theorem O2.deeper{cm:Bool}{k:Nat}{A:Kf}(r:O2 cm (k+1) A)(env:Env):O2 cm k (A.deeper env) :=
 ⟨r.hd,by have:=r.dp;show A.depth+1+3 * k+5 < _;lia,by have:=r.un;show A.units+3+16 * k+200 < _;lia⟩
theorem qah3{A:Kf}{C:γ}:(A.under (.builtin "type.__call__" ⟨.ref C::us,kw⟩)).depth=A.depth+1:=by
 first | rfl | simp[Around.under,Code.weight,Code.isCreation,Code.isGuard,Code.isCaller,Code.frames,Code.isFrame,guardIds]
theorem qah1{A:Kf}{C:γ}:(A.under (.builtin "type.__call__" ⟨.ref C::us,kw⟩)).units=A.units+1:=by
 first | rfl | simp[Around.under,Code.cUnits,Code.frames,Code.isFrame]
theorem O2.make{cm:Bool}{k:Nat}{A:Kf}(r:O2 cm (k+1) A)(C:γ)(us:List V')(kw:List (Str×V')):O2 cm k (A.under (.builtin "type.__call__" ⟨.ref C::us,kw⟩)) :=
 ⟨r.hd,by have:=r.dp;rw[qah3];lia,by have:=r.un;rw[qah1];lia⟩
theorem O2.depth{cm:Bool}{k:Nat}{A:Kf}(r:O2 cm k A):A.depth < recursionLimit:=by have:=r.dp;lia
theorem O2.units{cm:Bool}{k:Nat}{A:Kf}(r:O2 cm k A):A.units+64 < cLine:=by have:=r.un;lia
def tNil:TA:=λ _ H Q=>Q [] H
def tCons(ta:TE)(tr:TA):TA:=λ a H Q=>ta a H λ x H1=>tr a H1 λ xs H2=>Q (x::xs) H2
section
variable{X:Cx}{e:Kj}{v:List Kj}{te:TE}{t:TA}{o:Pos}
theorem ql9:PA X [] tNil:=λ _ _ _ _ H Q I h=>Calls.spliced_nil ⟨[],H,I,.nil,h⟩
theorem qc5(b:PE X e te)(c:PA X v t)(d:Jp (e::v) X.env=(false,eval e X.env)::Jp v X.env:=by rfl):PA X (e::v) (tCons te t):=by
 intro o D6 s n H Q I h;rw[d];show Kc _ _ (spliced ((false,eval e X.env)::backTo o (Jp v X.env))) _ _ s;refine Calls.spliced_cons (thn (b D6 s n H _ I h) λ u f a=>?_);obtain⟨x,H1,I1,g,i⟩:=a;exact thn (c o D6 f n H1 _ I1 i) λ l m ⟨j,H2,I2,k,q2⟩=>⟨x::j,H2,I2,.cons g k,q2⟩
def tTup(t:TA):TE:=λ n H Q=>t n H λ xs H1=>xs.length<=Jq/\∀ p,H1 p=none->Q (.ref p) (upd H1 p (.q xs))
def tLst(t:TA):TE:=λ n H Q=>t n H λ xs H1=>xs.length<=Jq/\∀ p,H1 p=none->Q (.ref p) (upd H1 p (.l xs))
theorem qaK0{x1}(h:PA X v t):PE X (.Tuple v x1 o) (tTup t):=by
 intro D6 s n H Q I d;refine wpAny_Tuple_spliced (thn (h o D6 s n H _ I d) λ f a c=>?_);obtain⟨g,H1,I1,r,z,q⟩:=c;refine⟨by rw[<- r.length];exact z,?_⟩;have i:H1 a.heap.objs.size=none:=I1.hok.fresh (zA2 _);refine⟨.ref a.heap.objs.size,upd H1 a.heap.objs.size (.q g),I1.laid (t':=a.toks) (λ b u e=>zA5 _ e) (zA2 _) ?_,rfl,q _ i⟩;exact⟨z,f,r,⟨_,zB1 _ rfl,rfl,_,rfl⟩⟩
theorem qaB2(h:PA X v t):PE X (.List v o) (tLst t):=by
 intro D6 s n H Q I d;refine wpAny_List_spliced (thn (h o D6 s n H _ I d) λ f a c=>?_);obtain⟨g,H1,I1,r,z,q⟩:=c;refine⟨by rw[<- r.length];exact z,?_⟩;have i:H1 a.heap.objs.size=none:=I1.hok.fresh (zA2 _);refine⟨.ref a.heap.objs.size,upd H1 a.heap.objs.size (.l g),I1.laid (t':=a.toks) (λ b u e=>zA5 _ e) (zA2 _) ?_,rfl,q _ i⟩;exact⟨z,f,0,r,zB1 _ rfl⟩
end
abbrev Sp:=List V->Hp->VK->XK->Prop
abbrev CXT:=List Env->Hp->δ->XK->V'->δ->Prop
structure Env0(P:Ke)(w:Ki)(K:No)(mg:Str->Option V')(base:Heap)(A:Kf)(outer:List Env)(s:δ)(H:Hp):Prop where
 frames:A.frames=some outer
 mod:Mod K mg base
 bs:∀ b o,base.get? b=some o->s.heap.get? b=some o/\H b=none
 bsz:base.objs.size<=s.heap.objs.size
 funs:s.heap.FunFrames base outer
 frf:∀ b∈frs outer,H b=none
 hok:HOk P w H s.heap
 bare:AllBare s.gens
def CE(outer:List Env)(P:Ke)(w:Ki)(H:Hp)(s:δ)(Q:VK)(u:V')(s':δ):Prop :=
 ∃ v H',s'.os=s.os/\AllBare s'.gens/\Un (frs outer) [] H H' s.heap s'.heap/\HOk P w H' s'.heap/\Ow v u/\Q v H'
def CR(CX:CXT)(outer:List Env)(P:Ke)(w:Ki)(H:Hp)(s:δ)(Q:VK)(E:XK)(r:Result)(s':δ):Prop :=
 match r with
 | .ok (.ret u)=>CE outer P w H s Q u s'
 | .ok _=>False
 | .error e=>CX outer H s E e s'
structure Dn(cm:Bool)(P:Ke)(w:Ki)(K:No)(mg:Str->Option V')(base:Heap)(CX:CXT)(k:Nat)(f:γ)(fd:ε)(ps:List Str)(sp:Sp):Prop where
 len:∀ vs H Q E,sp vs H Q E->vs.length=ps.length
 run:∀(A:Kf)(outer:List Env)(s:δ)(H:Hp)(args:Args)(us:List V')(vs:List V)(Q:VK)(E:XK),O2 cm k A->Env0 P w K mg base A outer s H->BindsTo s fd args (ps.zip us)->Ox vs us->sp vs H Q E ->
   codeAny (Kd P w) A (.call (.ref f) args) (CR CX outer P w H s Q E) s
abbrev Dw:=Dn true
theorem Env0.make{P:Ke}{w:Ki}{K:No}{A:Kf}{outer:List Env}{s:δ}{H:Hp}(e:Env0 P w K mg base A outer s H)(C:γ)(us:List V')(kw:List (Str×V')) :
   Env0 P w K mg base (A.under (.builtin "type.__call__" ⟨.ref C::us,kw⟩)) outer s H:=⟨by first | exact e.frames | (simpa[Around.under,Code.envs,Code.isFrame,pushEnvs] using e.frames),e.mod,e.bs,e.bsz,e.funs,e.frf,e.hok,e.bare⟩
section
variable{X:Cx}{k:List (γ×Obj)}{j:St}{H:Hp}{s s':δ}
theorem Oz.env0(I:Oz X k j H s):Env0 X.prog X.w X.K X.mg X.base X.A X.stack s H :=
 ⟨I.ok.frames,I.ok.mod,I.bs,zAj I.ok.bsz I.sz,I.stack,I.stkFree,I.hok,I.bare⟩
theorem Oz.after{Q:VK}{u:V'}(I:Oz X k j H s)(h:CE X.stack X.prog X.w H s Q u s'):EP X k j Q u s':=by
 obtain⟨v,H',e,bare,f,a,r,q⟩:=h;obtain⟨i,g,d,t,c⟩:=s';obtain rfl:c=s.os:=e;exact⟨v,H',I.call (h':=i) (g':=g) (d':=d) (t':=t) (ch:=[]) f a bare (λ b z=>absurd z (by simp)),r,q⟩
end
def Hx(sp:Sp)(dvs:List V)(E:St->XK)(t:TA):TE:=λ a H Q=>t a H λ vs H1=>sp (vs++dvs) H1 Q (E a)
def Gu(C:γ)(m:Str)(sp:Sp)(dvs:List V)(E:St->XK)(ta:TE)(t:TA):TE:=λ b H Q=>ta b H λ x H1=>∃ a dx fs,x=.ref a/\H1 a=some (.ins C dx fs)/\fs.lookup m=none /\
 t b H1 λ vs H2=>sp (x::(vs++dvs)) H2 Q (E b)
def tMake(C:γ)(sp:Sp)(dvs:List V)(E:St->XK)(t:TA):TE:=λ a H Q=>t a H λ vs H1=>∀ x dx,H1 x=none->H1 dx=none->dx≠x ->
 sp (.ref x::(vs++dvs)) (upd (upd H1 dx (.own x)) x (.ins C dx [])) (λ v H2=>v=.non/\Q (.ref x) H2) (E a)
def Binds(K:No)(fd:ε)(ps:List Str)(ds:List V'):Prop :=
 ∀(s:δ)(us:List V'),K.In s.heap->(us++ds).length=ps.length->BindsTo s fd ⟨us,[]⟩ (ps.zip (us++ds))
theorem Binds.all{K:No}{fd:ε}{ps:List Str}(h:∀ us:List V',us.length=ps.length->bindArgs fd ⟨us,[]⟩=pure (ps.zip us)):Binds K fd ps []:=λ s us _ a=>by
 rw[zAd] at a ⊢;exact .of_eq (h us a)
def qN1(CX:CXT)(X:Cx)(E:St->XK):Prop:=∀(D6:List (γ×Obj))(a:St)(H:Hp)(s:δ)(e:V')(s':δ),Oz X D6 a H s->CX X.stack H s (E a) e s'->X.xe e s'
section
variable{X:Cx}{Z:Bool}{CX:CXT}{k:Nat}{f C:γ}{Y:ε}{ps:List Str}{sp:Sp}{dvs:List V}{ds:List V'}{E:St->XK}{x m:Str}{p S T:Pos}{e o:Kj}{U:List Kj}{ta:TE}{t:TA}
theorem qaA1{D6:List (γ×Obj)}{R:St}{H:Hp}{s:δ}{Q:VK}{vs:List V}(F:Dn Z X.prog X.w X.K X.mg X.base CX k f Y ps sp)(c:O2 Z k X.A)(d:Binds X.K Y ps ds)(g:Ox dvs ds)(i:qN1 CX X E)(I:Oz X D6 R H s)(r:Ox vs us)(h:sp (vs++dvs) H Q (E R)):Kc (Kd X.prog X.w) X.A (call (.ref f) us) (EP X D6 R Q) X.xe s:=by
 have b:Ox (vs++dvs) (us++ds):=r.append g;have j:(us++ds).length=ps.length:=by rw[<- b.length];exact F.len _ _ _ _ h
 refine wpAny_call (codeAny_mono (F.run X.A X.stack s H ⟨us,[]⟩ (us++ds) (vs++dvs) Q (E R) c I.env0 (d s us I.kIn j) b h) λ r l a=>?_);cases r with
 | error e=>exact i D6 R H s e l I a
 | ok m =>
   cases m with
   | ret u=>exact I.after a
   | next=>exact Om a
   | brk=>exact Om a
   | cont=>exact Om a
theorem qav7(F:Dn Z X.prog X.w X.K X.mg X.base CX k f Y ps sp)(d:O2 Z k X.A)(g:Gl X x)(hm:X.mg x=some (.ref f))(i:W.keepIn X.K (.ref f)=true)(j:Binds X.K Y ps ds)(l:Ox dvs ds)(m:qN1 CX X E)(n:PA X (e::U) t)(a:N' x:=by decide)(o:Jp (e::U) X.env=(false,eval e X.env)::Jp U X.env:=by rfl)(b:(backTo S (Jp U X.env)).any (·.1)=false:=by rfl) :
   PE X (.Call (.Name x p) (e::U) [] S) (Hx sp dvs E t):=by
 intro D6 s R H Q I h;refine wpAny_Call_Name_kw (qah8 I g hm ?_ a);refine W.callWith_K (h₀:=X.base) I.ok.mod.kin i (thn (n S D6 s R H _ I h) λ u v c=>?_) o b;obtain⟨y,H1,I1,r,q⟩:=c;refine⟨I1.kIn,?_⟩;exact qaA1 F d j l m I1 r q
theorem qav4(n:PE X o ta)(c:Cls X.K C)(hm:Hw X.K C m f)(F:Dn Z X.prog X.w X.K X.mg X.base CX k f Y ps sp)(p:O2 Z k X.A)(v:Binds X.K Y ps ds)(y:Ox dvs ds)(z:qN1 CX X E)(B:PA X (e::U) t)(d:Jp (e::U) X.env=(false,eval e X.env)::Jp U X.env:=by rfl)(g:(backTo S (Jp U X.env)).any (·.1)=false:=by rfl)(D:eval (.Call (.Attribute o m T) (e::U) [] S) X.env=(do
     let ov <- eval o X.env
     standAt T.atName
     let (f,first) <- holding [ov] (getMethod ov m pl)
     callWith S f first (backTo S (Jp (e::U) X.env)) (backToKw S (J0 [] X.env))):=by rfl) :
   PE X (.Call (.Attribute o m T) (e::U) [] S) (Gu C m sp dvs E ta t):=by
 intro D6 s R H Q I h;refine W.methodCall_KW (pl:=pl) (thn (n D6 s R H _ I h) λ u G b=>?_) D;obtain⟨x,H1,I1,J,a,N,O,L,M,l,q⟩:=b;subst L;obtain rfl:u=M' a:=J;refine qL5 I1 M c hm l ?_;refine W.callWith_K (first:=[.ref a]) (h₀:=X.base) I.ok.mod.kin hm.kp (thn (B S D6 G R H1 _ I1 q) λ i P b=>?_) d g;obtain⟨j,H2,I2,r,q2⟩:=b;refine⟨I2.kIn,?_⟩;exact qaA1 (us:=.ref a::i) (vs:=.ref a::j) F p v y z I2 (.cons rfl r) q2
theorem qae7(d:PE X o ta)(c:Cls X.K C)(hm:Hw X.K C m f)(F:Dn Z X.prog X.w X.K X.mg X.base CX k f Y ps sp)(e:O2 Z k X.A)(g:Binds X.K Y ps ds)(i:Ox dvs ds)(j:qN1 CX X E)(n:eval (.Call (.Attribute o m T) [] [] S) X.env=(do
     let ov <- eval o X.env
     standAt T.atName
     let (f,first) <- holding [ov] (getMethod ov m pl)
     callWith S f first (backTo S (Jp [] X.env)) (backToKw S (J0 [] X.env))):=by rfl) :
   PE X (.Call (.Attribute o m T) [] [] S) (Gu C m sp dvs E ta tNil):=by
 intro D6 s R H Q I h;refine W.methodCall_KW (pl:=pl) (thn (d D6 s R H _ I h) λ u v b=>?_) n;obtain⟨x,H1,I1,p,a,y,z,r,t,l,q⟩:=b;subst r;obtain rfl:u=M' a:=p;refine qL5 I1 t c hm l ?_;exact W.callWith_K0 (first:=[.ref a]) I1.kIn hm.kp (qaA1 (us:=[.ref a]) (vs:=[.ref a]) F e g i j I1 (.cons rfl .nil) q)
structure Mk(K:No)(C f:γ):Prop where
 makes:W.makesIn K C=true
 init:W.findIn K (.ref C) "__init__" = some (some (.ref f))
 fn:W.isFn K (.ref f)=true
 kp:W.keepIn K (.ref C)=true
theorem qaA0{D6:List (γ×Obj)}{R:St}{H:Hp}{s:δ}{Q:VK}{vs:List V}(M:Mk X.K C f)(F:Dn Z X.prog X.w X.K X.mg X.base CX k f Y ps sp)(d:O2 Z (k+1) X.A)(g:Binds X.K Y ps ds)(i:Ox dvs ds)(j:qN1 CX X E)(I:Oz X D6 R H s)(r:Ox vs us)(h:∀ x dx,H x=none->H dx=none->dx≠x->sp (.ref x::(vs++dvs)) (upd (upd H dx (.own x)) x (.ins C dx [])) (λ v H2=>v=.non/\Q (.ref x) H2) (E R)) :
   Kc (Kd X.prog X.w) X.A (call (.ref C) us) (EP X D6 R Q) X.xe s:=by
 have b:=h (s.heap.objs.size+1) s.heap.objs.size (I.hok.fresh (Nat.le_succ _)) (I.hok.fresh (zA2 _)) (zAt (Nat.lt_succ_self _));have I2:=Oz.made (C:=C) I;have c:Ox (V.ref (s.heap.objs.size+1)::(vs++dvs)) (M' (s.heap.objs.size+1)::(us++ds)):=.cons rfl (r.append i);have l:(M' (s.heap.objs.size+1)::us++ds).length=ps.length:=by
   have e:=c.length;rw[F.len _ _ _ _ b] at e;exact e.symm
 refine wpAny_call (qaD3 (f:=f) I.kIn M.makes M.init (zBt.mp M.fn) (codeAny_mono (F.run _ X.stack _ _ ⟨M' (s.heap.objs.size+1)::us,[]⟩ (M' (s.heap.objs.size+1)::(us++ds)) _ _ (E R) (d.make C us [])
   (I2.env0.make C us []) (g _ (M' (s.heap.objs.size+1)::us) I2.kIn l) c b) λ r m a=>?_))
 cases r with
 | error e=>exact j D6 R _ _ e m I2 a
 | ok n =>
   cases n with
   | ret u =>
     obtain⟨v,H',I3,o,p,q⟩:=I2.after a;subst p;exact⟨o,⟨V.ref (s.heap.objs.size+1),H',I3,rfl,q⟩⟩
   | next=>exact Om a
   | brk=>exact Om a
   | cont=>exact Om a
theorem qae8(M:Mk X.K C f)(F:Dn Z X.prog X.w X.K X.mg X.base CX k f Y ps sp)(d:O2 Z (k+1) X.A)(g:Gl X x)(hm:X.mg x=some (.ref C))(i:Binds X.K Y ps ds)(j:Ox dvs ds)(l:qN1 CX X E)(m:PA X (e::U) t)(a:N' x:=by decide)(n:Jp (e::U) X.env=(false,eval e X.env)::Jp U X.env:=by rfl)(b:(backTo S (Jp U X.env)).any (·.1)=false:=by rfl) :
   PE X (.Call (.Name x p) (e::U) [] S) (tMake C sp dvs E t):=by
 intro D6 s R H Q I h;refine wpAny_Call_Name_kw (qah8 I g hm ?_ a);refine W.callWith_K (h₀:=X.base) I.ok.mod.kin M.kp (thn (m S D6 s R H _ I h) λ o u c=>?_) n b;obtain⟨v,H1,I1,r,q⟩:=c;refine⟨I1.kIn,?_⟩;exact qaA0 M F d i j l I1 r q
end
structure qa9(N P:List Str)(sc:Scope):Prop where
 kind:sc.kind=.function
 co:sc.isCoroutine=false
 gen:sc.isGenerator=false
 nd:N.Nodup
 pre:N.take P.length=P
 par:∀ x∈P,sc.names.lookup x=some .local∨sc.names.lookup x=some .cell
 nofree:∀ y∈sc.names,y.2≠.free
theorem qX9{Kv:Str->Option NameKind}{x:Str}:∀{binds:List (Str×V')}{m:Str->Option V'},(∀ v,(x,v)∉binds)->bindL Kv binds m x=m x
 | [],_,_=>rfl
 | (n,v)::r,m,h=>by
   unfold bindL;rw[qX9 λ w a=>h w (zA7 _ a)];split
   . have:x≠n:=by rintro rfl;exact h v zAf
     simp[this]
   rfl
theorem qY1{Kv:Str->Option NameKind}{x:Str}:∀{binds:List (Str×V')}{m:Str->Option V'},(∀ v,(x,v)∉binds)->bindC Kv binds m x=m x
 | [],_,_=>rfl
 | (n,v)::r,m,h=>by
   unfold bindC;rw[qY1 λ w a=>h w (zA7 _ a)];split
   . rfl
   have:x≠n:=by rintro rfl;exact h v zAf
   simp[this]
theorem qY0{Kv:Str->Option NameKind}{x:Str}{v:V'}:∀{P:List Str}{vs:List V'}{i:Nat}{m:Str->Option V'},P.Nodup->P[i]? = some x->vs[i]? = some v->Kv x=some .local ->
   bindL Kv (P.zip vs) m x=some v
 | [],_,_,_,_,h,_,_=>by simp at h
 | _::_,[],_,_,_,_,h,_=>by simp at h
 | p::P,w::vs,0,m,nd,h1,h2,hk=>by
   simp at h1 h2;subst h1;subst h2;show bindL Kv ((p,w)::P.zip vs) m p=_;unfold bindL;rw[qX9 λ v a=>(zCi.mp nd).1 (L8 a).1,if_pos hk];simp
 | p::P,w::vs,i+1,m,nd,h1,h2,hk=>by
   show bindL Kv ((p,w)::P.zip vs) m x=_;unfold bindL;exact qY0 (i:=i) (zCi.mp nd).2 (by simpa using h1) (by simpa using h2) hk
theorem qY2{Kv:Str->Option NameKind}{x:Str}{v:V'}:∀{P:List Str}{vs:List V'}{i:Nat}{m:Str->Option V'},P.Nodup->P[i]? = some x->vs[i]? = some v->Kv x≠some .local ->
   bindC Kv (P.zip vs) m x=some v
 | [],_,_,_,_,h,_,_=>by simp at h
 | _::_,[],_,_,_,_,h,_=>by simp at h
 | p::P,w::vs,0,m,nd,h1,h2,hk=>by
   simp at h1 h2;subst h1;subst h2;show bindC Kv ((p,w)::P.zip vs) m p=_;unfold bindC;rw[qY1 λ v a=>(zCi.mp nd).1 (L8 a).1,if_neg hk];simp
 | p::P,w::vs,i+1,m,nd,h1,h2,hk=>by
   show bindC Kv ((p,w)::P.zip vs) m x=_;unfold bindC;exact qY2 (i:=i) (zCi.mp nd).2 (by simpa using h1) (by simpa using h2) hk
noncomputable def start(N:List Str)(vs:List V):St:=vs.map some++Ky (N.length - vs.length) none
noncomputable def Dx(cm:Bool)(CX:CXT)(P:Ke)(w:Ki)(K:No)(mg:Str->Option V')(base:Heap)(N:List Str)(qual:Str)(scope:Scope)(f:γ)(cd:V')(A:Kf)(outer:List Env)(s:δ)(H:Hp)(E:XK):Cx where
 prog:=P
 w:=w
 K:=K
 mg:=mg
 base:=base
 A:=A.deeper (envOfC qual scope s.heap.objs.size f cd)
 N:=N
 s₀:=s
 H₀:=H
 env:=envOfC qual scope s.heap.objs.size f cd
 outer:=outer
 stack:=envOfC qual scope s.heap.objs.size f cd::outer
 ex:=[]
 calm:=cm
 fn:=λ _=>true
 pn:=[]
 xe:=λ e s'=>Kc (Kd P w) (A.deeper (envOfC qual scope s.heap.objs.size f cd)) (leaving (envOfC qual scope s.heap.objs.size f cd) e) (λ _ a=>CX outer H s E e a) (λ b a=>CX outer H s E b a) s'
theorem qak9{sc:Scope}{x:Str}(h:sc.names.lookup x=some .cell):∃ c,(cellsFrom n sc.names []).lookup x=some c:=by
 have q:=W.cellsFrom_some sc.names n [] (.inl h);exact zB0.mp q
theorem qaq7{cm:Bool}{CX:CXT}{P:Ke}{w:Ki}{K:No}{ps:List Str}{qual:Str}{scope:Scope}{f:γ}{cd:V'}{A:Kf}{outer:List Env}{s C:δ}{H:Hp}{E:XK}{vs:List V}(S:qa9 N ps scope)(G:cm=true->A.handled=none)(g:Env0 P w K mg base A outer s H)(M:vs.length=ps.length)(r:Ox vs us)(x:InCallC s s.heap.objs.size (bindL (envOfC qual scope s.heap.objs.size f cd).kindOf (ps.zip us) λ _=>none) (cellsFrom (s.heap.objs.size+1) scope.names []) (bindC (envOfC qual scope s.heap.objs.size f cd).kindOf (ps.zip us) λ _=>none) C) :
   Oz (Dx cm CX P w K mg base N qual scope f cd A outer s H E) [] (start N vs) H C:=by
 have I:ps.length<=N.length:=by have:=congrArg K5 S.pre;rw[zBk] at this;lia
 obtain⟨t,O,rfl,D⟩:=x.done;have j:∀ b:γ,b∉(Dx cm CX P w K mg base N qual scope f cd A outer s H E).ex:=λ b z=>absurd (show b∈([]:List γ) from z) (by simp)
 refine⟨⟨g.mod,S.kind,rfl,rfl,zA2 _,λ y z c t d=>?_,λ y l=>?_,λ y c _ h=>?_,G,Around.frames_deeper g.frames,.inr ⟨rfl,rfl⟩,λ b z=>absurd z (j b),g.bs,g.bsz,λ b _ _=>j b,λ b z=>absurd z (j b),g.funs,g.frf⟩,
   rfl,g.bare,Un.kept D,⟨_,x.toInCall.ns,λ i y v t d Q=>?_⟩,λ y c h=>⟨_,x.cell y c h⟩,g.hok.fresh (zA2 _),λ y c h=>?_,λ p m=>absurd (show p∈([]:List (γ×Obj)) from m) (by simp),g.hok.kept D,?_⟩
 . exact name_of_addr x.apart (PySem.mem_of_lookup t) (PySem.mem_of_lookup d)
 . have l:scope.names.lookup y=some .cell∨scope.names.lookup y=some .free:=l
   rcases l with l | l
   . exact qak9 l
   exact absurd rfl (S.nofree _ (PySem.mem_of_lookup l))
 . exact zBa (x.above y c (PySem.mem_of_lookup h))
 . have B:i < vs.length:=by
     unfold start at d;by_cases B:i < vs.length
     . exact B
     rw[zBo (by simpa using B)] at d;rw[List.getElem?_replicate] at d;split at d<;>cases d
   have J:vs[i]? = some v:=by
     unfold start at d;rw[zAp (by simpa using B),zB3] at d;cases e:vs[i]? with
     | none=>rw[e] at d;cases d
     | some a=>rw[e] at d;cases d;rfl
   obtain⟨u,F,L⟩:=r.get J;have m:ps[i]? = some y:=by
     rw[<- S.pre,List.getElem?_take_of_lt (by lia)];exact t
   have o:ps.Nodup:=by rw[<- S.pre];exact S.nd.sublist (zCa _ _)
   refine⟨u,L,?_⟩;rcases S.par y (zAx m) with k | k
   . exact .inl ⟨k,qY0 o m F k⟩
   obtain⟨c,e⟩:=qak9 (n:=s.heap.objs.size+1) k;refine .inr ⟨.inl k,c,e,?_⟩;have q:=x.cell y c e;rw[qY2 o m F (by show scope.names.lookup y≠_;rw[k];decide)] at q;exact q
 . exact g.hok.fresh (zBa (x.above y c (PySem.mem_of_lookup h)))
 unfold start;show _=N.length;rw[zA6,zAg,List.length_replicate];lia
theorem Hy{cm:Bool}{CX:CXT}{P:Ke}{w:Ki}{K:No}{k:Nat}{f:γ}{name qual:Str}{params:Arguments}{scope:Scope}{B kV d C a D oc:V'}{F L:Option γ}{i:Array (Option V')}{ps:List Str}{sp:Sp}(M:K.lookup f=some ⟨oc,L,.func (W.fnOf name qual params body scope B kV d C F a D),i⟩)(j:W.codeIn K a qual=true)(S:qa9 N ps scope)(len:∀ vs H Q E,sp vs H Q E->vs.length=ps.length)(hbody:∀(A:Kf)(outer:List Env)(s:δ)(H:Hp)(vs:List V)(Q:VK)(E:XK),O2 cm k (A.deeper (envOfC qual scope s.heap.objs.size f a))->sp vs H Q E ->
     ∃ t,PSs (Dx cm CX P w K mg base N qual scope f a A outer s H E) body t/\t { nx:=λ _ H'=>Q .non H',rt:=Q } (start N vs) H) :
   Dn cm P w K mg base CX (k+1) f (W.fnOf name qual params body scope B kV d C F a D) ps sp:=by
 refine⟨len,λ A outer s H args O vs Q E l g R r h=>?_⟩;have T:=len _ _ _ _ h;have KX:K.In s.heap:=g.mod.kin.keeps λ b o e=>(g.bs b o e).1
 have m:s.heap.NoLimit:=g.mod.nolimit.keeps λ b o e=>(g.bs b o e).1
 have hkind:∀ y∈ps.zip O,scope.names.lookup y.1=some .local∨(scope.names.lookup y.1=some .cell/\((cellsFrom (s.heap.objs.size+1) scope.names []).lookup y.1).isSome=true):=λ ⟨n,v⟩ U=>by
   rcases S.par n (L8 U).1 with q | q
   . exact .inl q
   exact .inr ⟨q,W.cellsFrom_some _ _ _ (.inl q)⟩
 refine codeAny_call_function l.depth (KX _ _ M) rfl S.co S.gen rfl (W.codeRec_of KX j) (R _ _ _ _ ?_);refine wpAny_newFunctionEnv_cells S.kind hkind λ X Y G x=>?_
 subst Y;refine⟨m.keeps x.toInCall.keep,codeAny_func ?_⟩;obtain⟨t,Z,hq⟩:=hbody A outer s H vs Q E (l.deeper _) h;have I:Oz (Dx cm CX P w K mg base N qual scope f a A outer s H E) [] (start N vs) H G:=qaq7 S l.hd g T r x;refine J1 (Z [] G (start N vs) H _ I hq) (λ fl p c=>?_) λ e p c=>c
 have fin:∀{σ':St}{H':Hp}{v:V}{u:V'},Oz (Dx cm CX P w K mg base N qual scope f a A outer s H E) [] σ' H' p->Ow v u->Q v H'->CE outer P w H s Q u p :=
   λ{σ' H' v u} J z q=>⟨v,H',J.os,J.bare,J.base,J.hok,z,q⟩
 cases fl with
 | ret u =>
   obtain⟨v,σ',H',J,z,q⟩:=c;exact fin J z q
 | next =>
   obtain⟨σ',H',J,q⟩:=c;exact fin (v:=V.non) (u:=Na) J rfl q
 | brk =>
   obtain⟨_,_,_,q⟩:=c;exact Om q
 | cont =>
   obtain⟨_,_,_,q⟩:=c;exact Om q
section
variable{X:Cx}{x:Str}{p u:Pos}{e:Kj}{v:List Kj}{t:TA}{w T:String}{r:List V->Hp->VK->Prop}
def tCB(r:List V->Hp->VK->Prop)(t:TA):TE:=λ q H Q=>t q H λ vs H1=>r vs H1 Q
theorem qaB5(c:CallR X (.builtin w) r)(d:Gl X x)(hm:X.mg x=none)(f:Ju x=some (.builtin w))(g:PA X (e::v) t)(i:x ≠ "__name__" := by decide)(a:N' x:=by decide)(j:Jp (e::v) X.env=(false,eval e X.env)::Jp v X.env:=by rfl)(b:(backTo u (Jp v X.env)).any (·.1)=false:=by rfl):PE X (.Call (.Name x p) (e::v) [] u) (tCB r t):=by
 intro D6 s q H Q I h;refine wpAny_Call_Name_kw (qah9 I d hm f ?_ i a);exact PyProof.Rows.callWith_builtin1 (thn (g u D6 s q H _ I h) λ k l ⟨m,H1,I1,n,o⟩=>c D6 l q H1 m k Q I1 n o) j b
theorem qao9(c:CallR X (.type T) r)(d:Gl X x)(hm:X.mg x=none)(f:Ju x=some (.type T))(g:PA X (e::v) t)(i:x ≠ "__name__" := by decide)(a:N' x:=by decide)(j:Jp (e::v) X.env=(false,eval e X.env)::Jp v X.env:=by rfl)(b:(backTo u (Jp v X.env)).any (·.1)=false:=by rfl):PE X (.Call (.Name x p) (e::v) [] u) (tCB r t):=by
 intro D6 s q H Q I h;refine wpAny_Call_Name_kw (qah9 I d hm f ?_ i a);exact PyProof.Rows.callWith_type1 (thn (g u D6 s q H _ I h) λ k l ⟨m,H1,I1,n,o⟩=>c D6 l q H1 m k Q I1 n o) j b
end
end L2
namespace HT
open PySem PyProof.Rows
section
noncomputable def sIx(n d:Nat):Option Int->Nat
 | none=>d
 | some v=>if v < 0 then (v+(n:Int)).toNat else min v.toNat n
theorem qad6(n d:Nat):sIx n d none=d:=rfl
theorem qau1(n d k:Nat):sIx n d (some (k:Int))=min k n:=by
 show (if (k:Int) < 0 then ((k:Int)+(n:Int)).toNat else min (k:Int).toNat n)=min k n;rw[if_neg (by lia),Int.toNat_natCast]
end
end HT
namespace L2
open PySem PySem.Spec PyProof.Rows
variable{its us:List V'}{n:Nat}{x:V}{α:Type}
abbrev TO:=St->Hp->(Option Int->Hp->Prop)->Prop
def PO(X:Cx)(e:Option Kj)(t:TO):Prop :=
 ∀(D6:List (γ×Obj))(s:δ)(a:St)(H:Hp)(Q:Option Int->Hp->Prop),Oz X D6 a H s->t a H Q ->
   Kc (Kd X.prog X.w) X.A (evalPart e X.env) (λ u s'=>∃ o H',Oz X D6 a H' s'/\IsPart u o/\Q o H') X.xe s
def qaH3:TO:=λ _ H Q=>Q none H
def tPart(t:TE):TO:=λ a H Q=>t a H λ x H1=>∃ i,x=.int i/\Q (some i) H1
theorem qai7{ns:List Int}:∀{us:List V'},Ox (ns.map V.int) us->IntsAre us ns:=by
 induction ns with
 | nil=>intro us r;rw[Ml] at r;cases r;exact .nil
 | cons n ns a =>
   intro us r;rw[zAy] at r;cases r with
   | cons b c =>
     obtain⟨t,e⟩:=b;subst e;exact .cons n t (a c)
section
variable{X:Cx}{e:Kj}{te:TE}{J K:Option Kj}{M L:TO}{N O:Pos}
theorem qae5:PO X none qaH3:=by
 intro D6 s E H Q I h;rw[evalPart_none];exact G' ⟨none,H,I,.none,h⟩
theorem qae4(h:PE X e te):PO X (some e) (tPart te):=by
 intro D6 s E H Q I b;rw[evalPart_some];refine thn (h D6 s E H _ I b) λ u f a=>?_
 obtain⟨x,H1,I1,c,d⟩:=a;obtain⟨i,rfl,q⟩:=d;obtain⟨t,rfl⟩:=c;exact⟨some i,H1,I1,.int i t,q⟩
def SlR(X:Cx)(r:V->Option Int->Option Int->Hp->VK->Prop):Prop :=
 ∀(D6:List (γ×Obj))(s:δ)(E:St)(H:Hp)(x:V)(v vl vu:V')(J K:Option Int)(sl:γ)(Q:VK),Oz X D6 E H s->Ow x v->s.heap.IsSliceOf sl vl vu .none->IsPart vl J->IsPart vu K->r x J K H Q ->
   ∃ T id,typeLookup (.type T) "__getitem__" = pure (some (.builtin id))/\s.TypeIs v T/\Kc (Kd X.prog X.w) X.A (getItem v (.ref sl)) (EP X D6 E Q) X.xe s
def tSl(r:V->Option Int->Option Int->Hp->VK->Prop)(te:TE)(M L:TO):TE:=λ E H Q=>te E H λ x H1=>M E H1 λ l H2=>L E H2 λ u H3=>r x l u H3 Q
theorem qQ2{r:V->Option Int->Option Int->Hp->VK->Prop}(g:SlR X r)(i:PE X e te)(j:PO X J M)(k:PO X K L):PE X (.Subscript e (.Slice J K none O) N) (tSl r te M L):=by
 intro D6 s E H Q I h;refine Subscript_ (thn (i D6 s E H _ I h) λ v m a=>?_);obtain⟨x,H1,I1,n,o⟩:=a;refine wpAny_Slice (thn (j D6 m E H1 _ I1 o) λ d p a=>?_);obtain⟨l,H2,I2,t,q2⟩:=a;refine thn (k D6 p E H2 _ I2 q2) λ f c a=>?_
 obtain⟨u,H3,I3,y,z⟩:=a;rw[evalPart_none];refine G' ?_;have I4:Oz X D6 E H3 { c with heap:=c.heap.push { cls:=.type "slice",data:=.fields #[d,f,.none] } }:=I3.kept (t':=c.toks) λ b F q=>zA5 _ q
 obtain⟨T,id,B,C,D⟩:=g D6 { c with heap:=c.heap.push { cls:=.type "slice",data:=.fields #[d,f,.none] } } E H3 x v d f l u c.heap.objs.size Q I4 n (Heap.IsSliceOf.new ..) t y z;show Kc (Kd X.prog X.w) X.A (subscriptTail e (.Slice J K none O) v (.ref c.heap.objs.size)) (EP X D6 E Q) X.xe { c with heap:=c.heap.push { cls:=.type "slice",data:=.fields #[d,f,.none] } };exact tail_any (ops:=[.ref c.heap.objs.size,v]) C B D (by with_unfolding_all rfl)
def Fy(xs:List V)(J K:Option Int):List V:=(xs.drop (HT.sIx xs.length 0 J)).take (HT.sIx xs.length xs.length K - HT.sIx xs.length 0 J)
theorem qab1(xs:List V)(J K:Option Int):(Fy xs J K).length<=xs.length:=by
 unfold Fy;rw[zBk,K8];lia
end
noncomputable def ixN(n:Nat)(i:Int):Option Nat:=if 0<=i then (if i < n then some i.toNat else none) else if -(n:Int)<=i then some (i+n).toNat else none
def atI{α:Type}(xs:List α)(i:Int):Option α:=(ixN xs.length i).bind λ j=>xs[j]?
theorem qU9{i:Int}{j:Nat}(h:ixN n i=some j):seqIndex? i n=some j/\j < n/\-(n:Int)<=i/\i < n:=by
 unfold ixN at h;by_cases b:0<=i
 . rw[if_pos b] at h
   by_cases a:i < n
   . rw[if_pos a] at h
     have e:i.toNat=j:=Nm h;exact⟨by rw[seqIndex_of b a,e],by lia,by lia,a⟩
   rw[if_neg a] at h;cases h
 rw[if_neg b] at h;by_cases a:-(n:Int)<=i
 . rw[if_pos a] at h
   have e:(i+n).toNat=j:=Nm h;exact⟨by rw[seqIndex_neg (by lia) a,e],by lia,a,by lia⟩
 rw[if_neg a] at h;cases h
theorem qal5{xs:List α}{i:Int}{v:α}(h:atI xs i=some v):∃ j,seqIndex? i xs.length=some j/\xs[j]? = some v/\j < xs.length/\-(xs.length:Int)<=i/\i < xs.length:=by
 unfold atI at h;cases e:ixN xs.length i with
 | none=>rw[e] at h;cases h
 | some j =>
   rw[e] at h;obtain⟨a,b,c,d⟩:=qU9 e;exact⟨j,a,h,b,c,d⟩
theorem qY3{xs:List α}{j:Nat}{v:α}(h:xs[j]? = some v):atI xs (j:Int)=some v:=by
 have a:j < xs.length:=(zA4.mp h).1;have e:ixN xs.length (j:Int)=some j:=by
   unfold ixN;rw[if_pos (by lia),if_pos (by lia)];simp
 unfold atI;rw[e];exact h
theorem qaF8(xs:List α)(v:α):atI (xs++[v]) (-1)=some v:=by
 have a:(xs++[v]).length=xs.length+1:=by simp
 have e:ixN (xs++[v]).length (-1)=some xs.length:=by
   unfold ixN;rw[a,if_neg (by decide),if_pos (by lia)];congr 1;lia
 unfold atI;rw[e];show (xs++[v])[xs.length]? = some v;simp
def qal9(b:Kj):Prop:=∀ o i,subscripted b false o i=operate [o,i] (getItem o i)
def IxR(X:Cx)(r:R2):Prop :=
 ∀(value slice:Kj)(D6:List (γ×Obj))(s:δ)(a:St)(H:Hp)(x y:V)(v u:V')(Q:VK),Oz X D6 a H s->Ow x v->Ow y u->r x y H Q ->
   subscripted slice false v u=operate [v,u] (getItem v u)->Kc (Kd X.prog X.w) X.A (subscriptTail value slice v u) (EP X D6 a Q) X.xe s
def MtR(X:Cx)(id:String)(r:V->List V->Hp->VK->Prop):Prop :=
 ∀(D6:List (γ×Obj))(s:δ)(a:St)(H:Hp)(x:V)(xs:List V)(v:V')(us:List V')(Q:VK),Oz X D6 a H s->Ow x v->Ox xs us->r x xs H Q ->
   Kc (Kd X.prog X.w) X.A (call (.builtin id) (v::us)) (EP X D6 a Q) X.xe s
section
variable{X:Cx}{a b:Kj}{ta tb:TE}{Z:Pos}
theorem IxR.or{r a:R2}(h:IxR X r)(h':IxR X a):IxR X (λ x y H Q=>r x y H Q∨a x y H Q):=by
 intro value slice D6 s M H x y v u Q I b c q d;rcases q with q | q
 . exact h value slice D6 s M H x y v u Q I b c q d
 exact h' value slice D6 s M H x y v u Q I b c q d
theorem pe_ix{r:R2}(c:IxR X r)(d:PE X a ta)(e:PE X b tb)(f:qal9 b):PE X (.Subscript a b Z) (tOp r ta tb):=by
 intro D6 s M H Q I h;exact Subscript_ (binT d e I h λ v u g x y H2 I2 i j q=>c a b D6 g M H2 x y v u Q I2 i j q (f _ _))
def rIxL(K:No):R2:=λ x y H Q=>∃ p xs i v,x=.ref p/\y=.int i/\SqL K H p xs/\atI xs i=some v/\Q v H
def rIxT(K:No):R2:=λ x y H Q=>∃ p xs i v,x=.ref p/\y=.int i/\SqT K H p xs/\atI xs i=some v/\Q v H
def rIxS:R2:=λ x y H Q=>∃ z i c,x=.str z/\y=.int i/\z.length<=Jq/\atI z.cps.toList i=some c/\Q (.str ⟨#[c]⟩) H
theorem qaN4:IxR X (rIxL X.K):=by
 intro value slice D6 s M H x y v u Q I l m h f;obtain⟨p,F,i,z,rfl,rfl,n,o,q⟩:=h;cases l;obtain⟨t,rfl⟩:=m;obtain⟨b,r,c,G⟩:=I.list n;obtain⟨j,a,A,J,B,C⟩:=qal5 o;obtain⟨w,g,d⟩:=r.get A;have D:=r.length;have L:=qR4;have fin:EP X D6 M Q w s:=⟨z,H,I,d,q⟩
 by_cases k:0<=i
 . have e:i.toNat=j:=by
     rw[seqIndex_of k C] at a;exact Nm a
   exact item_listR c.isList k (by lia) (by rw[e];simpa using g) fin f
 have e:(i+(b.toArray.size:Int)).toNat=j:=by
   rw[seqIndex_neg (by lia) B] at a;rw[zA3,<- D];exact Nm a
 exact subscriptTail_builtinR (x:=w) c.isList.typeIs slot_list_getitem.lookup
   (wpAny_getItem_list_neg (Q:=λ r E=>r=w/\EP X D6 M Q r E) c.isList (by lia) (by rw[zA3]<;>lia) (by lia) (by rw[e];simpa using g) ⟨rfl,fin⟩) f
theorem qaW1:IxR X (rIxT X.K):=by
 intro value slice D6 s M H x y v u Q I c d h e;obtain⟨p,B,i,z,rfl,rfl,f,g,q⟩:=h;cases c;obtain⟨t,rfl⟩:=d;obtain⟨k,r,b,C⟩:=I.tuple f;obtain⟨j,l,m,D,E,F⟩:=qal5 g;obtain⟨w,n,a⟩:=r.get m;have o:=r.length;have G:=qR4;have fin:EP X D6 M Q w s:=⟨z,H,I,a,q⟩
 exact subscriptTail_builtinR (x:=w) b.typeIs slot_tuple_getitem.lookup
   (getItem_tuple (j:=j) (Q:=λ r A=>r=w/\EP X D6 M Q r A) b (by lia) (by lia) (by rw[zA3,<- o];exact l) (by simpa using n) ⟨rfl,fin⟩) e
theorem qaW2:IxR X rIxS:=by
 intro value slice D6 s M H x y v u Q I b d h e;obtain⟨z,i,c,rfl,rfl,o,f,q⟩:=h;obtain⟨t,rfl⟩:=b;obtain⟨p,rfl⟩:=d;obtain⟨j,a,g,r,k,l⟩:=qal5 f;have m:z.cps.toList.length=z.length:=by simp[Str.length]
 rw[m] at a k l;have w:=qR4;exact tail_any (typeIs_str s z t) slot_str_getitem.lookup (getItem_str (c:=c) (by
   have n:decide (i < -(2 ^ 63:Int))=false:=zBe (by lia);have e2:decide (i ≥ 2 ^ 63)=false:=zBe (by lia);rw[n,e2,Bool.or_false]) (by rw[a];simpa using g) ⟨.str ⟨#[c]⟩,H,I.tok _,⟨_,rfl⟩,q⟩) e
def rIx(K:No):R2:=λ x y H Q=>rIxL K x y H Q∨rIxT K x y H Q∨rIxS x y H Q
theorem qb4:IxR X (rIx X.K):=qaN4.or (qaW1.or qaW2)
theorem qah0(its:List V')(n j:Nat)(u:V'):Obj.mapSeq (·.setIfInBounds j u) { cls:=.type "list",data:=.seq its.toArray n }={ cls:=.type "list",data:=.seq (its.set j u).toArray n }:=by
 simp[Obj.mapSeq]
theorem Oz.l{D6:List (γ×Obj)}{M:St}{H:Hp}{s:δ}{p:γ}{xs:List V}(I:Oz X D6 M H s)(h:H p=some (.l xs)) :
   ∃(its:List V')(n:Nat),Ox xs its/\s.heap.get? p=some { cls:=.type "list",data:=.seq its.toArray n }/\xs.length<=Jq:=by
 obtain⟨z,its,n,r,e⟩:=I.hok p _ h;exact⟨its,n,r,e,z⟩
theorem Oz.lstUpd{D6:List (γ×Obj)}{M:St}{H:Hp}{s:δ}{p:γ}{xs ys:List V}{its':List V'}{a:Nat}{f:Obj->Obj}(I:Oz X D6 M H s)(h:H p=some (.l xs))(d:s.heap.get? p=some { cls:=.type "list",data:=.seq its.toArray n })(c:f { cls:=.type "list",data:=.seq its.toArray n }={ cls:=.type "list",data:=.seq its'.toArray a })(r:Ox ys its')(g:ys.length<=Jq)(t:Nat) :
   Oz X D6 M (upd H p (.l ys)) { s with heap:=s.heap.update p f,toks:=t }:=by
 have e:(s.heap.update p f).get? p=some { cls:=.type "list",data:=.seq its'.toArray a }:=by
   rw[Heap.get?_update_self f d (by rw[c]<;>rfl),c]
 refine I.write (x:=p) (e:=p) (by rw[h];trivial) (.inl rfl) (λ b u i q=>(zBj _ _ (Ne.symm i)).trans q) ⟨_,e⟩ ?_;exact⟨g,its',a,r,e⟩
def rSetL:V->V->V->Hp->(Hp->Prop)->Prop:=λ o i v H Q=>∃ p xs k j,o=.ref p/\i=.int k/\H p=some (.l xs)/\ixN xs.length k=some j/\Q (upd H p (.l (xs.set j v)))
theorem qad1:PSet X rSetL:=by
 intro D6 s M H o i v C D u Q I w x y h;obtain⟨p,z,k,j,rfl,rfl,f,A,q⟩:=h;cases w;obtain⟨t,rfl⟩:=x;obtain⟨a,n,r,c,B⟩:=I.l f;obtain⟨b,E,g,l⟩:=qU9 A;have d:=r.length;have F:=qR4;have I':Oz X D6 M (upd H p (.l (z.set j v))) { s with heap:=s.heap.update p (Obj.mapSeq (·.setIfInBounds j u)) } :=
   I.lstUpd f c (qah0 a n j u) (r.set y j) (by rw[L9];exact B) s.toks
 by_cases m:0<=k
 . have e:k.toNat=j:=by
     rw[seqIndex_of m l] at b;exact Nm b
   exact W.ki_setAt c m (by lia) (by rw[zA3,<- d];exact l) (by rw[e];exact⟨_,I',q⟩)
 have e:(k+(a.toArray.size:Int)).toNat=j:=by
   rw[seqIndex_neg (by lia) g] at b;rw[zA3,<- d];exact Nm b
 exact W.ki_setBack c (by lia) (by rw[zA3,<- d];exact g) (by lia) (by rw[e];exact⟨_,I',q⟩)
theorem qO9(lo hi:Option Int)(n:Nat):(sliceBounds lo hi none n).1=((HT.sIx n 0 lo:Nat):Int)/\(sliceBounds lo hi none n).2.1=((HT.sIx n n hi:Nat):Int)/\(sliceBounds lo hi none n).2.2=1:=by
 refine⟨?_,?_,rfl⟩
 . cases lo with
   | none=>simp[sliceBounds,HT.sIx]
   | some i =>
     simp only[sliceBounds,HT.sIx,Option.getD_none,show (1:Int) > 0 by decide,if_true];by_cases h:i < 0
     . simp only[h,if_true]<;>lia
     simp only[h,if_false]<;>lia
 cases hi with
 | none=>simp[sliceBounds,HT.sIx]
 | some i =>
   simp only[sliceBounds,HT.sIx,Option.getD_none,show (1:Int) > 0 by decide,if_true];by_cases h:i < 0
   . simp only[h,if_true]<;>lia
   simp only[h,if_false]<;>lia
theorem qJ0(its:List V')(lo hi:Option Int):slicePick its.toArray lo hi none=((its.drop (HT.sIx its.length 0 lo)).take (HT.sIx its.length its.length hi - HT.sIx its.length 0 lo)).toArray:=by
 obtain⟨a,b,c⟩:=qO9 lo hi its.toArray.size;unfold slicePick;rw[a,b,c];simp only[sliceRange_one,pick_run,zA3]<;>rfl
def rSlL(K:No):V->Option Int->Option Int->Hp->VK->Prop:=λ x lo hi H Q=>∃ a xs,x=.ref a/\SqL K H a xs/\∀ p,H p=none->Q (.ref p) (upd H p (.l (Fy xs lo hi)))
theorem qac7:SlR X (rSlL X.K):=by
 intro D6 s M H x v t u e f w Q I i j k l h;obtain⟨a,c,rfl,m,q⟩:=h;cases i;obtain⟨n,r,g,p⟩:=I.list m;have d:=r.length;refine⟨"list",_,slot_list_getitem.lookup,g.isList.typeIs,?_⟩;refine wpAny_getItem_list_slice g.isList j k l .none (by simp) ?_ (by rw[zA3]<;>lia);rw[qJ0,<- d];refine⟨.ref s.heap.objs.size,_,I.laid (t':=s.toks) (o:=.l (Fy c e f)) (λ b y q=>zA5 _ q) (zA2 _) ?_,rfl,q _ (I.hok.fresh (zA2 _))⟩;exact⟨zAj (qab1 c e f) p,_,0,(r.drop (HT.sIx c.length 0 e)).take (HT.sIx c.length c.length f - HT.sIx c.length 0 e),zB1 _ rfl⟩
noncomputable def flatV:V->Bool
 | .non=>true
 | .bl _=>true
 | .int _=>true
 | .str _=>true
 | _=>false
noncomputable def eqV:V->V->Bool
 | .non,.non=>true
 | .bl a,.bl b=>a == b
 | .bl a,.int b=>(if a then 1 else 0) == b
 | .int a,.bl b=>a == (if b then 1 else 0)
 | .int a,.int b=>a == b
 | .str a,.str b=>a == b
 | _,_=>false
theorem qaP4{A:Kf}{s:δ}{y:V}{u v:V'}(e:Ow y u)(c:Ow x v)(g:flatV y=true)(f:flatV x=true):SeqAt.EqAt A s u v (eqV y x):=by
 cases y with
 | non =>
   cases e;cases x with
   | non=>cases c;exact SeqAt.EqAt.same _
   | bl b=>cases c;exact SeqAt.EqAt.none_bool b
   | int b=>obtain⟨t,rfl⟩:=c;exact SeqAt.EqAt.none_int b t
   | str b=>obtain⟨t,rfl⟩:=c;exact SeqAt.EqAt.none_str b t
   | _=>exact absurd (show false=true from f) zAm
 | bl a =>
   cases e;cases x with
   | non=>cases c;exact SeqAt.EqAt.bool_none a
   | bl b=>cases c;exact SeqAt.EqAt.bool_bool a b
   | int b=>obtain⟨t,rfl⟩:=c;exact SeqAt.EqAt.bool_int a b t
   | str b=>obtain⟨t,rfl⟩:=c;exact SeqAt.EqAt.bool_str a b t
   | _=>exact absurd (show false=true from f) zAm
 | int a =>
   obtain⟨d,rfl⟩:=e;cases x with
   | non=>cases c;exact SeqAt.EqAt.int_none a d
   | bl b=>cases c;exact SeqAt.EqAt.int_bool a d b
   | int b=>obtain⟨t,rfl⟩:=c;exact SeqAt.EqAt.int_int a d b t
   | str b=>obtain⟨t,rfl⟩:=c;exact SeqAt.EqAt.int_str a d b t
   | _=>exact absurd (show false=true from f) zAm
 | str a =>
   obtain⟨d,rfl⟩:=e;cases x with
   | non=>cases c;exact SeqAt.EqAt.str_none a d
   | bl b=>cases c;exact SeqAt.EqAt.str_bool a d b
   | int b=>obtain⟨t,rfl⟩:=c;exact SeqAt.EqAt.str_int a d b t
   | str b=>obtain⟨t,rfl⟩:=c;exact SeqAt.EqAt.str_str a d b t
   | _=>exact absurd (show false=true from f) zAm
 | _=>exact absurd (show false=true from g) zAm
def eqU(x:V)(u:V'):Bool:=match u with
 | .none=>eqV .non x
 | .bool b=>eqV (.bl b) x
 | .int i _=>eqV (.int i) x
 | .str z _=>eqV (.str z) x
 | _=>false
theorem qar8{y:V}{u:V'}(r:Ow y u)(f:flatV y=true):eqU x u=eqV y x:=by
 cases y with
 | non=>cases r;rfl
 | bl b=>cases r;rfl
 | int i=>obtain⟨t,rfl⟩:=r;rfl
 | str z=>obtain⟨t,rfl⟩:=r;rfl
 | _=>exact absurd (show false=true from f) zAm
theorem qM9{x:V}:∀{xs:List V}{us:List V'},Ox xs us->xs.all flatV=true->us.any (eqU x)=xs.any λ y=>eqV y x
 | _,_,.nil,_=>rfl
 | y::xs,u::us,.cons r t,f=>by
   rw[K9,zBi] at f;rw[zCd,zCd,qar8 r f.1,qM9 t f.2]
theorem qp6{A:Kf}{s:δ}{x:V}{v:V'}(b:Ow x v)(c:flatV x=true):∀{xs:List V}{us:List V'},Ox xs us->xs.all flatV=true->∀ u∈us,SeqAt.EqAt A s u v (eqU x u)
 | _,_,.nil,_=>λ u a=>by cases a
 | y::xs,u::us,.cons r t,f=>λ d a=>by
   rw[K9,zBi] at f;rcases zAo.mp a with rfl | a
   . rw[qar8 r f.1];exact qaP4 r b f.1 c
   exact qp6 b c t f.2 d a
def inV(x:V)(xs:List V):Bool:=xs.any λ y=>eqV y x
def rIn(K:No)(neg:Bool):R2:=λ x y H Q=>∃ p xs,y=.ref p/\(SqL K H p xs∨SqT K H p xs)/\flatV x=true/\xs.all flatV=true/\Q (.bl (if neg then !inV x xs else inV x xs)) H
theorem qr3:OpR X (Jr .In) (rIn X.K false):=by
 intro D6 s M H x y v u Q I f i h;obtain⟨p,k,rfl,b,g,c,q⟩:=h;cases i;rcases b with b | b
 . obtain⟨a,r,d,j⟩:=I.list b
   refine SeqAt.in_listAt (eqU x) d.isList (λ w e=>qp6 f g r c w (by simpa using e)) ⟨.bl _,H,I,rfl,?_⟩;rw[show a.toArray.any (eqU x)=a.any (eqU x) by simp,qM9 r c];exact q
 obtain⟨a,r,d,j⟩:=I.tuple b;refine SeqAt.in_tupleAt (eqU x) d (λ w e=>qp6 f g r c w (by simpa using e)) ⟨.bl _,H,I,rfl,?_⟩;rw[show a.toArray.any (eqU x)=a.any (eqU x) by simp,qM9 r c];exact q
theorem qk3:OpR X (Jr .NotIn) (rIn X.K true):=by
 intro D6 s M H x y v u Q I f i h;obtain⟨p,k,rfl,b,g,c,q⟩:=h;cases i;rcases b with b | b
 . obtain⟨a,r,d,j⟩:=I.list b
   refine SeqAt.notIn_listAt (eqU x) d.isList (λ w e=>qp6 f g r c w (by simpa using e)) ⟨.bl _,H,I,rfl,?_⟩;rw[show a.toArray.any (eqU x)=a.any (eqU x) by simp,qM9 r c];exact q
 obtain⟨a,r,d,j⟩:=I.tuple b;refine SeqAt.notIn_tupleAt (eqU x) d (λ w e=>qp6 f g r c w (by simpa using e)) ⟨.bl _,H,I,rfl,?_⟩;rw[show a.toArray.any (eqU x)=a.any (eqU x) by simp,qM9 r c];exact q
theorem qS4:CallR X (.builtin "len") (λ xs H Q=>∃ p ys,xs=[.ref p]/\(SqL X.K H p ys∨SqT X.K H p ys)/\Q (.int ys.length) H):=by
 intro D6 s M H xs i Q I r h;obtain⟨p,ys,rfl,b,q⟩:=h;obtain⟨u,rfl,f⟩:=B6 r;cases f;have j:=qR4;rcases b with b | b
 . obtain⟨c,d,e,g⟩:=I.list b
   have a:=d.length;exact Calls.call_len_list e.isList (by simp only[zA3]<;>lia) ⟨.int ys.length,H,I.tok _,⟨s.toks+1,by rw[zA3,a]⟩,q⟩
 obtain⟨c,d,e,g⟩:=I.tuple b;have a:=d.length;exact len_tuple e (by simp only[zA3]<;>lia) ⟨.int ys.length,H,I.tok _,⟨s.toks+1,by rw[zA3,a]⟩,q⟩
theorem qS3:CallR X (.builtin "len") (λ xs H Q=>∃ z,xs=[.str z]/\z.length<=Jq/\Q (.int z.length) H):=by
 intro D6 s M H xs a Q I r h;obtain⟨z,rfl,b,q⟩:=h;obtain⟨u,rfl,t,rfl⟩:=B6 r;have c:=qR4;exact len_str (by lia) ⟨.int z.length,H,I.tok _,⟨_,rfl⟩,q⟩
theorem CallR.or{f:V'}{r a:List V->Hp->VK->Prop}(h:CallR X f r)(h':CallR X f a):CallR X f (λ xs H Q=>r xs H Q∨a xs H Q):=by
 intro D6 s M H xs b Q I c q;rcases q with q | q
 . exact h D6 s M H xs b Q I c q
 exact h' D6 s M H xs b Q I c q
theorem qh4:CallR X (.type "list") (λ xs H Q=>∃ p ys,xs=[.ref p]/\(SqL X.K H p ys∨SqT X.K H p ys)/\∀ l,H l=none->Q (.ref l) (upd H l (.l ys))):=by
 intro D6 s M H xs A Q I r h;obtain⟨p,ys,rfl,g,q⟩:=h;obtain⟨u,rfl,z⟩:=B6 r;cases z;have fin:∀(a:List V'),Ox ys a->ys.length<=Jq->∀(c:Heap)(d:Nat),(∀ b y,s.heap.get? b=some y->c.get? b=some y) ->
     c.get? s.heap.objs.size=some { cls:=.type "list",dict:=none,data:=.seq a.toArray d,slots:=#[] }->EP X D6 M Q (.ref s.heap.objs.size) { s with heap:=c }:=λ a f i c d j e =>
   ⟨.ref s.heap.objs.size,_,I.laid (t':=s.toks) j (zA2 _) (show ObjOk X.prog X.w _ c _ (.l ys) from⟨i,a,d,f,e⟩),rfl,q _ (I.hok.fresh (zA2 _))⟩
 rcases g with g | g
 . obtain⟨a,f,m,i⟩:=I.list g
   have k:=f.length;obtain⟨o,t,v,n,x⟩:=m.isList;exact call_list_seq p (.inl rfl) t v x (λ c d j e=>fin a f i c d j e) (by simp only[zA3]<;>lia)
 obtain⟨a,f,m,i⟩:=I.tuple g;have k:=f.length;obtain⟨o,t,v,n,x⟩:=m;exact call_list_seq p (.inr rfl) t v x (λ c d j e=>fin a f i c d j e) (by simp only[zA3]<;>lia)
def tyV(K:No)(T:String)(x:V)(H:Hp):Prop:=match x with
 | .str _=>T = "str"
 | .int _=>T = "int"
 | .ref p=>(T = "list" /\ ∃ xs,SqL K H p xs)∨(T = "tuple" /\ ∃ o,K.lookup p=some o/\o.cls=.type "tuple" /\ o.dict=none) ∨
     (T = "dict" /\ ((∃ kvs,H p=some (.dK kvs))∨∃ kvs,H p=some (.dT kvs)))∨(T = "set" /\ ∃ S n,H p=some (.set S n))
 | _=>False
theorem qaG8{D6:List (γ×Obj)}{M:St}{H:Hp}{s:δ}{T:String}{v:V'}(I:Oz X D6 M H s)(r:Ow x v)(ty:tyV X.K T x H) :
   s.TypeIs v T/\∀ a,v=.ref a->∃ ob,s.heap.get? a=some ob/\ob.dict=none:=by
 cases x with
 | str z =>
   obtain⟨t,rfl⟩:=r;cases (show T = "str" from ty);exact⟨typeIs_str s z t,λ _ e=>nomatch e⟩
 | int i =>
   obtain⟨t,rfl⟩:=r;cases (show T = "int" from ty);exact⟨typeIs_int s i t,λ _ e=>nomatch e⟩
 | ref p =>
   cases r;rcases ty with⟨rfl,xs,hq⟩ | ⟨rfl,o,hk,hc,d⟩ | ⟨rfl,hk⟩ | ⟨rfl,S,n,hk⟩
   . obtain⟨g,_,f,_⟩:=I.list hq
     refine⟨f.isList.typeIs,λ a e=>?_⟩;cases e;obtain⟨o,n,e,c,d,_⟩:=f;exact⟨o,e,d⟩
   . refine⟨⟨o,I.kIn p o hk,hc⟩,λ a e=>?_⟩
     cases e;exact⟨o,I.kIn _ o hk,d⟩
   . have z:∃ o,s.heap.get? p=some o/\o.ExactDict:=by
       rcases hk with⟨kvs,hk⟩ | ⟨kvs,hk⟩
       . obtain⟨_,_,_,_,o,_,_,e,b,_⟩:=I.hok p _ hk
         exact⟨o,e,b⟩
       obtain⟨_,_,_,_,o,_,_,e,b,_⟩:=I.hok p _ hk;exact⟨o,e,b⟩
     obtain⟨o,e,b⟩:=z;refine⟨⟨o,e,b.1⟩,λ a e2=>?_⟩;cases e2;exact⟨o,e,b.2.1⟩
   obtain⟨o,_,_,_,e,b,_⟩:=I.hok p _ hk;refine⟨⟨o,e,b.1⟩,λ a e2=>?_⟩;cases e2;exact⟨o,e,b.2.1⟩
 | _=>exact Om ty
def tBM0(K:No)(T:String)(r:V->List V->Hp->VK->Prop)(R:TE):TE:=λ M H Q=>R M H λ x H1=>tyV K T x H1/\r x [] H1 Q
def tBM(K:No)(T:String)(r:V->List V->Hp->VK->Prop)(R:TE)(t:TA):TE:=λ M H Q=>R M H λ x H1=>tyV K T x H1/\t M H1 λ xs H2=>r x xs H2 Q
variable{o e:Kj}{U:List Kj}{R:TE}{t:TA}{name:Str}{O N:Pos}{T Y:String}{r:V->List V->Hp->VK->Prop}
theorem qaT1(d:PlainAttrs T)(slot:Slot T name Y)(a:typeOf (.builtin Y)=pure (.type "method_descriptor"))(hm:MtR X Y r)(e:PE X o R)(hbase:Jw o name X.env (eval o X.env)=eval o X.env:=by rfl)(hline:(O.endLine == N.line)=true:=by rfl):PE X (.Call (.Attribute o name O) [] [] N) (tBM0 X.K T r R):=by
 intro D6 s M H Q I h;refine wpAny_Call_method0_late hbase hline (thn (e D6 s M H _ I h) λ v f b=>?_);obtain⟨x,H1,I1,c,ty,g⟩:=b;obtain⟨i,j⟩:=qaG8 I1 c ty;exact⟨T,Y,d,slot,a,i,j,Calls.callWith_builtin rfl (PySem.evalArgs_none (hm D6 f M H1 x [] v [] Q I1 c .nil g))⟩
theorem Gv(g:PlainAttrs T)(slot:Slot T name Y)(b:typeOf (.builtin Y)=pure (.type "method_descriptor"))(hm:MtR X Y r)(i:PE X o R)(j:PA X (e::U) t)(hbase:Jw o name X.env (eval o X.env)=eval o X.env:=by rfl)(a:((backTo N (Jp (e::U) X.env)).all (λ x=>!x.1)&&(backToKw N (J0 [] X.env)).all (λ x=>x.1.isSome)
     && decide ((e::U).length+([]:List Keyword).length+(if ([]:List Keyword).isEmpty then 0 else 1) < 30))=true:=by rfl)(hline:(O.endLine == N.line)=true:=by rfl)(k:Jp (e::U) X.env=(false,eval e X.env)::Jp U X.env:=by rfl)(hplain:(backTo N (Jp U X.env)).any (·.1)=false:=by rfl) :
   PE X (.Call (.Attribute o name O) (e::U) [] N) (tBM X.K T r R t):=by
 intro D6 s M H Q I h;refine wpAny_Call_method_late hbase a hline rfl (thn (i D6 s M H _ I h) λ v l c=>?_);obtain⟨x,H1,I1,d,ty,m⟩:=c;obtain⟨n,p⟩:=qaG8 I1 d ty;refine⟨T,Y,g,slot,b,n,p,?_⟩;have f:=j N D6 l M H1 _ I1 m;rw[k] at f ⊢;refine Calls.callWith_builtin (by show (false||(backTo N (Jp U X.env)).any (·.1))=false;rw[hplain]<;>rfl) (Calls.evalArgs_plain ?_);exact thn f λ q u ⟨w,H2,I2,y,q2⟩=>hm D6 u M H2 x w v q Q I2 d y q2
/- xs.append(e),list.index on a module's tuple .. are MtR facts of 06m -/
end
def MtM(X:Cx)(id:String)(r:V->List V->Hp->VK->Prop):Prop :=
 ∀(D6:List (γ×Obj))(s:δ)(a:St)(H:Hp)(x:V)(xs:List V)(v:V')(us:List V')(Q:VK),Oz X D6 a H s->Ow x v->Ox xs us->r x xs H Q ->
   Kc (Kd X.prog X.w) X.A (call (.builtin id) (v::us)) (EP X D6 a Q) X.xe s
theorem Ox.one(h:Ox [x] us):∃ u,us=[u]/\Ow x u:=by
 cases h with
 | cons r t=>cases t;exact⟨_,rfl,r⟩
theorem Ox.two{y:V}(h:Ox [x,y] us):∃ u v,us=[u,v]/\Ow x u/\Ow y v:=by
 cases h with
 | cons r t =>
   cases t with
   | cons q t=>cases t;exact⟨_,_,rfl,r,q⟩
theorem Ox.zero:∀{us:List V'},Ox [] us->us=[]
 | _,.nil=>rfl
theorem Ox.dropLast{xs:List V}(h:Ox xs us):Ox xs.dropLast us.dropLast:=by
 induction h with
 | nil=>exact .nil
 | cons r t a =>
   cases t with
   | nil=>exact .nil
   | cons q b=>exact .cons r a
theorem Ox.eraseIdx:∀{xs:List V}{us:List V'}(i:Nat),Ox xs us->Ox (xs.eraseIdx i) (us.eraseIdx i)
 | _,_,_,.nil=>.nil
 | _,_,0,.cons _ t=>t
 | _,_,i+1,.cons r t=>.cons r (Ox.eraseIdx i t)
theorem Ox.rep{xs:List V}{us:List V'}(h:Ox xs us):∀ k:Nat,Ox (Ky k xs).flatten (Ky k us).flatten
 | 0=>.nil
 | k+1=>by
   rw[zBs,zBs,zCb,zCb];exact Ox.append h (Ox.rep h k)
theorem qak2(l:List α):l.eraseIdx (l.length - 1)=l.dropLast:=by
 induction l with
 | nil=>rfl
 | cons a r c =>
   cases r with
   | nil=>rfl
   | cons b r =>
     have e:(a::b::r).length - 1=((b::r).length - 1)+1:=by
       have d:(a::b::r).length=r.length+2:=rfl;have f:(b::r).length=r.length+1:=rfl;lia
     rw[e,List.eraseIdx_cons_succ,c]
     all_goals rfl
theorem qU5{α:Type}:∀(l:List α)(i:Nat),(l.eraseIdx i).length<=l.length
 | [],_=>zA2 _
 | _::_,0=>Nat.le_succ _
 | _::r,i+1=>zC2 (qU5 r i)
theorem qW1(its:List V'):∀(k:Nat)(acc:List V'),
   Lq (λ a b=>a++b) acc.toArray (Ky k its.toArray)=(acc++(Ky k its).flatten).toArray
 | 0,acc=>by simp
 | k+1,acc=>by
   have e:acc.toArray++its.toArray=(acc++its).toArray:=by simp
   have e2:(acc++its)++(Ky k its).flatten=acc++(Ky (k+1) its).flatten:=by
     rw[zBs,zCb,zAq]
   rw[<- e2,<- qW1 its k (acc++its),<- e,zBs,Mw]
section
variable{X:Cx}{k:List (γ×Obj)}{j:St}{H:Hp}{s:δ}{l:γ}{xs ys:List V}
theorem Oz.lset{its':List V'}{f:Array V'->Array V'}{t':Nat}(I:Oz X k j H s)(a:H l=some (.l xs))(e:s.heap.get? l=some { cls:=.type "list",data:=.seq its.toArray n })(b:f its.toArray=its'.toArray)(c:Ox ys its')(d:ys.length<=Jq) :
   Oz X k j (upd H l (.l ys)) { s with heap:=s.heap.update l (Obj.mapSeq f),toks:=t' }:=by
 have q:=PySem.IsL.update e f;rw[b] at q;refine I.write (x:=l) (e:=l) (by rw[a];exact trivial) (.inl rfl) (λ i u g h=>(zBj s.heap (Obj.mapSeq f) (Ne.symm g)).trans h) ⟨_,q⟩ ?_;exact⟨d,its',_,c,q⟩
theorem Oz.lnew{t':Nat}(I:Oz X k j H s)(a:Ox ys its)(b:ys.length<=Jq) :
   Oz X k j (upd H s.heap.objs.size (.l ys)) { s with heap:=s.heap.push { cls:=.type "list",data:=.seq its.toArray },toks:=t' } :=
 I.laid (λ _ _ q=>zA5 _ q) (zA2 _) ⟨b,its,0,a,zB1 _ rfl⟩
theorem Oz.fresh(I:Oz X k j H s):H s.heap.objs.size=none:=I.hok.fresh (zA2 _)
theorem Oz.lstM(I:Oz X k j H s)(a:H l=some (.l xs)):xs.length<=Jq/\∃(its:List V')(n:Nat),Ox xs its/\xs.length=its.length/\s.heap.get? l=some { cls:=.type "list",data:=.seq its.toArray n }:=by
 obtain⟨z,its,n,r,e⟩:=I.hok l _ a;exact⟨z,its,n,r,r.length,e⟩
theorem qaC5(h:n<=Jq):Builtin.List.listTooLong n=false:=by
 unfold Builtin.List.listTooLong;exact zBe (by lia)
end
section
variable{X:Cx}
def qau8:V->List V->Hp->VK->Prop:=λ x vs H Q=>∃ l xs y,x=.ref l/\vs=[y]/\H l=some (.l xs)/\xs.length < Jq/\Q .non (upd H l (.l (xs++[y])))
theorem qc0:MtM X "list.append" qau8:=by
 intro D6 s L H x g v i Q I c d h;obtain⟨l,j,y,rfl,rfl,b,k,q⟩:=h;cases c;obtain⟨u,rfl,f⟩:=d.one;obtain⟨z,a,n,r,m,e⟩:=I.lstM b;refine J' Nr ⟨_,e,rfl⟩ F.entry_list_append (F.args_list_append_2 _ _) (PySem.list_append l a.toArray n u (by rw[zA3];lia)) ⟨e,?_⟩;refine⟨.non,_,I.lset (its':=a++[u]) b e (by simp) (r.append (.cons f .nil)) ?_,rfl,q⟩;rw[zA6,Ll];lia
def rPop:V->List V->Hp->VK->Prop:=λ x vs H Q=>∃ l xs y,x=.ref l/\vs=[]/\H l=some (.l xs)/\xs[xs.length - 1]? = some y/\Q y (upd H l (.l xs.dropLast))
theorem qaU8:MtM X "list.pop" rPop:=by
 intro D6 s L H x o v p Q I f g h;obtain⟨l,t,y,rfl,rfl,d,i,q⟩:=h;cases f;have b:=g.zero;subst b;obtain⟨z,a,n,r,j,e⟩:=I.lstM d;obtain⟨u,k,m⟩:=r.get i;have c:a.toArray[a.toArray.size - 1]? = some u:=by
   show a.toArray[a.length - 1]? = some u;rw[<- Array.getElem?_toList,<- j];exact k
 refine J' Nw ⟨_,e,rfl⟩ N9 (F.args_list_pop_1 _) (MeetsSeq.list_pop_last l a.toArray n u c (by rw[zA3];lia)) ⟨e,?_⟩;refine⟨y,_,I.lset (its':=a.dropLast) d e ?_ r.dropLast ?_,m,q⟩
 . show a.toArray.eraseIdxIfInBounds (a.toArray.size - 1)=a.dropLast.toArray
   rw[zA3,Ln,qak2]
 rw[List.length_dropLast];lia
def qaI4:V->List V->Hp->VK->Prop:=λ x vs H Q=>∃ l xs i k y,x=.ref l/\vs=[.int i]/\H l=some (.l xs)/\-(2 ^ 63)<=i/\i < 2 ^ 63/\seqIndex? i xs.length=some k/\xs[k]? = some y/\Q y (upd H l (.l (xs.eraseIdx k)))
theorem qag4:MtM X "list.pop" qaI4:=by
 intro D6 s L H x D v E Q I d f h;obtain⟨l,g,i,k,y,rfl,rfl,c,j,m,o,p,q⟩:=h;cases d;obtain⟨u,rfl,A⟩:=f.one;obtain⟨t,rfl⟩:=A;obtain⟨z,a,n,r,B,e⟩:=I.lstM c;obtain⟨w,C,b⟩:=r.get p;refine J' Nw ⟨_,e,rfl⟩ N9 (F.args_list_pop_2 _ _)
   (MeetsSeq.list_pop_at l a.toArray n i t k w (fitsIndex_both j m) (by rw[zA3,<- B];exact o) (by rw[<- Array.getElem?_toList];exact C) (by rw[zA3];lia)) ⟨e,?_⟩
 refine⟨y,_,I.lset (its':=a.eraseIdx k) c e ?_ (r.eraseIdx k) ?_,b,q⟩
 . show a.toArray.eraseIdxIfInBounds k=(a.eraseIdx k).toArray
   rw[Ln]
 have:=qU5 g k
 lia
def rCat:R2:=λ x y H Q=>∃ l b xs a,x=.ref l/\y=.ref b/\H l=some (.l xs)/\H b=some (.l a)/\xs.length+a.length<=Jq/\∀ p,H p=none->Q (.ref p) (upd H p (.l (xs++a)))
theorem qaU3:OpR X (Kb .Add) rCat:=by
 intro D6 s L H x y v u Q I c d h;obtain⟨l,b,m,o,rfl,rfl,f,g,p,q⟩:=h;cases c;cases d;obtain⟨z,a,n,r,t,e⟩:=I.lstM f;obtain⟨w,its2,A,i,j,e2⟩:=I.lstM g;refine PySem.P.add_list e e2 ?_ (by rw[zA3,zA3];lia);have k:a.toArray++its2.toArray=(a++its2).toArray:=by simp
 rw[k];exact⟨.ref _,_,I.lnew (t':=s.toks) (r.append i) (by rw[zA6];lia),rfl,q _ I.fresh⟩
def rRep:R2:=λ x y H Q=>∃ l k xs,x=.ref l/\y=.int k/\H l=some (.l xs)/\-(2 ^ 63)<=k/\k < 2 ^ 63/\xs.length * k.toNat<=Jq /\
 ∀ p,H p=none->Q (.ref p) (upd H p (.l (Ky k.toNat xs).flatten))
theorem qaM7(xs:List α)(k:Nat):(Ky k xs).flatten.length=k * xs.length:=by
 induction k with
 | zero=>simp
 | succ k a=>rw[zBs,zCb,zA6,a,Nat.succ_mul,Nat.add_comm]
theorem qaT5:OpR X (Kb .Mult) rRep:=by
 intro D6 s L H x y v u Q I p w h;obtain⟨l,k,J,rfl,rfl,A,B,C,o,q⟩:=h;cases p;obtain⟨t,rfl⟩:=w;obtain⟨z,b,n,r,D,e⟩:=I.lstM A;have c:b.toArray.size * k.toNat<=Jq:=by rw[zA3,<- D];exact o
 have d:¬ b.toArray.size * k.toNat > (2 ^ 63 - 1) / 8:=by
   have:(Jq:Nat)<=(2 ^ 63 - 1) / 8:=by decide
   lia
 have f:¬ (!Builtin.List.listFitsIndex k)=true:=by
   rw[fitsIndex_both B C];exact zAm
 have hlong:¬ Builtin.List.listTooLong (b.toArray.size * k.toNat)=true:=by
   rw[qaC5 c];exact zAm
 have g:Lq (λ i j=>i++j) #[] (Ky (if b.toArray.isEmpty=true then 0 else k.toNat) b.toArray)=(Ky k.toNat b).flatten.toArray:=by
   have E:∀ m:Nat,Lq (λ i j=>i++j) #[] (Ky m b.toArray)=(Ky m b).flatten.toArray:=λ m=>by
     have:=qW1 b m []
     rw[zB5] at this;exact this
   rw[E];cases b with
   | nil=>simp
   | cons a K=>rw[if_neg (by simp)]
 refine wpAny_binaryOp_repeat_ref (T := "list") (U := "int") (by decide) ⟨_,e,rfl⟩ (λ G=>typeIs_int G k t) noFill_list_mul F.fills_int_mul Of repeat_list F.slot_int_index.lookup
   (J' Of (typeIs_int s k t) F.entry_int_rmul (F.args_int_rmul_2 _ _) (int___rmul___int_list k t l b.toArray n)
     ⟨e,rfl,⟨_,e,rfl⟩,J' F.slot_list_mul ⟨_,e,rfl⟩ F.entry_list_mul (F.args_list_mul_2 _ _) (AutoListH.list___mul___list_int_3 l b.toArray n k t f d hlong) ⟨e,?_⟩⟩)
 rw[g];exact⟨.ref _,_,I.lnew (t':=s.toks) (r.rep k.toNat) (by rw[qaM7,Nat.mul_comm];exact o),rfl,q _ I.fresh⟩
end
section
variable{f:Type}[DecidableEq f]
noncomputable def Eo(kvs:List (f×V))(k:f):Option V:=(kvs.find? λ a=>decide (a.1=k)).map (·.2)
noncomputable def putK(kvs:List (f×V))(k:f)(v:V):List (f×V) :=
 if (kvs.any λ a=>decide (a.1=k))=true then kvs.map (λ a=>if a.1=k then (a.1,v) else a) else kvs++[(k,v)]
theorem qN5{p:f×V}{r:List (f×V)}{k:f}(e:p.1=k):Eo (p::r) k=some p.2:=by simp[Eo,zBy,e]
theorem qN6{p:f×V}{r:List (f×V)}{k:f}(e:¬ p.1=k):Eo (p::r) k=Eo r k:=by simp[Eo,zBy,e]
theorem qaa6(kvs:List (f×V))(k:f)(v:V):(putK kvs k v).length<=kvs.length+1:=by
 unfold putK;split
 . rw[zAg];lia
 rw[zA6,zAk,Lc];lia
theorem RelO.getD{o:Option V}{u:Option V'}{d:V}{d':V'}(r:RelO o u)(a:Ow d d'):Ow (o.getD d) (u.getD d'):=by
 cases o with
 | none=>cases u with
   | none=>exact a
   | some _=>exact(show False from r).elim
 | some _=>cases u with
   | none=>exact(show False from r).elim
   | some _=>exact r
theorem KV.val{kvs:List (f×V)}{vs:List (f×V')}(r:KV kvs vs)(k:f):RelO (Eo kvs k) (valueAt vs k):=by
 unfold KV at r
 induction r with
 | nil=>exact True.intro
 | @cons p q ps qs h t ih =>
   obtain⟨c,d⟩:=h;by_cases e:p.1=k
   . have a:q.1=k:=c.symm.trans e
     have b:valueAt (q::qs) k=some q.2:=by simp[valueAt,zBy,a]
     rw[qN5 e,b];exact d
   have a:¬ q.1=k:=λ z=>e (c.trans z)
   have b:valueAt (q::qs) k=valueAt qs k:=by simp[valueAt,zBy,a]
   rw[qN6 e,b];exact ih
theorem KV.any{kvs:List (f×V)}{vs:List (f×V')}(r:KV kvs vs)(k:f):(kvs.any λ a=>decide (a.1=k))=vs.any λ a=>decide (a.1=k):=by
 unfold KV at r
 induction r with
 | nil=>rfl
 | cons h t b=>rw[zCd,zCd,b,h.1]
theorem KV.repl{kvs:List (f×V)}{vs:List (f×V')}(r:KV kvs vs)(k:f){y:V}{u:V'}(c:Ow y u) :
   KV (kvs.map λ a=>if a.1=k then (a.1,y) else a) (vs.map λ a=>if a.1=k then (a.1,u) else a):=by
 unfold KV at r ⊢
 induction r with
 | nil=>exact .nil
 | @cons p q ps qs h t ih =>
   rw[zAy,zAy];refine .cons ?_ ih;obtain⟨b,d⟩:=h;by_cases e:p.1=k
   . rw[if_pos e,if_pos (b.symm.trans e)];exact⟨b,c⟩
   rw[if_neg e,if_neg (λ z=>e (b.trans z))];exact⟨b,d⟩
theorem KV.put{kvs:List (f×V)}{vs:List (f×V')}(r:KV kvs vs)(k:f){y:V}{u:V'}(a:Ow y u):KV (putK kvs k y) (stored vs k u):=by
 unfold putK stored;rw[r.any k];by_cases e:(vs.any λ b=>decide (b.1=k))=true
 . rw[if_pos e,if_pos e];exact r.repl k a
 rw[if_neg e,if_neg e];exact Paired.snoc r ⟨rfl,a⟩
theorem KV.length{kvs:List (f×V)}{vs:List (f×V')}(r:KV kvs vs):kvs.length=vs.length:=Paired.length r
end
theorem Ia{P:Ke}{w:Ki}{k:Key}{u:V'}(r:Ow (kV k) u):(qg2 P w).is k u=true:=by
 cases k with
 | inl i=>obtain⟨t,e⟩:=(show ∃ t,u=Nb i t from r);subst e;exact qaa5 P w i t
 | inr x=>obtain⟨t,e⟩:=(show ∃ t,u=Nd x t from r);subst e;exact qaa4 P w x t
theorem qV0{P:Ke}{w:Ki}:∀{ks:List Key}{us:List V'},Ox (ks.map kV) us->ItemsAre (qg2 P w) ks us
 | [],_,r=>by rw[Ml] at r;cases r;exact .nil
 | k::ks,_,r=>by
   rw[zAy] at r;cases r with
   | cons h t=>exact .cons (Ia h) (qV0 t)
abbrev KT(H:Hp):List (List Key×V)->List (List Key×γ×V')->Prop:=Paired λ p q=>p.1=q.1/\H q.2.1=some (.q (p.1.map kV))/\Ow p.2 q.2.2
theorem KT.val{H:Hp}{kvs:List (List Key×V)}{xs:List (List Key×γ×V')}(r:KT H kvs xs)(k:List Key):RelO (Eo kvs k) ((atKey xs k).map (·.2)):=by
 induction r with
 | nil=>exact True.intro
 | @cons p q ps qs h t ih =>
   obtain⟨c,_,d⟩:=h;by_cases e:p.1=k
   . have a:q.1=k:=c.symm.trans e
     have b:atKey (q::qs) k=some q.2:=by simp[atKey,zBy,a]
     rw[qN5 e,b];exact d
   have a:¬ q.1=k:=λ z=>e (c.trans z)
   have b:atKey (q::qs) k=atKey qs k:=by simp[atKey,zBy,a]
   rw[qN6 e,b];exact ih
section
variable{P:Ke}{w:Ki}{H:Hp}{h:Heap}{a:γ}
theorem rd_of{u:HO}(b:HOk P w H h)(e:Rd H a u):ObjOk P w H h a u:=e.ok b
theorem Ib{kvs:List (Key×V)}(b:HOk P w H h)(e:Rd H a (.dK kvs)):kvs.length<=Jq/\(a == Jz)=false/\∃ vs,KV kvs vs/\h.DictOf (qg2 P w) a vs :=
 show ObjOk P w H h a (.dK kvs) from rd_of b e
theorem qaN3{ks:List Key}(c:HOk P w H h)(e:H a=some (.q (ks.map kV))):(tupleKind (qg2 P w)).is h ks a:=by
 obtain⟨_,b,r,o,d,f,n,g⟩:=(show ObjOk P w H h a (.q (ks.map kV)) from c a _ e)
 exact⟨o,b.toArray,n,d,f,g,by simpa using qV0 r⟩
theorem dt_rd{kvs:List (List Key×V)}(c:HOk P w H h)(e:Rd H a (.dT kvs)):kvs.length<=Jq/\(a == Jz)=false /\
   ∃ xs,KT H kvs xs/\h.DictOfH (tupleKind (qg2 P w)) a xs:=by
 obtain⟨z,y,xs,r,o,d,f,g,i,j,k,n⟩:=(show ObjOk P w H h a (.dT kvs) from rd_of c e)
 refine⟨z,y,xs,r,o,d,f,g,i,j,k,λ x b=>?_,n⟩;have all:∀{l:List (List Key×V)}{m:List (List Key×γ×V')},KT H l m->∀ x∈m,(tupleKind (qg2 P w)).is h x.1 x.2.1:=by
   intro l m q
   induction q with
   | nil=>intro x b;exact nomatch b
   | @cons p q ps qs hq t ih =>
     intro x b;rcases zAo.mp b with e | b
     . subst e
       exact qaN3 c (by rw[<- hq.1];exact hq.2.1)
     exact ih x b
 exact all r x b
end
def DGet(H:Hp)(a:γ)(y:V)(r:Option V):Prop :=
 (∃ kvs k,Rd H a (.dK kvs)/\y=kV k/\r=Eo kvs k)∨∃ kvs k b,Rd H a (.dT kvs)/\y=.ref b/\H b=some (.q (k.map kV))/\r=Eo kvs k
section
variable{X:Cx}{b:List (γ×Obj)}{a:St}{H:Hp}{s:δ}
theorem Oz.big(I:Oz X b a H s):Jz < s.heap.objs.size:=by
 have h:Jy < s.heap.objs.size:=(I.mod.glob.keeps I.bk).lt;exact Nat.lt_trans (by decide) h
end
section
variable{X:Cx}{i:List (γ×Obj)}{f:St}{H:Hp}{s:δ}{a:γ}{g:List (Key×V)}{A:Kf}{E:V'->δ->Prop}
theorem d_len{Q:V'->δ->Prop}(I:Oz X i f H s)(e:Rd H a (.dK g))(h:∀ t s',Oz X i f H s'->Q (.int g.length t) s'):Kc (Kd X.prog X.w) A (call (.builtin "len") [.ref a]) Q E s:=by
 obtain⟨z,b,d,rel,c⟩:=Ib I.hok e;refine call_len_dict b c (by rw[<- rel.length];rw[Jx] at z;lia) ?_;rw[<- rel.length];exact h _ _ (I.tok _)
end
def qC1(kvs more:List (Key×V)):List (Key×V):=more.foldl (λ acc a=>putK acc a.1 a.2) kvs
theorem qu7:∀(more kvs:List (Key×V)),(qC1 kvs more).length<=kvs.length+more.length
 | [],kvs=>by show kvs.length<=kvs.length+0;lia
 | p::r,kvs=>by
   have a:=qu7 r (putK kvs p.1 p.2);have b:=qaa6 kvs p.1 p.2;show (qC1 (putK kvs p.1 p.2) r).length<=_;rw[zAk];lia
structure M2(X:Cx)(o:Kj)(m:Str)(apos:Pos)(e f:Kj)(cpos:Pos):Prop where
 base:Jw o m X.env (eval o X.env)=eval o X.env
 few:((backTo cpos (Jp [e,f] X.env)).all (λ x=>!x.1)&&(backToKw cpos (J0 [] X.env)).all (λ x=>x.1.isSome)
   && decide (([e,f]:List Kj).length+([]:List Keyword).length+(if ([]:List Keyword).isEmpty then 0 else 1) < 30))=true
 line:(apos.endLine == cpos.line)=true
 trees:backTo cpos (Jp [e,f] X.env)=[(false,eval e X.env),(false,eval f X.env)]
def IsD(H:Hp)(a:γ):Prop:=(∃ kvs,Rd H a (.dK kvs))∨∃ kvs,Rd H a (.dT kvs)
theorem qaW3{X:Cx}{D6:List (γ×Obj)}{k:St}{H:Hp}{s:δ}{a:γ}(I:Oz X D6 k H s)(d:IsD H a) :
   s.TypeIs (.ref a) "dict" /\ (∀ b,M' a=.ref b->∃ ob,s.heap.get? b=some ob/\ob.dict=none)/\(a == Jz)=false:=by
 rcases d with⟨kvs,e⟩ | ⟨kvs,e⟩
 . obtain⟨_,f,i,_,c⟩:=Ib I.hok e
   refine⟨c.typeIs,λ b q=>?_,f⟩;cases q;obtain⟨ob,_,_,g,h,_⟩:=c;exact⟨ob,g,h.2.1⟩
 obtain⟨_,f,j,_,c⟩:=dt_rd I.hok e;refine⟨c.typeIs,λ b q=>?_,f⟩;cases q;obtain⟨ob,_,_,g,h,_⟩:=c;exact⟨ob,g,h.2.1⟩
section
variable{X:Cx}{v:List (γ×Obj)}{t:St}{H:Hp}{s:δ}{a:γ}{y d:V}{u r:V'}{o:Option V}{A:Kf}{E:V'->δ->Prop}
theorem qaY3{Q:V'->δ->Prop}(n:A.units+1 < cLine)(I:Oz X v t H s)(g:DGet H a y o)(i:Ow y u)(j:Ow d r)(h:∀ m s',Oz X v t H s'->Ow (o.getD d) m->Q m s') :
   Kc (Kd X.prog X.w) A (call (.builtin "dict.get") [.ref a,u,r]) Q E s:=by
 rcases g with⟨kvs,k,e,ey,l⟩ | ⟨kvs,k,b,e,ey,eb,l⟩
 . subst ey
   obtain⟨z,f,q,rel,c⟩:=Ib I.hok e;refine call_meetsIn N1 c.typeIs Oa (N8 _ _ _) (meets_dict_get_default (qg2 X.prog X.w) a (Ia i) f r) ⟨_,c.mapOf,h _ _ (I.tok _) ?_⟩;rw[l];exact(rel.val k).getD j
 subst ey;cases (show u=M' b from i);obtain⟨z,f,p,rel,c⟩:=dt_rd I.hok e;refine call_meetsIn N1 c.typeIs Oa (N8 _ _ _) (meetsH_dict_get_default (tupleKind (qg2 X.prog X.w)) a b f r) ⟨tupleKind_room_in1 n,k,p,qaN3 I.hok eb,c,h _ _ (I.tok _) ?_⟩;rw[l];exact(rel.val k).getD j
end
def qaR9(td ty tx:TE):TE:=λ b H Q=>td b H λ x H1=>∃ a,x=.ref a/\IsD H1 a/\ty b H1 λ y H2=>tx b H2 λ z H3=>∃ o,DGet H3 a y o/\Q (o.getD z) H3
section
variable{X:Cx}{o e f:Kj}{N O:Pos}{T S R:TE}
theorem qaB3(i:X.A.units+1 < cLine)(j:PE X o T)(k:PE X e S)(l:PE X f R)(m:M2 X o "get" N e f O):PE X (.Call (.Attribute o "get" N) [e,f] [] O) (qaR9 T S R):=by
 intro D6 s L H Q I h;refine wpAny_Call_method m.base m.few m.line F.plainAttrs_dict N1 F.type_dict_get (thn (j D6 s L H _ I h) λ u n b=>?_);obtain⟨x,H1,I1,p,a,q,d,r⟩:=b;subst q;obtain rfl:u=M' a:=p;obtain⟨t1,t2,_⟩:=qaW3 I1 d;refine⟨t1,t2,?_⟩;rw[m.trees];refine Calls.callWith_builtin rfl (Calls.evalArgs_plain (Calls.spliced_cons (thn (k D6 n L H1 _ I1 r) λ C t ⟨y,H2,I2,v,q2⟩ =>
   Calls.spliced_cons (thn (l D6 t L H2 _ I2 q2) λ D E ⟨z,H3,I3,w,G,g,B⟩=>Calls.spliced_nil ?_))))
 exact qaY3 i I3 g v w λ J K I4 c=>⟨_,H3,I4,c,B⟩
end
end L2
namespace Att
open PySem PySem.W PySem.Calls PyProof.Rows
theorem qC4{P:Params}{h:Heap}:∀(ns:List Int)(vs:List V'),WellAll P h vs (ns.map WData.int)->IntsAre vs ns:=by
 intro ns
 induction ns with
 | nil =>
   intro vs w;rw[Ml] at w;cases w;exact .nil
 | cons n ns c =>
   intro vs w;rw[zAy] at w;cases w with
   | cons a b =>
     cases a;exact .cons _ _ (c _ b)
theorem qao1{l:OpenLaw}{n:Nat}(m:l.most=some n){P:Params}{h:Heap}{args:List WData}{vals:List V'}(b:l.row.toRowW.claim.pre args=true)(i:WellAll P h vals args) :
   ∃ a vs ns,vals=[M' a]/\args=[WData.list (ns.map WData.int)]/\h.get? a=some { cls:=.type "list",data:=.seq vs.toArray }/\IntsAre vs ns/\ns.length<=n:=by
 have j:WShape.hasAll [] args [.list .int]=true:=(pre_splitW b).1;have k:l.pre.holds [] { args:=args }=true:=(pre_splitW b).2;obtain⟨d,r,rfl,o,p⟩:=hasAllW_cons j;obtain rfl:=hasAllW_nil p;obtain⟨x,rfl,s⟩:=hasW_list o;obtain⟨ns,rfl⟩:=items_int s;have c:ns.length<=n:=by
   unfold OpenLaw.pre at k;have f:(WTm.not (.lt (.lit (.int (n:Int))) (.len (.arg 0)))).holds [] { args:=[.list (ns.map .int)] }=true:=by
     have f:=(holds_andW k).1;rw[m] at f;exact f
   have g:=condW_of f (w_not (w_lt w_lit (w_len_list (w_arg rfl))));rw[zAg] at g;refine zC3 λ q=>?_
   have t:(n:Int) < ((ns.length:Nat):Int):=by lia
   first
     | (rw[zAl t] at g;exact absurd g (by decide))
     | (simp at g;lia)
 cases i with
 | cons u v =>
   cases v;cases u with
   | list w e=>exact⟨_,_,ns,rfl,rfl,w,qC4 ns _ e,c⟩
theorem qao6(l:OpenLaw)(args:List WData):l.row.toRowW.claim.post args (.bool true) args=true :=
 postW_of (r:=l.row.toRowW) (X:=(true == true))
   (show WShape.has [] (.bool true) .bool=true by first | rfl | decide | simp[WShape.has,WShape.arms,WShape.armsAll])
   (show (WTm.eq .res (.lit (.bool true))).value [] { args:=args,res:=some (.bool true),after:=args }=some (.bool (true == true)) from w_eq_bool (w_res rfl) w_lit) rfl
theorem qab3{l:OpenLaw}{n:Nat}{q:Ke}{loose:List Str}{XP:(Str->Option V')->Heap->Prop}{YP:Ki->Heap->Prop}{d:DefRec}(u:l.most=some n)(h:d.params.defaults=[])(call:∀(w:Ki)(s₀ s₁:δ)(mg i:Str->Option V')(fa:γ)(o:Obj)(j cd b:V')(a:γ)(vs:List V')(ns:List Int),
     Ground q loose [] XP w s₀ mg i s₁.heap->YP w s₁.heap ->
     s₁.heap.get? fa=some o->o.data=.func (docDef d.name d.params d.body d.scope j cd b)->s₁.heap.CodeRec cd d.name->mg d.name=some (.ref fa) ->
     s₁.heap.get? a=some { cls:=.type "list",data:=.seq vs.toArray }->IntsAre vs ns->ns.length<=n->s₁.gens = #[] ->
     codeAny (Kd l.prog w) callerA (.call (.ref fa) ⟨[.ref a],[]⟩) (λ r s'=>r=.ok (.ret (.bool true))/\OldK s₁.heap s'.heap/\s'.os=s₁.os/\AllBare s'.gens) s₁) :
   WalkO q loose XP YP l.row.toRowW d [] (λ f vs=>PySem.call f vs):=by
 intro w s₀ s₁ mg i G Y fa o j cd b v kV x y k s m z args vals I c t A p B;obtain rfl:v=.none:=Dflts.none s h;obtain rfl:kV=.none:=Dflts.noKw s;obtain⟨a,vs,ns,rfl,rfl,e,hints,g⟩:=qao1 u c p;refine enter_call (codeAny_mono (call w s₀ s₁ mg i fa o j cd b a vs ns G Y x (fd_plain y) k m e hints g z) λ r s' C=>?_);obtain⟨rfl,D,E,F⟩:=C;exact⟨.inl ⟨.bool true,.bool true,[],rfl,λ _=>rfl,.bool true,qao6 l _,λ _=>⟨List.Pairwise.nil,λ _ H=>(nomatch H)⟩⟩,D,E,F⟩
end Att
namespace L2
open PySem PySem.Spec PyProof.Rows
theorem qS7:∀{vs:List V'}{ns:List Int},IntsAre vs ns->Ox (ns.map V.int) vs
 | _,_,.nil=>.nil
 | _,_,.cons n t h=>.cons ⟨t,rfl⟩ (qS7 h)
def Only(H:Hp):Prop:=∀ b,H b=none∨∃ o xs,H b=some (.frz o (.l xs))
theorem qaD5{P:Ke}{w:Ki}{K:No}{mg C:Str->Option V'}{CX:CXT}{k:Nat}{fa a:γ}{fd:ε}{x:Str}{sp:Sp}{s₁:δ}{vs:List V'}{ns:List Int}(KX:K.In s₁.heap)(g:s₁.heap.Ns Jy mg)(c:s₁.heap.Ns builtinsNs C)(D:∀ x:Str,x ≠ "__name__" -> C x=Ju x)(i:s₁.heap.NoLimit)(T:s₁.gens = #[])(B:s₁.heap.get? a=some { cls:=.type "list",data:=.seq vs.toArray })(hi:IntsAre vs ns)(M:ns.length<=Jq)(U:Room k callerA)(F:∀ base:Heap,K.In base->base.Ns Jy mg->Dw P w K mg base CX k fa fd [x] sp)(hbind:∀(s:δ)(u:V'),BindsTo s fd ⟨[u],[]⟩ [(x,u)])(E:∀ H:Hp,Only H->SqL K H a (ns.map V.int)->sp [.ref a] H (λ v _=>v=.bl true) λ _ _ _=>False)(G:∀ H e s',CX [] H s₁ (λ _ _ _=>False) e s'->False) :
   codeAny (Kd P w) callerA (.call (.ref fa) ⟨[.ref a],[]⟩) (λ r s'=>r=.ok (.ret (.bool true))/\OldK s₁.heap s'.heap/\s'.os=s₁.os/\AllBare s'.gens) s₁:=by
 have N:=qS7 hi;have lenV:=hi.length;have core:∀ H:Hp,Only H->SqL K H a (ns.map V.int)->HOk P w H s₁.heap->(∀ b,H b≠none->b=a)->(H a≠none->K.lookup a=none) ->
     codeAny (Kd P w) callerA (.call (.ref fa) ⟨[.ref a],[]⟩) (λ r s'=>r=.ok (.ret (.bool true))/\OldK s₁.heap s'.heap/\s'.os=s₁.os/\AllBare s'.gens) s₁:=by
   intro H O X j Q Y;have base_of:∀{b:γ}{o:Obj},s₁.heap.get? b=some o->H b=none->(Fs s₁.heap H).get? b=some o:=λ e n=>qaE1 e n
   have I:∀{b:γ}{o:Obj}{l:Array DictEntry}{p:Nat},s₁.heap.get? b=some o->o.data=.dict l p->H b=none:=λ{b o l p} e d=>by
     cases q:H b with
     | none=>rfl
     | some u =>
       have J:b=a:=Q b (by rw[q];simp);subst J;rw[B] at e;cases e;have Z:Data.seq vs.toArray _=Data.dict l p:=d;cases Z
   have f:∀{b:γ}{m:Str->Option V'},s₁.heap.Ns b m->(Fs s₁.heap H).Ns b m:=λ{b m} ⟨o,l,p,e,d,r⟩=>⟨o,l,p,base_of e (I e d),d,r⟩
   have t:K.In (Fs s₁.heap H):=λ b o e=>base_of (KX b o e) (by
     cases q:H b with
     | none=>rfl
     | some u =>
       have J:b=a:=Q b (by rw[q];simp);subst J;rw[Y (by rw[q];simp)] at e;cases e)
   have hM:Mod K mg (Fs s₁.heap H):=⟨t,f g,⟨C,f c,D⟩,let ⟨mc,h1,h2⟩:=i;⟨mc,f h1,h2⟩⟩
   have e0:Env0 P w K mg (Fs s₁.heap H) callerA [] s₁ H:=⟨rfl,hM,λ b o e=>qaL5 e,zCh (qaq9 _ _),trivial,λ b c=>absurd (show b∈([]:List γ) from c) (by simp),j,.of_eq T⟩
   refine codeAny_mono ((F _ t (f g)).run callerA [] s₁ H ⟨[.ref a],[]⟩ [.ref a] [.ref a] _ _ U e0 (hbind s₁ (.ref a)) (.cons rfl .nil) (E H O X)) λ r s' h=>?_
   cases r with
   | error e=>exact(G H e s' h).elim
   | ok fl =>
     cases fl with
     | next=>exact Om h
     | brk=>exact Om h
     | cont=>exact Om h
     | ret u =>
       obtain⟨v,H',os,bare,R,y,r',q⟩:=h;have q':v=.bl true:=q;subst q';obtain rfl:u=Nc true:=r';refine⟨rfl,OldK.of_keep λ b o e=>?_,os,bare⟩;cases q:H b with
       | none=>exact R.keep b o e q (by intro z;exact absurd (show b∈([]:List γ) from z) (by simp)) (by simp)
       | some u =>
         rcases O b with z | ⟨ob,xs,z⟩
         . rw[q] at z;cases z
         have z2:=R.frzs b ob _ z;obtain⟨S,_⟩:=j b _ z;obtain⟨e2,_⟩:=y b _ z2;rw[e] at S;cases S;exact e2
 cases L:K.lookup a with
 | some o =>
   have e:=KX a o L;rw[B] at e;cases e;refine core (λ _=>none) (λ _=>.inl rfl) (.inr ⟨_,vs.toArray,_,L,rfl,rfl,rfl,by rw[zA3,lenV];exact M,by simpa using N⟩) (λ b u z=>by have A:(none:Option HO)=some u:=z;cases A) (λ b z=>absurd rfl z) λ z=>absurd rfl z
 | none =>
   refine core (λ b=>if b=a then some (.frz { cls:=.type "list",data:=.seq vs.toArray } (.l (ns.map V.int))) else none) (λ b=>?_) (.inl (.inr ⟨{ cls:=.type "list",data:=.seq vs.toArray },if_pos rfl⟩)) (λ b u z=>?_) (λ b z=>?_) λ _=>L
   . by_cases c:b=a
     . exact .inr ⟨_,_,if_pos c⟩
     exact .inl (if_neg c)
   . by_cases c:b=a
     . have A:=(if_pos c).symm.trans z
       cases A;subst c;exact⟨B,by rw[zAg];exact M,vs,_,N,B⟩
     have A:=(if_neg c).symm.trans z;cases A
   by_cases c:b=a
   . exact c
   exact absurd (if_neg c) z
theorem qaG3{l:W.OpenLaw}{n k:Nat}{q:Ke}{loose:List Str}{XP:(Str->Option V')->Heap->Prop}{YP:Ki->Heap->Prop}{d:DefRec}{K:Params->No}{CX:Ki->CXT}{sp:Ki->Sp}{x:Str}(y:l.most=some n)(j:n<=Jq)(m:d.params.defaults=[])(z:Room k callerA)(A:∀(w:Ki)(h:Heap),YP w h->(K w.params).In h)(F:∀(w:Ki)(mg:Str->Option V')(fa:γ)(h:Heap),(K w.params).In h->h.Ns Jy mg->mg d.name=some (.ref fa) ->
     ∃ fd:ε,(∀(s:δ)(u:V'),BindsTo s fd ⟨[u],[]⟩ [(x,u)]) /\
       ∀ base:Heap,(K w.params).In base->base.Ns Jy mg->Dw l.prog w (K w.params) mg base (CX w) k fa fd [x] (sp w))(p:∀(w:Ki)(H:Hp)(a:γ)(ns:List Int),ns.length<=n->Only H->SqL (K w.params) H a (ns.map V.int)->sp w [.ref a] H (λ v _=>v=.bl true) λ _ _ _=>False)(r:∀(w:Ki)(H:Hp)(s:δ)(e:V')(s':δ),CX w [] H s (λ _ _ _=>False) e s'->False) :
   W.WalkO q loose XP YP l.row.toRowW d [] (λ f vs=>PySem.call f vs):=by
 refine Att.qab3 y m λ w s₀ s₁ mg M fa o N O B a vs ns G Y P Q C t i hints c D=>?_
 have KX:=A w _ Y;obtain⟨fd,E,I⟩:=F w mg fa _ KX G.T.g t;exact qaD5 KX G.T.g G.T.b G.T.builtins G.T.nolimit D i hints (zAj c j) z I E (λ H J L=>p w H a ns c J L) λ H e s'=>r w H s₁ e s'
end L2
/- THE LAST THEOREM (shape;LID,My.* are yours):
  My.Adr: a structure of the addresses that your layer names (classes,functions);My.Txt K t: a structure (Prop) of the equations over K;
  My.txt_mk:{K} {implicit addresses ..} (e1:nsIn K Jy "law" = some (some (.ref f))) (e2:K.lookup f=some ⟨oc,od,.func (fnOf "law" "law" params body scope dV kV doc pm an cdv ct),sl⟩) (e3:codeIn K cdv "law" = true) .. : ∃ t,My.Txt K t
(the tactic k_is has no namespace: write k_is) -/
namespace L2
open PySem PySem.Spec PyProof.Rows
variable{A B:Prop}{f:γ}{qual x:Str}{st:Kk}
noncomputable def qh8(s:Kk)(j:Nat):Kk:=match s with
 | .ClassDef _ _ _ body _ _ _ _ _ _ _=>body.getD j (.Pass ⟨0,0,0,0⟩)
 | _=>.Pass ⟨0,0,0,0⟩
noncomputable def qe9(s:Kk):Arguments:=match s with
 | .FunctionDef _ a _ _ _ _ _ _ _ _=>a
 | _=>{ posonlyargs:=[],args:=[],vararg:=none,kwonlyargs:=[],kw_defaults:=[],kwarg:=none,defaults:=[] }
noncomputable def qd0(s:Kk):List Kk:=match s with
 | .FunctionDef _ _ b _ _ _ _ _ _ _=>b
 | _=>[]
noncomputable def qa3(s:Kk):Scope:=match s with
 | .FunctionDef _ _ _ _ _ _ sc _ _ _=>sc
 | _=>{ kind:=.function,names:=[],isGenerator:=false,isCoroutine:=false }
abbrev CX0:CXT:=λ _ _ _ _ _ _=>False
abbrev E0:XK:=λ _ _ _=>False
theorem pass0{X:Cx}:qN1 CX0 X (λ _=>E0):=λ _ _ _ _ _ _ _ h=>h.elim
structure Fun(K:No)(x qual:Str)(st:Kk)(f:γ)(fd:ε):Prop where
 ex:∃(oc:V')(od:Option γ)(kV doc pm:V')(an:Option γ)(cdv ct:V')(osl:Array (Option V')),
   fd=W.fnOf x qual (qe9 st) (qd0 st) (qa3 st) .none kV doc pm an cdv ct/\K.lookup f=some ⟨oc,od,.func fd,osl⟩/\W.codeIn K cdv qual=true
 kp:W.keepIn K (.ref f)=true
section
variable{P:Ke}{w:Ki}{K:No}{p:Str->Option V'}{base:Heap}
theorem Fun.ok{fd:ε}{N ps:List Str}{k:Nat}{sp:Sp}(F:Fun K x qual st f fd)(S:qa9 N ps (qa3 st))(len:∀ vs H Q E,sp vs H Q E->vs.length=ps.length)(hbody:∀(a:V')(A:Kf)(outer:List Env)(s:δ)(H:Hp)(vs:List V)(Q:VK)(E:XK),Room k (A.deeper (envOfC qual (qa3 st) s.heap.objs.size f a))->sp vs H Q E ->
     ∃ t,PSs (Dx true CX0 P w K p base N qual (qa3 st) f a A outer s H E).nox (qd0 st) t/\t { nx:=λ _ H'=>Q .non H',rt:=Q } (start N vs) H):Dw P w K p base CX0 (k+1) f fd ps sp:=by
 obtain⟨j,l,kV,d,m,n,a,o,e,rfl,g,b⟩:=F.ex;refine Hy g b S len λ A outer s H vs Q E i c=>?_
 obtain⟨t,h,q⟩:=hbody a A outer s H vs Q E i c;exact⟨t,h.nox,q⟩
theorem Fun.binds{fd:ε}{ps:List Str}(F:Fun K x qual st f fd)(h:∀(kV a c:V')(d:Option γ)(b e:V')(us:List V'),us.length=ps.length->bindArgs (W.fnOf x qual (qe9 st) (qd0 st) (qa3 st) .none kV a c d b e) ⟨us,[]⟩=pure (ps.zip us)):Binds K fd ps []:=by
 obtain⟨j,k,kV,a,c,d,b,e,g,rfl,l,i⟩:=F.ex;exact .all (h kV a c d b e)
theorem qar2{oc:V'}{i e:Option γ}{d:Array (Option V')}{kV b g a h:V'}(l:K.lookup f=some ⟨oc,i,.func (W.fnOf x qual (qe9 st) (qd0 st) (qa3 st) .none kV b g e a h),d⟩)(c:W.codeIn K a qual=true)(k:W.keepIn K (.ref f)=true):Fun K x qual st f (W.fnOf x qual (qe9 st) (qd0 st) (qa3 st) .none kV b g e a h):=⟨⟨oc,i,kV,b,g,e,a,h,d,rfl,l,c⟩,k⟩
end
theorem hu_of{A:Kf}{k:Nat}(a:Room k A):A.units+1 < cLine:=zC6 (Nat.add_le_add_left (by decide:1<=64) _) a.units
theorem qao0{n:Nat}(h:n<=1000):n < Jq:=zC6 h (by decide)
section
variable{X:Cx}
theorem pv(i:Nat){pos:Pos}(b:X.N[i]? = some x:=by rfl)(c:Vis X.env.scope x:=by first | exact Oo rfl | exact On (Oo rfl) | exact On (On rfl))(d:N' x:=by decide)(a:(x == ("__classdict__" : Str))=false:=by decide):PE X (.Name x pos) (E5 i):=qn3 b c d a
theorem qat1:CallR X (.builtin "len") (λ xs H Q=>∃ a kvs,xs=[V.ref a]/\H a=some (.dK kvs)/\Q (.int kvs.length) H):=by
 intro D6 s f H xs d Q I r h;obtain⟨a,kvs,rfl,b,q⟩:=h;obtain⟨u,rfl,c⟩:=B6 r;cases c;exact d_len I (.inl b) λ t e I'=>⟨.int kvs.length,H,I',⟨t,rfl⟩,q⟩
end
theorem iteF(h:B):if false=true then A else B:=by
 rw[if_neg zAm];exact h
theorem iteT(h:A):if true=true then A else B:=by
 rw[if_pos rfl];exact h
theorem ite2{c:Prop}[Decidable c](h1:c->A)(h2:¬ c->B):if c then A else B:=by
 by_cases h:c
 . rw[if_pos h]
   exact h1 h
 rw[if_neg h];exact h2 h
def Same(H H':Hp):Prop:=∀ b o,H b=some o->H' b=some o
theorem Same.trans{H H1 H2:Hp}(a:Same H H1)(b:Same H1 H2):Same H H2:=λ c o h=>b c o (a c o h)
end L2
set_option maxHeartbeats 4000000
namespace L2
open PySem PySem.Spec PyProof.Rows
variable{H:Hp}{a:γ}{e:Kj}{es:List Kj}{i:Int}{p:Pos}{t:TA}{x:Str}{xs:List V}{α:Type}
theorem Hb{t:Sem α}{Q Q':α->δ->Prop}{M:Model}{A:Kf}{E:V'->δ->Prop}{s:δ}(h:Kc M A t Q (λ _ _=>False) s)(b:∀ a s,Q a s->Q' a s):Kc M A t Q' E s :=
 J1 h b λ _ _ x=>x.elim
noncomputable def Ep(env:Env):List (Str×NameKind)->List (Str×γ)->List (Str×γ)
 | [],acc=>acc
 | (n,k)::r,acc=>Ep env r (if k == Oj then (n,(env.cells.lookup n).getD 0)::acc else acc)
theorem qA5{env:Env}:∀(l:List (Str×NameKind))(acc:List (Str×γ)),(∀ x∈l,x.2=Oj->∃ c,env.cells.lookup x.1=some c) ->
   (forIn l acc λ(x:Str×NameKind)(r:List (Str×γ)) =>
     (match x with
     | (name,kind)=>if (kind == Oj)=true then (do let c <- cellOf env name;pure (ForInStep.yield ((name,c)::r)):Sem (ForInStep (List (Str×γ)))) else pure (ForInStep.yield r)))=(pure (Ep env l acc):Sem _)
 | [],acc,_=>rfl
 | (n,k)::r,acc,h=>by
   rw[List.forIn_cons];by_cases a:(k == Oj)=true
   . obtain⟨c,b⟩:=h (n,k) zAf (by simpa using a)
     have b:env.cells.lookup n=some c:=b;dsimp only;rw[if_pos a];have e:cellOf env n=pure c:=by unfold cellOf;rw[b]
     rw[e];show (forIn r ((n,c)::acc) _:Sem _)=_;rw[qA5 r ((n,c)::acc) λ x d=>h x (zA7 _ d)];show _=(pure (Ep env r (if (k == Oj)=true then (n,(env.cells.lookup n).getD 0)::acc else acc)):Sem _)
     rw[if_pos a,b];rfl
   dsimp only;rw[if_neg a];show (forIn r acc _:Sem _)=_;rw[qA5 r acc λ x d=>h x (zA7 _ d)];show _=(pure (Ep env r (if (k == Oj)=true then (n,(env.cells.lookup n).getD 0)::acc else acc)):Sem _)
   rw[if_neg a]
theorem qM6{env:Env}{sc:Scope}(h:∀ x∈sc.names,x.2=Oj->∃ c,env.cells.lookup x.1=some c):closureFor sc env=pure (Ep env sc.names []):=by
 unfold closureFor;show (forIn sc.names [] _ >>= _)=_
 have:=qA5 (env:=env) sc.names [] h
 rw[show (forIn sc.names ([]:List (Str×γ)) _:Sem _)=pure (Ep env sc.names []) from this];rfl
theorem qak7{env:Env}:∀(l:List (Str×NameKind))(acc:List (Str×γ))(x:Str)(c:γ),(x,c)∈Ep env l acc->(x,c)∈acc∨((x,Oj)∈l/\c=(env.cells.lookup x).getD 0)
 | [],acc,x,c,h=>.inl h
 | (n,k)::r,acc,x,c,h=>by
   rcases qak7 r _ x c h with h | ⟨h,e⟩
   . by_cases a:(k == Oj)=true
     . rw[if_pos a] at h
       rcases zAo.mp h with h | h
       . cases h
         exact .inr ⟨by rw[show k=Oj by simpa using a];exact zAf,rfl⟩
       exact .inl h
     rw[if_neg a] at h;exact .inl h
   exact .inr ⟨zA7 _ h,e⟩
theorem qak8{env:Env}:∀(l:List (Str×NameKind))(acc:List (Str×γ))(x:Str),(∃ c,(x,c)∈acc)->∃ c,(x,c)∈Ep env l acc
 | [],acc,x,h=>h
 | (n,k)::r,acc,x,⟨c,h⟩=>qak8 r _ x ⟨c,by split;exact zA7 _ h;exact h⟩
theorem qS2{env:Env}:∀(l:List (Str×NameKind))(acc:List (Str×γ))(x:Str),(x,Oj)∈l->∃ c,(x,c)∈Ep env l acc
 | [],acc,x,h=>by simp at h
 | (n,k)::r,acc,x,h=>by
   rcases zAo.mp h with h | h
   . cases h
     exact qak8 r _ _ ⟨_,by rw[if_pos (by rfl)];exact zAf⟩
   exact qS2 r _ x h
theorem qz6{α:Type}:∀{l:List (Str×α)}{x:Str},(∃ c,(x,c)∈l)->∃ c,l.lookup x=some c
 | [],x,⟨c,h⟩=>by simp at h
 | (n,a)::r,x,⟨c,h⟩=>by
   cases b:x == n with
   | true=>exact⟨a,by simp only[zAv,b]⟩
   | false =>
     rcases zAo.mp h with h | h
     . cases h;simp at b
     obtain⟨d,e⟩:=qz6 ⟨c,h⟩;exact⟨d,by simp only[zAv,b];exact e⟩
noncomputable def pick(a:St)(src:List (Option Nat)):St:=src.map λ o=>match o with | none=>none | some j=>(a[j]?).getD none
noncomputable def qw0(X:Cx)(NY:List Str)(src:List (Option Nat))(sc:Scope):Bool :=
 (sc.kind == .function)&&(src.length == NY.length) &&
 (sc.names.all λ x=>x.2 != .cell&&(x.2 != .local||sc.names.lookup x.1 == some .local)&&(x.2 != .free||(X.env.scope.names.lookup x.1 == some .cell||X.env.scope.names.lookup x.1 == some .free))) &&
 ((NY.zip src).all λ p=>match p.2 with | none=>true | some j=>X.N[j]? == some p.1&&sc.names.lookup p.1 == some .free)
def qj2(X:Cx)(NY:List Str)(sc:Scope)(C:γ)(a:δ)(H0:Hp)(ex:List γ):Cx where
 prog:=X.prog
 w:=X.w
 K:=X.K
 mg:=X.mg
 base:=X.base
 A:=X.A
 N:=NY
 s₀:=a
 H₀:=H0
 env:=compEnvC sc (Ep X.env sc.names []) C X.env
 outer:=X.stack
 stack:=X.stack
 ex:=ex
 fn:=λ _=>false
 calm:=X.calm
 pn:=[]
 xe:=λ _ _=>False
def PFs(X:Cx)(ifs:List Kj)(t:TT):Prop :=
 ∀(D6:List (γ×Obj))(s:δ)(b:St)(H:Hp)(Q:Bool->Hp->Prop),Oz X D6 b H s->t b H Q ->
   Kc (Kd X.prog X.w) X.A (forIn ifs true λ c r=>if r=true then do let a <- isTrue c X.env (eval c X.env);pure (ForInStep.yield a) else pure (ForInStep.yield r)) (TP X D6 b Q) X.xe s
def tYes:TT:=λ _ H Q=>Q true H
theorem qaJ9{X:Cx}:PFs X [] tYes:=λ _ _ _ H _ I h=>wpAny_tests_nil ⟨H,I,h⟩
theorem qaS8{X:Cx}{c:Kj}{t:TT}(h:PT X c t):PFs X [c] t:=λ D6 s a H Q I q=>wpAny_tests_one (h D6 s a H Q I q)
theorem qq2{prog:Ke}{w:Ki}{A:Kf}{R:Result->δ->Prop}{s:δ}{elt target iter:Kj}{ifs:List Kj}{scope:Scope}{pos:Pos}{it acc:V'}{env:Env}(I:Nat->δ->Prop)(turn:∀ n s,I n s->Kc (Kd prog w) A (pyNext it) (λ r s₁=>match r with
     | none=>R (.ok .next) s₁
     | some v=>Kc (Kd prog w) A (letOwnedTupleGo target it v) (λ _ s₁'=>Kc (Kd prog w) A (assign target env v) (λ _ s₂ =>
         Kc (Kd prog w) A (forIn ifs true λ c r=>if r=true then do let a <- isTrue c env (eval c env);pure (ForInStep.yield a) else pure (ForInStep.yield r)) (λ a s₃ =>
           if a=true then Kc (Kd prog w) A (eval elt env) (λ x s₄ =>
             Kc (Kd prog w) A (call (.builtin "list.append") [acc,x]) (λ _ s₅=>∃ m,m < n/\I m s₅) (λ _ _=>False) s₄) (λ _ _=>False) s₃
           else ∃ m,m < n/\I m s₃) (λ _ _=>False) s₂) (λ _ _=>False) s₁') (λ _ _=>False) s₁) (λ _ _=>False) s)(n:Nat)(h:I n s) :
   codeAny (Kd prog w) A (.compLoop (.ListComp elt [⟨target,iter,ifs,0⟩] scope pos) 0 it acc env) R s:=by
 refine codeAny_loop rfl I (λ n s b=>?_) n h;show Kc _ A ((compTurn (.ListComp elt [⟨target,iter,ifs,0⟩] scope pos) 0 it acc env).onRaise (λ x=>do noteFrame x env;theTreesLotGoes x)) _ _ s;refine wpAny_noted ?_;rw[compTurn_list];refine E' (wpAny_standAt (E' (Hb (turn n s b) λ r s₁ h₁=>?_)));cases r with
 | none=>exact G' h₁
 | some v =>
   refine E' (Hb h₁ λ _ s₁' h₁'=>?_);refine E' (Hb h₁' λ _ s₂ h₂=>E' (Hb h₂ λ a s₃ h₃=>?_));cases a with
   | false=>exact G' ⟨rfl,h₃⟩
   | true =>
     exact E' (E' (Hb h₃ λ x s₄ h₄=>E' (Hb h₄ λ _ s₅ h₅=>G' (G' ⟨rfl,h₅⟩))))
def qw9(J:It)(g:TG)(tf:TT)(te:TE)(D:γ)(R:Hp->Prop)(σ0:St)(H0:Hp):Prop :=
 ∃ W:Nat->Nat->St->Hp->Prop,(∃ m,W 0 m σ0 H0)/\∀ i m c H,W i m c H ->
   (J.stop i H/\R H)∨(J.go i H/\∃ N:St->Hp->Prop,(∀ c' H',N c' H'->∃ a,a < m/\W (i+1) a c' H')/\∀ x H',J.yld i H x H'->g x c H' λ σ2 H2=>tf σ2 H2 λ b H3 =>
     if b=true then te σ2 H3 λ v H4=>∃ xs,H4 D=some (.l xs)/\xs.length < Jq/\N σ2 (upd H4 D (.l (xs++[v]))) else N σ2 H3)
theorem qr8{env:Env}{x:Str}:∀{names:List (Str×NameKind)},(∀ y∈names,y.2≠.cell) ->
   ((names.map λ (n,k)=>if (k == Oj&&env.scope.kind == .function&&env.kindOf n == some .cell) then (n,Ol) else (n,k)).lookup x=some .cell ∨
    (names.map λ (n,k)=>if (k == Oj&&env.scope.kind == .function&&env.kindOf n == some .cell) then (n,Ol) else (n,k)).lookup x=some .free)->names.lookup x=some .free
 | [],_,h=>by simp at h
 | (n,k)::r,hc,h=>by
   have c:=@qr8 env x r λ y d=>hc y (zA7 _ d)
   have e:k≠.cell:=hc (n,k) zAf;simp only[zAy] at h;cases b:x == n with
   | true =>
     simp only[zAv,b];by_cases a:(k == Oj&&env.scope.kind == .function&&env.kindOf n == some .cell)=true
     . have:k=Oj:=by
         simp only[zBi,zBt] at a;exact a.1.1
       rw[this]
     rw[if_neg a] at h;simp only[zAv,b] at h;rcases h with h | h
     . exact absurd (Nm h) e
     exact h
   | false =>
     simp only[zAv,b];apply c;by_cases a:(k == Oj&&env.scope.kind == .function&&env.kindOf n == some .cell)=true
     . rw[if_pos a] at h
       simpa only[zAv,b] using h
     rw[if_neg a] at h;simpa only[zAv,b] using h
theorem qh7{env:Env}{x:Str}:∀{names:List (Str×NameKind)},names.lookup x=some .free ->
   ((names.map λ (n,k)=>if (k == Oj&&env.scope.kind == .function&&env.kindOf n == some .cell) then (n,Ol) else (n,k)).lookup x=some .cell ∨
    (names.map λ (n,k)=>if (k == Oj&&env.scope.kind == .function&&env.kindOf n == some .cell) then (n,Ol) else (n,k)).lookup x=some .free)
 | [],h=>by simp at h
 | (n,k)::r,h=>by
   have c:=@qh7 env x r;simp only[zAy];cases a:x == n with
   | true =>
     simp only[zAv,a] at h;have h:k=.free:=Nm h;by_cases b:(k == Oj&&env.scope.kind == .function&&env.kindOf n == some .cell)=true
     . rw[if_pos b];simp only[zAv,a];exact .inl trivial
     rw[if_neg b];simp only[zAv,a];rw[h];exact .inr rfl
   | false =>
     simp only[zAv,a] at h;by_cases b:(k == Oj&&env.scope.kind == .function&&env.kindOf n == some .cell)=true
     . rw[if_pos b];simp only[zAv,a];exact c h
     rw[if_neg b];simp only[zAv,a];exact c h
section
variable{X:Cx}{D6:List (γ×Obj)}{σ:St}{H2:Hp}{s2:δ}{elt tg iter:Kj}{ifs:List Kj}{sc:Scope}{pos:Pos}{NY:List Str}{src:List (Option Nat)}{J:It}{fp:List γ}{it:γ}{tn:Nat->Heap->Prop}{g:TG}{tf:TT}{te:TE}
theorem qX3{R:γ->Hp->Prop}{E:V'->δ->Prop}{RR:V'->γ->Result->δ->Prop}(ck:qw0 X NY src sc=true)(hc:X.calm=true)(I2:Oz X D6 σ H2 s2)(T:Ht X.prog X.w X.K tg J fp it tn)(I:tn 0 s2.heap)(f2:∀ b∈fp,Ft X D6 H2 b)(hg:∀ C P H0,PG (qj2 X NY sc C P H0 fp) tg g)(hf:∀ C P H0,PFs (qj2 X NY sc C P H0 fp) ifs tf)(he:∀ C P H0,PE (qj2 X NY sc C P H0 fp) elt te)(rd:∀ D,H2 D=none->qw9 J g tf te D (R D) (pick σ src) (upd H2 D (.l [])))(fin:∀ D C H' s',Oz X D6 σ H' s'->R D H'->H' C=none->X.s₀.heap.objs.size<=C->C≠X.env.locals->(∀ x c,X.env.cells.lookup x=some c->c≠C)->(∀ p∈X.pn++D6,p.1≠C)->C∉X.fs->(∃ m,s'.heap.Ns C m)->RR (.ref D) C (.ok .next) s') :
   Kc (Kd X.prog X.w) X.A (newList []) (λ acc s₃=>Kc (Kd X.prog X.w) X.A (newFunctionEnv sc X.env.globals (Ep X.env sc.names []) [] X.env.qual none .none (some X.env)) (λ cenv s₄ =>
     codeAny (Kd X.prog X.w) X.A (.compStart (.ListComp elt [⟨tg,iter,ifs,0⟩] sc pos) 0 (.ref it) acc { cenv with scope:=relabel sc X.env }) (RR acc cenv.locals) s₄) E s₃) E s2:=by
 unfold qw0 at ck;simp only[zBi,zBt,zBh] at ck;obtain⟨⟨⟨hkind,G⟩,Q⟩,S⟩:=ck;have hcell:∀ y∈sc.names,y.2≠.cell:=λ y U e=>by
   have:=(Q y U).1.1
   rw[e] at this;exact absurd this (by decide)
 have hfree:∀ y∈sc.names,y.2=.free->(X.env.kindOf y.1=some .cell∨X.env.kindOf y.1=some .free):=λ y U e=>by
   have:=(Q y U).2
   rw[e] at this;show X.env.scope.names.lookup y.1=some .cell∨X.env.scope.names.lookup y.1=some .free;simpa using this
 have clsub:∀ x c,(Ep X.env sc.names []).lookup x=some c->X.env.cells.lookup x=some c:=λ x c e=>by
   rcases qak7 _ _ x c (PySem.mem_of_lookup e) with h | ⟨h,q⟩
   . simp at h
   obtain⟨d,M⟩:=I2.ok.has x (hfree _ h rfl);rw[M] at q;rw[M,q];rfl
 refine wpAny_newObj_type (wpAny_newFunctionEnv hcell (by intro y U;simp at U) (λ h₁ hns₁ hsb₁=>?_) hkind);dsimp only at hns₁ hsb₁ ⊢;have I3:=I2.lnew (ys:=[]) (its:=[]) (t':=s2.toks) .nil (zBl _);have hD:H2 s2.heap.objs.size=none:=I2.fresh;generalize t:s2.heap.objs.size=D at hns₁ hsb₁ I3 hD ⊢;generalize V:s2.heap.push { cls:=.type "list",dict:=none,data:=.seq ([]:List V').toArray }=h3 at hns₁ hsb₁ I3 ⊢;have Z:h3.objs.size=D+1:=by rw[<- V,Heap.size_push,t]
 generalize s:h3.objs.size=C at hns₁ hsb₁ Z ⊢;have I3:Oz X D6 σ (upd H2 D (.l [])) { s2 with heap:=h3,toks:=s2.toks }:=I3;have B:∀ b o,h3.get? b=some o->h₁.get? b=some o:=λ b o e=>hsb₁.extBut b o (by rw[<- s];exact zAt (zAc e)) (zA5 _ e)
 have a0:∀ b o,h3.get? b=some o->b≠C:=λ b o e=>by rw[<- s];exact zAt (zAc e)
 have a1:X.env.locals≠C:=by rw[<- s];exact zAt I3.lt
 have b0:∀ x c,X.env.cells.lookup x=some c->c≠C:=λ x c e=>by
   obtain⟨v,o,F,_⟩:=I3.cell x c e;exact a0 c o F
 have a2:∀ b∈fp,b≠C:=λ b f=>by
   obtain⟨o,F,_⟩:=T.obj _ _ I b f
   have:=zAc F
   rw[t] at this;exact zAt (Nat.lt_trans this (by rw[Z];exact Nat.lt_succ_self _))
 have b1:∀ b∈fp,b≠D:=λ b f=>by
   obtain⟨o,F,_⟩:=T.obj _ _ I b f
   have:=zAc F
   rw[t] at this;exact zAt this
 have a3:∀ b o,s2.heap.get? b=some o->h3.get? b=some o:=λ b o e=>by rw[<- V];exact zA5 _ e
 have pinC:∀ p∈X.pn++D6,p.1≠C:=λ p hp=>a0 _ _ (I3.pin p hp).1
 have a4:C∉X.fs:=by rw[<- s];exact I3.nofs (zA2 _)
 have b2:X.s₀.heap.objs.size<=C:=by rw[<- s];exact I3.sz
 have stkC:∀ b∈frs X.stack,b≠C:=λ b f e=>by
   rcases zAo.mp (I3.stkSub b f) with z | z
   . exact a1 (z.symm.trans e)
   exact a4 (e ▸ z)
 have HC:upd H2 D (.l []) C=none:=I3.hok.fresh (by show h3.objs.size<=C;exact zCh s);have a5:∀ b∈fp,b∉frs X.stack:=λ b f z=>by
   obtain⟨_,h1,h2,_⟩:=f2 b f;rcases zAo.mp (I2.stkSub b z) with q | q
   . exact h1 q
   exact h2 q
 let Y:Cx:=qj2 X NY sc C { s2 with heap:=h3 } (upd H2 D (.l [])) fp
 have a6:(pick σ src).length=NY.length:=by unfold pick;rw[zAg];exact G
 have IY:Oz Y [] (pick σ src) (upd H2 D (.l [])) { s2 with heap:=h₁,toks:=s2.toks+0 }:=by
   refine⟨⟨I2.ok.mod,hkind,I2.ok.glob,I2.ok.blt,(by show h3.objs.size<=C;exact zCh s),λ x y c h1 h2=>I2.ok.inj x y c (clsub x c h1) (clsub y c h2),λ x hx=>?_,λ _ _ z _=>(zAm z).elim,I2.ok.hd,I2.ok.frames,.inl rfl,λ b f=>⟨a2 b f,λ x c e=>(f2 b f).2.2.2.2.1 x c (clsub x c e)⟩,
     λ b o e=>?_,?_,λ b o e f=>?_,λ b f=>a5 b f,?_,λ b f=>?_⟩,rfl,I2.bare,Un.kept B,⟨_,hns₁,λ i x v e1 e2 e3=>?_⟩,λ x c e=>?_,HC,λ x c e=>I3.freeC x c (clsub x c e),λ p hp=>absurd (show p∈([]:List (γ×Obj)) from hp) (by simp),I3.hok.kept B,a6⟩
   . have hx:=qr8 hcell hx
     exact qz6 (qS2 _ _ _ (PySem.mem_of_lookup hx))
   . exact I3.bs b o e
   . exact zAj I2.ok.bsz (zAj (zAj I2.sz (by rw[t];exact zA2 _)) (by show D<=h3.objs.size;lia))
   . rcases (f2 b f).2.2.2.1 with z | z
     . exact I2.ok.noex b o e z
     exact absurd (zAi (zAc (I2.ok.bs b o e).1) z) (zC5 _)
   . exact I3.stack
   . exact I3.stkFree b f
   . -- a captured name
     have hi:i < src.length:=by
       have:=(zA4.mp e2).1
       rw[a6,<- G] at this;exact this
     have e1:NY[i]? = some x:=e1;have es:src[i]? = some src[i]:=by simp[hi]
     have ep:(pick σ src)[i]? = some (match src[i] with | none=>none | some j=>(σ[j]?).getD none):=by
       unfold pick;rw[zB3,es];rfl
     rw[ep] at e2;cases hj:src[i] with
     | none=>rw[hj] at e2;cases e2
     | some j =>
       rw[hj] at e2;have e2:(σ[j]?).getD none=some v:=Nm e2;have ej:σ[j]? = some (some v):=by
         cases q:σ[j]? with
         | none=>rw[q] at e2;cases e2
         | some o=>rw[q] at e2;rw[show o=some v from e2]
       have hm:(x,some j)∈NY.zip src:=by
         have:(NY.zip src)[i]? = some (x,some j):=by
           rw[List.getElem?_zip_eq_some];exact⟨e1,by rw[es,hj]⟩
         exact zAx this
       have q:=S _ hm;simp only[zBi,zBt] at q;obtain⟨qN,qf⟩:=q;have H:=hfree _ (PySem.mem_of_lookup qf) rfl;obtain⟨m,hn,hl⟩:=I3.loc;obtain⟨u,r,l⟩:=hl j x v qN ej (H.elim (λ z=>.inr (.inl z)) λ z=>.inr (.inr z));refine⟨u,r,.inr ⟨qh7 qf,?_⟩⟩;rcases l with⟨z,_⟩ | ⟨_,c,ec,o,F,M⟩
       . have H:X.env.kindOf x=some .cell∨X.env.kindOf x=some .free:=H
         rw[z] at H;rcases H with H | H<;>cases H
       obtain⟨c',a7⟩:=qz6 (qS2 (env:=X.env) sc.names [] x (PySem.mem_of_lookup qf))
       have:=clsub x c' a7
       rw[ec] at this;cases this;exact⟨c,a7,o,B c o F,M⟩
   obtain⟨v,o,F,M⟩:=I3.cell x c (clsub x c e);exact⟨v,o,B c o F,M⟩
 have st₁:tn 0 h₁:=T.keep _ _ _ I λ b f o e=>B b o (a3 b o e)
 have stat:∀{H':Hp},(∀ b∈fp,H' b=none)->∀ b∈fp,Ft Y [] H' b:=λ hn b f=>by
   refine⟨hn b f,a2 b f,a5 b f,.inl f,λ x c e=>(f2 b f).2.2.2.2.1 x c (clsub x c e),λ p hp=>absurd (show p∈([]:List (γ×Obj)) from hp) (by simp)⟩
 have loop:codeAny (Kd X.prog X.w) X.A (.compLoop (.ListComp elt [⟨tg,iter,ifs,0⟩] sc pos) 0 (.ref it) (.ref D) Y.env) (RR (.ref D) C) { s2 with heap:=h₁,toks:=s2.toks+0 }:=by
   obtain⟨W,⟨m0,w0⟩,turn⟩:=rd D hD;refine qq2 (λ n s'=>∃ i σ' H',Oz Y [] σ' H' s'/\tn i s'.heap/\(∀ b∈fp,H' b=none)/\W i n σ' H') ?_ m0 ⟨0,_,_,IY,st₁,λ b f=>by rw[qd1 (b1 b f)];exact(f2 b f).1,w0⟩;rintro n s3 ⟨i,σ3,H3,J3,a8,a9,w3⟩;rcases turn i n σ3 H3 w3 with⟨stop,qn⟩ | ⟨go,N,hN,step⟩
   . refine thn (T.done Y rfl rfl rfl hc i [] s3 σ3 H3 _ J3 (stat a9) a8 stop) λ r s4 k=>?_
     obtain⟨hr,J4⟩:=k;subst hr;have b3:H3 C=none:=J4.free;refine fin D C H3 s4 ?_ qn b3 b2 (Ne.symm a1) b0 pinC a4 (let ⟨m,hn,_⟩:=J4.loc;⟨m,hn⟩);refine I2.call' (ch:=fp) J4.os ?_ J4.hok J4.bare λ b f=>?_
     . have u1:Un (frs X.stack) fp H2 (upd H2 D (.l [])) s2.heap h3:=Un.laid a3 (zCh t) hD
       exact u1.trans J4.base
     obtain⟨_,h1,_,b4,h4,h5⟩:=f2 b f;exact⟨b4,h1,h4,h5⟩
   refine thn (T.item Y rfl rfl rfl hc i [] s3 σ3 H3 _ J3 (stat a9) a8 go) λ r s4 k=>?_
   obtain⟨u,hr,h4⟩:=k;subst hr;refine thn h4 λ _ s5 k=>?_
   obtain⟨x,H5,J5,r5,y5,L,b5⟩:=k;have J5':=J5.pinned (stat b5) (T.obj _ _ L);have again:∀{σ7:St}{H7:Hp}{O:δ},Oz Y ([]++Hu fp s5.heap) σ7 H7 O->N σ7 H7->∃ m,m < n/\∃ i σ' H',Oz Y [] σ' H' O/\tn i O.heap/\(∀ b∈fp,H' b=none)/\W i m σ' H':=λ{σ7 H7 O} I7 n7=>by
     obtain⟨m',hm,w7⟩:=hN σ7 H7 n7;refine⟨m',hm,i+1,σ7,H7,I7.unpinned,T.keep _ _ _ L λ b f o e=>(I7.pin (b,o) (zAu _ (zAu _ (qr7 f e)))).1,λ b f=>?_,w7⟩;obtain⟨o,e,d⟩:=T.obj _ _ L b f;exact(I7.pin (b,o) (zAu _ (zAu _ (qr7 f e)))).2.1
   refine thn (hg C _ _ _ s5 σ3 H5 x u _ J5' r5 (step x H5 y5)) λ _ s6 k=>?_
   obtain⟨σ6,H6,J6,q6⟩:=k;refine thn (hf C _ _ _ s6 σ6 H6 _ J6 q6) λ ok O k=>?_
   obtain⟨H7,J7,q7⟩:=k;cases ok with
   | false=>exact again J7 (by simpa using q7)
   | true =>
     rw[if_pos rfl] at q7 ⊢;refine thn (he C _ _ _ O σ6 H7 _ J7 q7) λ y s8 k=>?_
     obtain⟨v,H8,J8,r8,xs,b6,b7,q8⟩:=k;refine thn (qc0 (X:=Y) _ s8 σ6 H8 (.ref D) [v] (.ref D) [y] (λ _ H'=>N σ6 H') J8 rfl (.cons r8 .nil) ⟨D,xs,v,rfl,rfl,b6,b7,q8⟩) λ _ s9 k=>?_
     obtain⟨_,H9,J9,_,q9⟩:=k;exact again J9 q9
 exact codeAny_compStart_list loop (T.self _ 0 _ _ _ st₁ loop)
end
def Dy(wi:TI)(src:List (Option Nat))(g:TG)(tf:TT)(te:TE):TE:=λ a H Q=>wi a H λ J H1=>∀ D,H1 D=none->qw9 J g tf te D (λ H'=>Q (.ref D) H') (pick a src) (upd H1 D (.l []))
section
variable{X:Cx}{elt tg iter:Kj}{ifs:List Kj}{sc:Scope}{pos:Pos}{NY:List Str}{src:List (Option Nat)}{wi:TI}{g:TG}{tf:TT}{te:TE}
theorem qM5(b:qw0 X NY src sc=true):sc.kind=.function/\(∀ y∈sc.names,y.2=.local->sc.names.lookup y.1=some .local)/\(∀ y∈sc.names,y.2=.free->(X.env.kindOf y.1=some .cell∨X.env.kindOf y.1=some .free)):=by
 unfold qw0 at b;simp only[zBi,zBt,zBh] at b;obtain⟨⟨⟨hkind,d⟩,a⟩,f⟩:=b;refine⟨hkind,λ y c e=>?_,λ y c e=>?_⟩
 . have:=(a y c).1.2
   rw[e] at this;simpa using this
 have:=(a y c).2
 rw[e] at this;show X.env.scope.names.lookup y.1=some .cell∨X.env.scope.names.lookup y.1=some .free;simpa using this
theorem qJ8(NY:List Str)(src:List (Option Nat))(hi:PI X tg iter wi)(n:∀ C a H0 ex,PG (qj2 X NY sc C a H0 ex) tg g)(p:∀ C a H0 ex,PFs (qj2 X NY sc C a H0 ex) ifs tf)(r:∀ C a H0 ex,PE (qj2 X NY sc C a H0 ex) elt te)(t:X.calm=true:=by rfl)(l:qw0 X NY src sc=true:=by rfl)(u:∀ x,Js iter X.env x=pure x:=by intro _;rfl):PE X (.ListComp elt [⟨tg,iter,ifs,0⟩] sc pos) (Dy wi src g tf te):=by
 intro D6 s σ H Q I h;obtain⟨hkind,hnames,hfree⟩:=qM5 l;rw[eval_ListComp];refine wpAny_comprehension_free (use:=none) rfl u (qM6 λ x y e=>I.ok.has x.1 (hfree x y e)) hkind hnames ?_;refine thn (hi D6 s σ H _ I h) λ v O c=>thn c λ z P d=>?_
 obtain⟨B,f,S,J,H2,rfl,I2,T,i,f2,E⟩:=d;refine qX3 (R:=λ D H'=>Q (.ref D) H') (RR:=λ j C=>compPost (Kd X.prog X.w) X.A X.xe none (EP X D6 σ Q) j C) l t I2 T i f2 (λ C a H0=>n C a H0 f) (λ C a H0=>p C a H0 f) (λ C a H0=>r C a H0 f) E ?_;intro D C H' F I' q G c d K L U ⟨m,M⟩;refine⟨m,M,λ V k=>⟨.ref D,H',?_,rfl,q⟩⟩;exact I'.turned (t':=F.toks) (it:=C) (λ b o N e=>k.extBut b o N e) G d (.inr c) K L
theorem qav1(i:Nat){px spos:Pos}(NY:List Str)(src:List (Option Nat))(L:X.N.Nodup)(hi:PI X tg iter wi)(M:∀ C a H0 ex,PG (qj2 X NY sc C a H0 ex) tg g)(O:∀ C a H0 ex,PFs (qj2 X NY sc C a H0 ex) ifs tf)(P:∀ C a H0 ex,PE (qj2 X NY sc C a H0 ex) elt te)(k:X.N[i]? = some x:=by rfl)(l:Loc X.env.scope x:=by first | exact Oo rfl | exact On rfl)(S:X.calm=true:=by rfl)(F:qw0 X NY src sc=true:=by rfl)(n:swapsWith (.ListComp elt [⟨tg,iter,ifs,0⟩] sc pos) (some (.Name x px)) spos.line X.env=pure true:=by rfl)(U:∀ x,Js iter X.env x=pure x:=by intro _;rfl)(r:X.fn x=true∨X.env.scope.names.lookup x=some .local:=by first | exact .inl rfl | exact .inr rfl | assumption):PS X (.Assign [.Name x px] (.ListComp elt [⟨tg,iter,ifs,0⟩] sc pos) spos) (Ha (Dy wi src g tf te) (Et i)):=by
 intro D6 s σ H D I h;obtain⟨hkind,hnames,hfree⟩:=qM5 F;rw[exec_Assign_Name_used _ _ _ _ n];refine E' (wpAny_standAt (E' ?_));show Kc _ _ (do let _ <- comprehension (.ListComp elt [⟨tg,iter,ifs,0⟩] sc pos) sc X.env _ (newList []) false (eval iter X.env) (some (assign (.Name x px) X.env))) _ _ s;refine E' (J1 (wpAny_comprehension_free (use:=some (assign (.Name x px) X.env)) (Q:=λ _ c=>SP X D6 D .next c) rfl U (qM6 λ x l e=>I.ok.has x.1 (hfree x l e)) hkind hnames ?_) (λ _ c V=>G' (G' V)) λ _ _ e=>e);refine thn (hi D6 s σ H _ I h) λ v s1 t=>thn t λ W s2 j=>?_
 obtain⟨Y,u,tn,J,H2,rfl,I2,T,y,f2,Z⟩:=j;refine qX3 (R:=λ D' H'=>Et i (.ref D') σ H' D.nx) (RR:=λ B C=>compPost (Kd X.prog X.w) X.A X.xe (some (assign (.Name x px) X.env)) (λ _ c=>SP X D6 D .next c) B C) F S I2 T y f2 (λ C a H0=>M C a H0 u) (λ C a H0=>O C a H0 u) (λ C a H0=>P C a H0 u) Z ?_;intro D' C H' c I' q G t j h3 h4 h5 ⟨m,hn⟩;obtain⟨o,es,ep,ho,K,hr⟩:=hn;have Ip:Oz X (D6++[(C,o)]) σ H' c:=I'.pins_of λ p hp=>(zA8.mp hp).elim (λ z=>I'.pin p (zAu _ z)) λ z=>by
   have e:p=(C,o):=by simpa using z
   subst e;exact⟨ho,G,j,h5,λ v e=>by rw[K] at e;cases e⟩
 show Kc _ _ (assign (.Name x px) X.env (.ref D')) _ _ _;refine wpAny_assign_Name (qO1 (v:=.ref D') Ip L k l rfl (λ d I''=>?_) r);have f:d.heap.get? C=some o:=(I''.pin (C,o) (by simp)).1;refine⟨m,⟨o,es,ep,f,K,hr⟩,λ h' E=>⟨_,H',?_,q⟩⟩;exact I''.unpinned.turned (t':=d.toks) (it:=C) (λ b o hb e=>E.extBut b o hb e) G j (.inr t) h3 h4
end
theorem qX2{K:No}{D:γ}{g:TG}{tf:TT}{te:TE}{R:Hp->Prop}{n:St}(Pv:Nat->St->Hp->Prop)(c:Pv 0 n H)(d:∀ i n H,i<=xs.length->Pv i n H->SqL K H a xs)(f:∀ i x n H,xs[i]? = some x->Pv i n H->g x n H λ σ2 H2=>tf σ2 H2 λ h H3=>if h=true then te σ2 H3 λ v H4=>∃ ys,H4 D=some (.l ys)/\ys.length < Jq/\Pv (i+1) σ2 (upd H4 D (.l (ys++[v]))) else Pv (i+1) σ2 H3)(j:∀ n H,Pv xs.length n H->R H) :
   qw9 (Itl K a) g tf te D R n H:=by
 refine⟨λ i m n H=>m=xs.length - i/\i<=xs.length/\Pv i n H,⟨xs.length,by simp,zBl _,c⟩,?_⟩;rintro i m n H ⟨rfl,k,p⟩;have q:=d i n H k p;by_cases b:i < xs.length
 . refine .inr ⟨⟨xs,xs[i],q,by simp[b]⟩,Pv (i+1),λ n' H' l=>⟨xs.length - (i+1),by lia,rfl,b,l⟩,λ x H' y=>?_⟩
   obtain⟨e,y⟩:=y;subst e;exact f i x n _ (y xs q) p
 have e:i=xs.length:=by lia
 subst e;exact .inl ⟨⟨xs,q,zA2 _⟩,j n H p⟩
theorem qak6{D:γ}{lo:Int}{n:Nat}{g:TG}{tf:TT}{te:TE}{R:Hp->Prop}{k:St}(Pv:Nat->St->Hp->Prop)(b:Pv 0 k H)(c:∀ i k H,i < n->Pv i k H->g (.int (lo+i)) k H λ σ2 H2=>tf σ2 H2 λ d H3=>if d=true then te σ2 H3 λ v H4=>∃ ys,H4 D=some (.l ys)/\ys.length < Jq/\Pv (i+1) σ2 (upd H4 D (.l (ys++[v]))) else Pv (i+1) σ2 H3)(f:∀ k H,Pv n k H->R H) :
   qw9 (Itr lo n) g tf te D R k H:=by
 refine⟨λ i m k H=>m=n - i/\i<=n/\Pv i k H,⟨n,by simp,zBl _,b⟩,?_⟩;rintro i m k H ⟨rfl,j,p⟩;by_cases a:i < n
 . refine .inr ⟨a,Pv (i+1),λ k' H' h=>⟨n - (i+1),by lia,rfl,a,h⟩,λ x H' y=>?_⟩
   obtain⟨e,y⟩:=y;subst e y;exact c i k _ a p
 have e:i=n:=by lia
 subst e;exact .inl ⟨zA2 _,f k H p⟩
section
variable{X:Cx}
theorem sset(i:Nat){te:TE}{pos pos':Pos}(a:X.N.Nodup)(b:PE X e te)(hi:X.N[i]? = some x:=by rfl)(c:Loc X.env.scope x:=by first | exact Oo rfl | exact On rfl)(d:swapsWith e (some (.Name x pos')) pos.line X.env=pure false:=by rfl)(f:X.fn x=true∨X.env.scope.names.lookup x=some .local:=by first | exact .inl rfl | exact .inr rfl | assumption):PS X (.Assign [.Name x pos'] e pos) (Ha te (Et i)):=qaJ1 a hi c b d f
theorem gnm(i:Nat){pos:Pos}(a:X.N.Nodup)(hi:X.N[i]? = some x:=by rfl)(b:Loc X.env.scope x:=by first | exact Oo rfl | exact On rfl)(c:X.fn x=true∨X.env.scope.names.lookup x=some .local:=by first | exact .inl rfl | exact .inr rfl | assumption):PG X (.Name x pos) (Et i):=qav3 a hi b c
def CDivB(_ j:Int):Prop:=0 < j/\j < 2 ^ 200
theorem qQ3:OpR X (Kb .FloorDiv) (rI CDivB λ i j=>.int (i / j)):=opI λ i j _ _ _ _ _ a q=>by
 have c:(0:Int) < j:=a.1;have d:j < 2 ^ 200:=a.2;refine floordiv_int (by lia) (by rw[Int.fdiv_eq_ediv_of_nonneg i (by lia)];exact q) (.inl (PyProof.noPylong_of_log2 ?_));have b:j.natAbs < 2 ^ 200:=by lia
 have e:j.natAbs.log2 < 200:=(Nat.log2_lt (by lia)).mpr b;lia
theorem qaK1{j:Int}(k:Int){a b:Nat}{q pos:Pos}(c:i ^ j.toNat=k:=by decide)(d:0<=j:=by decide)(h1:j<=1000000:=by decide)(h2:i.natAbs < 2 ^ 64:=by decide):PE X (.BinOp (.Constant (.int i) a p) .Pow (.Constant (.int j) b q) pos) (tC (.int k)):=by
 intro D6 s m H Q I h;refine(pe_op qaT6 qJ7 qJ7) D6 s m H Q I ⟨_,_,rfl,rfl,⟨d,h1,h2⟩,?_⟩;show Q (.int (i ^ j.toNat)) H;rw[c];exact h
theorem qaU0:OpR X (Jr .Is) (λ x y H Q=>∃ b c,x=.bl b/\y=.bl c/\Q (.bl (b == c)) H):=by
 intro D6 s m H x y v u Q I a d h;obtain⟨b,c,rfl,rfl,q⟩:=h;cases a;cases d;exact is_bool ⟨.bl _,H,I,rfl,q⟩
def Bk(H:Hp):V->Option String
 | .non=>some "NoneType" | .bl _=>some "bool" | .int _=>some "int" | .str _=>some "str"
 | .ref a=>match H a with
   | some (.l _)=>some "list" | some (.q _)=>some "tuple" | some (.dK _)=>some "dict" | some (.frz _ (.l _))=>some "list"
   | _=>none
 | _=>none
noncomputable def E6(t n:String):Bool:=t == n||(t == "bool" && n == "int")
theorem qaN1(K:No){t n:String}(a:t∈["NoneType", "bool", "int", "str", "list", "tuple", "dict"])(b:n∈["bool", "int", "str", "list", "tuple", "dict"]):Np K (.type t) (.type n)=some (E6 t n):=by
 simp only[zAo,zC4,or_false] at a b;rcases a with rfl | rfl | rfl | rfl | rfl | rfl | rfl<;>rcases b with rfl | rfl | rfl | rfl | rfl | rfl<;>rfl
theorem qai2{K:No}{x:V}{t:String}(h:Bk H x=some t):Ee K H x (.type t)/\t∈["NoneType", "bool", "int", "str", "list", "tuple", "dict"]:=by
 cases x with
 | non=>cases h;exact⟨.non,by decide⟩
 | bl b=>cases h;exact⟨.bl b,by decide⟩
 | int b=>cases h;exact⟨.int b,by decide⟩
 | str b=>cases h;exact⟨.str b,by decide⟩
 | byt b=>cases h
 | flt b=>cases h
 | ty b=>cases h
 | ref a =>
   unfold Bk at h;dsimp only at h;split at h
   . cases h;exact⟨.l (by assumption),by decide⟩
   . cases h;exact⟨.q (by assumption),by decide⟩
   . cases h;exact⟨.dK (by assumption),by decide⟩
   . cases h;exact⟨.frz (by assumption),by decide⟩
   cases h
def rIsi:List V->Hp->VK->Prop:=λ xs H Q=>∃ x n t,xs=[x,.ty n]/\Bk H x=some t/\n∈["bool", "int", "str", "list", "tuple", "dict"]/\Q (.bl (E6 t n)) H
theorem qh5:CallR X (.builtin "isinstance") rIsi:=by
 intro D6 s m H g i Q I r h;obtain⟨x,n,t,rfl,b,c,q⟩:=h;obtain⟨u,j,rfl,d,a⟩:=Gs r;cases a;obtain⟨ty,e⟩:=qai2 (K:=X.K) b;exact qH0 I d ty (qaN1 X.K e c) λ f=>⟨.bl _,H,I.tok f,rfl,q⟩
theorem qaB4(n:String){pos:Pos}(hm:X.mg x=none)(a:Gl X x:=by rfl)(b:Ju x=some (.type n):=by rfl)(c:x ≠ "__name__" := by decide)(d:N' x:=by decide):PE X (.Name x pos) (tC (.ty n)):=qaK5 a hm b rfl c d
theorem qav6{n:Int}{t:Tok}{pos:Pos}(hm:X.mg x=some (.int n t))(a:Gl X x:=by rfl)(b:N' x:=by decide):PE X (.Name x pos) (tC (.int n)):=qav5 a hm ⟨t,rfl⟩ b
theorem cbi{id:String}{r:List V->Hp->VK->Prop}{pos:Pos}(c:CallR X (.builtin id) r)(hm:X.mg x=none)(d:PA X (e::es) t)(f:Gl X x:=by rfl)(g:Ju x=some (.builtin id):=by rfl)(h:x ≠ "__name__" := by decide)(a:N' x:=by decide)(i:Jp (e::es) X.env=(false,eval e X.env)::Jp es X.env:=by rfl)(b:(backTo pos (Jp es X.env)).any (·.1)=false:=by rfl):PE X (.Call (.Name x p) (e::es) [] pos) (tCB r t):=qaB5 c f hm g d h a i b
theorem cty{id:String}{r:List V->Hp->VK->Prop}{pos:Pos}(c:CallR X (.type id) r)(hm:X.mg x=none)(d:PA X (e::es) t)(f:Gl X x:=by rfl)(g:Ju x=some (.type id):=by rfl)(h:x ≠ "__name__" := by decide)(a:N' x:=by decide)(i:Jp (e::es) X.env=(false,eval e X.env)::Jp es X.env:=by rfl)(b:(backTo pos (Jp es X.env)).any (·.1)=false:=by rfl):PE X (.Call (.Name x p) (e::es) [] pos) (tCB r t):=qao9 c f hm g d h a i b
end
def rGetL:V->V->Hp->VK->Prop:=λ o i H Q=>∃ p xs k v,o=.ref p/\i=.int k/\H p=some (.l xs)/\0<=k/\xs[k.toNat]? = some v/\Q v H
theorem qaE3{X:Cx}:PGet X rGetL:=by
 intro D6 s C H o i w y Q I c d h;obtain⟨p,z,k,v,rfl,rfl,e,f,b,q⟩:=h;cases c;obtain⟨t,rfl⟩:=d;obtain⟨a,n,r,g,A⟩:=I.l e;obtain⟨u,j,l⟩:=r.get b;have m:=(zA4.mp b).1;have B:=qR4;refine wpAny_getItem_list (items:=a.toArray) (x:=u) ⟨_,g,rfl,n,rfl⟩ f (by lia) (by simpa using j) ⟨v,H,I,l,q⟩
theorem qaZ5{xs:List α}(b:0<=i)(h1:i < xs.length):∃ v,xs[i.toNat]? = some v/\atI xs i=some v:=by
 have a:i.toNat < xs.length:=by lia
 have e:(i.toNat:Int)=i:=by lia
 refine⟨xs[i.toNat],by simp[a],?_⟩
 have:=qY3 (xs:=xs) (j:=i.toNat) (v:=xs[i.toNat]) (by simp[a])
 rw[e] at this;exact this
theorem qM8{xs:List α}(a:0<=i)(h1:i < xs.length):∃ v,v∈xs/\atI xs i=some v:=by
 obtain⟨v,h,e⟩:=qaZ5 a h1;exact⟨v,zAx h,e⟩
theorem qai0(h:H a=some (.l xs)):Bk H (.ref a)=some "list" := by
 unfold Bk;dsimp only;rw[h]
theorem qaD7(h:H a=some (.q xs)):Bk H (.ref a)=some "tuple" := by
 unfold Bk;dsimp only;rw[h]
theorem qaw6{xs:List (Key×V)}(h:H a=some (.dK xs)):Bk H (.ref a)=some "dict" := by
 unfold Bk;dsimp only;rw[h]
theorem Same.new{q:γ}{u:HO}(h:H q=none):Same H (upd H q u):=λ b o e=>by rw[qd1 (qe5 e h)];exact e
structure Df(K:No)(mg:Str->Option V')(x qual:Str)(st:Kk)(f:γ)(fd:ε)(ps:List Str):Prop where
 F:Fun K x qual st f fd
 b:Binds K fd ps []
 m:mg x=some (.ref f)
theorem dfmk{K:No}{mg:Str->Option V'}{qual:Str}{st:Kk}{f:γ}{ps:List Str}{oc:V'}{j d:Option γ}{i:Array (Option V')}{kV b e a g:V'}(l:K.lookup f=some ⟨oc,j,.func (W.fnOf x qual (qe9 st) (qd0 st) (qa3 st) .none kV b e d a g),i⟩)(c:W.codeIn K a qual=true)(k:W.keepIn K (.ref f)=true)(m:mg x=some (.ref f))(h:∀(kV b e:V')(d:Option γ)(a g:V')(us:List V'),us.length=ps.length->bindArgs (W.fnOf x qual (qe9 st) (qd0 st) (qa3 st) .none kV b e d a g) ⟨us,[]⟩=pure (ps.zip us)) :
   Df K mg x qual st f (W.fnOf x qual (qe9 st) (qd0 st) (qa3 st) .none kV b e d a g) ps:=⟨qar2 l c k,(qar2 l c k).binds h,m⟩
theorem Gw{X:Cx}{qual:Str}{st:Kk}{f:γ}{fd:ε}{ps:List Str}{k:Nat}{sp:Sp}{pos:Pos}(D:Df X.K X.mg x qual st f fd ps)(G:Dw X.prog X.w X.K X.mg X.base CX0 k f fd ps sp)(d:Room k X.A)(g:PA X (e::es) t)(h:Gl X x:=by rfl)(a:N' x:=by decide)(i:Jp (e::es) X.env=(false,eval e X.env)::Jp es X.env:=by rfl)(c:(backTo pos (Jp es X.env)).any (·.1)=false:=by rfl):PE X (.Call (.Name x p) (e::es) [] pos) (Hx sp [] (λ _=>E0) t) :=
 qav7 G d h D.m D.F.kp D.b .nil pass0 g a i c
end L2
namespace LB
open PySem PySem.Spec PyProof.Rows
theorem qR3:typeLookup (.type "list") "keys" = pure none:=by rw[typeLookup_type,builtinLookup_eq_fast];kernel_rfl
theorem qC2:typeLookup (.type "list") "__getattr__" = pure none:=by rw[typeLookup_type,builtinLookup_eq_fast];kernel_rfl
section
variable{prog:Ke}{w:Ki}{A:Kf}{E:V'->δ->Prop}{h:Heap}{g:Array GenState}{d:Drawn}{t:Nat}{u:OsState}{a:γ}{its:Array V'}{n:Nat}
theorem qC3{b:Tok}{Q:PySem.Fin->δ->Prop}(c:h.get? a=some { cls:=.type "list",data:=.seq its n })(f:A.handled=none)(i:∀ h' b e,Heap.NewAttrErr h h' e (.ref a) "keys" -> E (.ref e) ⟨h',g,d,b,u⟩) :
   Kc (Kd prog w) A (Builtin.«object.__getattribute__» ⟨[.ref a,.str "keys" b],[]⟩) Q E ⟨h,g,d,t,u⟩:=by
 have j:(⟨h,g,d,t,u⟩:δ).TypeIs (.ref a) "list" := ⟨_,c,rfl⟩
 have k:=qR3
 repeat (any_goals (first | assumption | wp_step))
 refine wpAny_raiseAttrError f ?_ (attrMsg_fits (by decide +kernel) (by decide +kernel));exact i
theorem qG9{Q:Option V'->δ->Prop}(i:h.get? a=some { cls:=.type "list",data:=.seq its n })(k:A.handled=none)(l:∀ h' f,(∀ b o,h.get? b=some o->h'.get? b=some o)->Q none ⟨h',g,d,f,u⟩) :
   Kc (Kd prog w) A (getAttr? (.ref a) "keys") Q E ⟨h,g,d,t,u⟩:=by
 have j:∀ f,(⟨h,g,d,f,u⟩:δ).TypeIs (.ref a) "list" := λ _=>⟨_,i,rfl⟩
 have m:=j t;have f1:=sub_AttributeError;have f2:=F.slot_list_getattribute.lookup;have f3:=F.slot_list_getattribute.bind (.ref a);have p:=qC2;unfold getAttr? getAttrBy? getAttrBy
 repeat (any_goals (first | assumption | wp_step))
 refine codeAny_call_builtin F.slot_list_getattribute.plain F.entry_list_ga (F.slot_list_getattribute.check _ _ _ _ _ _ _ _ (j _) (F.args_list_getattribute_2 _ _) (qC3 i k λ h' f e c=>?_));obtain⟨q,r,s⟩:=c.there;show Kc _ _ (getattributeRaised _ _ _ _ _ _ _) _ _ _;unfold getattributeRaised
 repeat (any_goals (first | assumption | wp_step))
 exact l _ _ c.keeps
end
theorem qo5:entryFor table "dict.update.loop" = some Builtin.«dict.update.loop»:=entryFor_of_tree (by kernel_rfl)
theorem qf2:plainId "dict.update.loop" = true:=by decide +kernel
section
variable{prog:Ke}{w:Ki}{K:Type}[DecidableEq K]{knd:KeyKind prog w K}{A:Kf}{R:Result->δ->Prop}
theorem qas2(V:A.handled=none){I ax d:γ}{items:Array V'}(z:ax≠I)(g:d≠I)(B:ax≠d):∀(rest:List (K×V'))(i:Nat)(v:Int)(kvs:List (K×V'))(s:δ),
   (∀(j:Nat) a,rest[j]? = some a->∃ t key,items[i+j]? = some (.ref t)/\IsTup s.heap t #[key,a.2]/\knd.is a.1 key=true/\t≠I/\t≠d)->items.size=i+rest.length ->
   s.heap.IsListIter I ax i->s.heap.IsList ax items->s.heap.DictOf knd d kvs->kvs.length+rest.length<=Jq ->
   (∀ h' C,h'.DictOf knd d (rest.foldl (λ acc a=>stored acc a.1 a.2) kvs)->(∀ b o,b≠I->b≠d->s.heap.get? b=some o->h'.get? b=some o)->R (.ok (.ret .none)) { s with heap:=h',toks:=C }) ->
   codeAny (Kd prog w) A (.builtin "dict.update.loop" ⟨[.ref d,.ref I,rawInt v,.none],[]⟩) R s:=by
 intro rest
 induction rest with
 | nil =>
   intro i v kvs s D f h x E Q F;refine codeAny_builtin qo5 ?_;rw[Around.under_plainId qf2 _];show Kc _ A.in1 (pyNext (.ref I) >>= _) _ _ s;refine E' (wpAny_pyNext_list_end V h x (by simp at f;simp[f]) λ h' S=>?_);show Kc _ _ (Builtin.Dict.addKeywords d [] >>= _) _ _ _;refine E' (G' (G' ?_));have k:h'.DictOf knd d kvs:=by
     obtain⟨o,G,H,l,r⟩:=E;exact⟨o,G,H,S d o g l,r⟩
   exact F h' s.toks k λ b o y _ e=>S b o y e
 | cons a rest W =>
   intro i v kvs s D f h x E Q F;obtain⟨t,key,X,Y,Z,h4,h5⟩:=D 0 a rfl;refine codeAny_builtin qo5 ?_;rw[Around.under_plainId qf2 _];show Kc _ A.in1 (pyNext (.ref I) >>= _) _ _ s;refine E' (wpAny_pyNext_list_item h x X λ h' m p=>?_);have J:IsTup h' t #[key,a.2]:=Y.extBut p.extBut h4;obtain⟨o,l,L,n,M⟩:=J;refine E' (Jt ?_);refine E' (wpAny_tryCatch ?_);unfold Builtin.Dict.pairItems;refine E' (wpAny_typeOf (T := "tuple") ⟨o,l,L⟩ ?_);rw[if_pos (by decide)];refine E' (wpAny_seqItems l M (G' ?_));dsimp only[Option.getD];have k:h'.DictOf knd d kvs:=by
     obtain⟨o,G,H,l,r⟩:=E;exact⟨o,G,H,p.extBut d o g l,r⟩
   simp only[zAk] at Q f;show Kc _ _ (holding [key,a.2] (dictSet d key a.2)) _ _ _;refine Jt (wpAny_dictSet_pairs (hsz:=by lia) Z k λ a0 q c=>?_);refine G' ⟨plainId_quiet qf2 _,?_⟩;have U:(stored kvs a.1 a.2).length<=kvs.length+1:=by
     unfold stored;split
     . rw[zAg];lia
     rw[zA6];simp
   refine W (i+1) (v+1) (stored kvs a.1 a.2) _ (λ j N hj=>?_) (by lia) ?_ ?_ q (by lia) λ O C P k3=>?_
   . obtain⟨t',key',g1,g2,g3,g4,g5⟩:=D (j+1) N hj
     exact⟨t',key',by rw[show i+1+j=i+(j+1) by lia];exact g1,(g2.extBut p.extBut g4).extBut c.extBut g5,g3,g4,g5⟩
   . exact m.at λ o e=>c.extBut I o (Ne.symm g) e
   . exact(x.at λ o e=>p.extBut ax o z e).at λ o e=>c.extBut ax o B e
   exact F O C P λ b o y u e=>k3 b o y u (c.extBut b o u (p.extBut b o y e))
end
end LB
namespace L2
open PySem PySem.Spec PyProof.Rows
section
variable{X:Cx}
theorem KV.fold:∀{more:List (Key×V)}{a:List (Key×V')}{kvs:List (Key×V)}{vs:List (Key×V')},KV more a->KV kvs vs->KV (qC1 kvs more) (a.foldl (λ acc b=>stored acc b.1 b.2) vs):=by
 intro more a kvs vs r;unfold KV at r
 induction r generalizing kvs vs with
 | nil=>intro q;exact q
 | @cons p q _ _ h _ ih =>
   intro c;show KV (qC1 (putK kvs p.1 p.2) _) (Lq _ (stored vs q.1 q.2) _);refine ih ?_;rw[<- h.1];exact c.put p.1 h.2
def qay3(H:Hp)(ys:List V)(kvs:List (Key×V)):Prop:=Paired (λ y (a:Key×V)=>∃ t,y=.ref t/\H t=some (.q [kV a.1,a.2])) ys kvs
def qaI6:List V->Hp->VK->Prop:=λ xs H Q=>∃ a ys kvs,xs=[.ref a]/\H a=some (.l ys)/\qay3 H ys kvs/\∀ p,H p=none->Q (.ref p) (upd H p (.dK (qC1 [] kvs)))
theorem qM7(hc:X.calm=true):CallR X (.type "dict") qaI6:=by
 intro D6 s σ H xs us Q I r h;obtain⟨a,ys,g,rfl,ha,N,q⟩:=h;obtain⟨u,rfl,ru⟩:=B6 r;cases ru;have hh:=I.ok.hd hc;obtain⟨z,f,n,rv,O,e⟩:=I.lstM ha;obtain⟨x,J,P⟩:∃ x:List (Key×V'),KV g x/\∀(j:Nat) k,x[j]? = some k->∃ t i,f[j]? = some (.ref t)/\IsTup s.heap t #[i,k.2]/\(qg2 X.prog X.w).is k.1 i=true:=by
   clear q e O n ha z
   induction N generalizing f with
   | nil=>exact⟨[],.nil,λ j k C=>by simp at C⟩
   | @cons y k ys g hy _ ih =>
     cases rv with
     | @cons _ u _ us' hu hr =>
       obtain⟨t,rfl,ht⟩:=hy;cases hu;obtain⟨_,its',rt,o,p,R,n,S⟩:=I.hok t _ ht;obtain⟨i,U,rfl,r1,r2⟩:=rt.two;obtain⟨x,J,P⟩:=ih _ hr;refine⟨(k.1,U)::x,.cons ⟨rfl,r2⟩ J,λ j V C=>?_⟩;cases j with
       | zero=>cases C;exact⟨t,i,rfl,⟨o,p,R,n,S⟩,Ia r1⟩
       | succ j=>exact P j V C
 have D:x.length=f.length:=by rw[<- O,<- Paired.length J,<- Paired.length N]
 have big:=I.big;obtain⟨c,gn,dr,W,Y⟩:=s;refine callType_codes (Q₁:=λ E s₁=>E=.ref c.objs.size/\s₁={ heap:=c.push { cls:=.type "dict",data:=.dict #[] },gens:=gn,drawn:=dr,toks:=W,os:=Y }) F.kt_called_dict (F.kt_typeCall_dict_1 _) F.entry_dict_init (kt_code_dict_new _ ⟨rfl,rfl⟩) ?_;rintro E s₁ ⟨rfl,rfl⟩;have l:(c.push { cls:=.type "dict",data:=.dict #[] }).DictOf (qg2 X.prog X.w) c.objs.size []:=Heap.DictOf.new c;have Z:(c.push { cls:=.type "dict",data:=.dict #[] }).get? a=some { cls:=.type "list",data:=.seq f.toArray n }:=zA5 _ e;have G:a < c.objs.size:=zAc e;refine⟨l.typeIs,F.args_dict_init_2 _ _,?_⟩;unfold Builtin.«dict.__init__»;refine E' ?_;unfold Builtin.Dict.selfAndRest;refine E' (wpAny_notOrdered_dict l.typeIs ?_);show Kc _ _ (pure (c.objs.size,[M' a])) _ _ _;refine G' ?_;show Kc _ _ (Builtin.Dict.updateFrom "dict.__init__" c.objs.size (.ref a) [] .none) _ _ _;unfold Builtin.Dict.updateFrom;refine E' (wpAny_typeOf (T := "list") ⟨_,Z,rfl⟩ ?_);rw[if_pos (by decide)];refine E' (LB.qG9 Z hh λ B a2 K=>?_);rw[if_pos (by rfl)];have e1:B.get? a=some { cls:=.type "list",data:=.seq f.toArray n }:=K _ _ Z;have d1:B.DictOf (qg2 X.prog X.w) c.objs.size []:=by
   obtain⟨o,L,M,p,r⟩:=l;exact⟨o,L,M,K _ _ p,r⟩
 refine E' (wpAny_rule ?_);have hlist:B.IsList a f.toArray:=⟨_,e1,rfl,n,rfl⟩
 refine E' (wpAny_pyIter_list hlist ?_);have v:c.objs.size < B.objs.size:=by
   obtain⟨o,L,M,p,r⟩:=d1;exact zAc p
 refine G' ⟨plainId_quiet LB.qf2 _,?_⟩;refine LB.qas2 (knd:=qg2 X.prog X.w) (A:=X.A.in1) hh (I:=B.objs.size) (ax:=a) (d:=c.objs.size) (items:=f.toArray) (zAt (Nat.lt_trans G v)) (zAt v) (zAt G) x 0 0 [] _ (λ j k C=>?_) (by simp[D]) ?_ ?_ ?_ ?_ λ h2 a0 d2 k2=>?_
 . obtain⟨t,i,g1,g2,g3⟩:=P j k C
   obtain⟨o,p,r⟩:=g2;have m:=zAc p;exact⟨t,i,by simpa using g1,⟨o,zA5 _ (K _ _ (zA5 _ p)),r⟩,g3,zAt (Nat.lt_trans m v),zAt m⟩
 . exact⟨_,zB1 _ rfl,rfl,rfl⟩
 . exact⟨_,zA5 _ e1,rfl,n,rfl⟩
 . obtain⟨o,L,M,p,r⟩:=d1
   exact⟨o,L,M,zA5 _ p,r⟩
 . simp only[Lc,zAb];rw[D,<- O];exact z
 refine⟨rfl,?_⟩;have hf:H c.objs.size=none:=I.hok.fresh (zA2 _);have keep:∀ b o,c.get? b=some o->h2.get? b=some o:=λ b o eb=>by
   have m:=zAc eb;exact k2 b o (zAt (Nat.lt_trans m v)) (zAt m) (zA5 _ (K _ _ (zA5 _ eb)))
 have rm:KV (qC1 [] g) (x.foldl (λ a1 k=>stored a1 k.1 k.2) []):=KV.fold J .nil;have hz:(qC1 [] g).length<=Jq:=by
   have B:=qu7 g [];have h2:=Paired.length N;simp only[Lc] at B;lia
 refine⟨.ref c.objs.size,_,I.laid (t':=a0) (o:=.dK (qC1 [] g)) keep (zA2 _) ?_,rfl,q _ hf⟩;exact⟨hz,zBz.mpr (Ne.symm (zAt big)),_,rm,d2⟩
end
section
variable{X:Cx}
theorem qX7(t:X.calm=true):CallR X (.builtin "all") (λ xs H Q=>∃(a:γ)(bs:List Bool),xs=[.ref a]/\SqL X.K H a (bs.map V.bl)/\Q (.bl (bs.all id)) H):=by
 intro D6 s L H xs E Q I r h;obtain⟨a,bs,rfl,w,q⟩:=h;obtain⟨u,rfl,k⟩:=B6 r;cases k;have y:=I.ok.hd t;obtain⟨d,l,m,F⟩:=I.list w;refine call_all_walk (wpAny_pyIter_list m.isList ?_);have n:a < s.heap.objs.size:=let ⟨o,ho,_⟩:=m.isList;zAc ho
 refine⟨s.heap.objs.size,_,_,_,_,_,λ i=>bs.getD i false,rfl,Walks.list (A:=X.A.in1) y _ a (zAt n) d.toArray,⟨⟨_,zB1 _ rfl,rfl,rfl⟩,?_⟩,?_,?_⟩
 . exact m.isList.at λ o e=>zA5 _ e
 . intro i v z Q1 E1 f g
   have f:d[i]? = some v:=by simpa using f
   have c:i < bs.length:=by
     have G:=(zA4.mp f).1;have j:=l.length;rw[zAg] at j;lia
   obtain⟨u,p,k⟩:=l.get (i:=i) (x:=.bl bs[i]) (by simp[c]);rw[f] at p;cases p;cases k;refine Jv ?_;have e:bs.getD i false=bs[i]:=by simp[Mm,c]
   have g:Q1 (bs.getD i false) z:=g;rw[e] at g;exact g
 intro J B C;have e:(Kz d.toArray.size).all (λ i=>bs.getD i false)=bs.all id:=by
   have j:=l.length;rw[zAg] at j;rw[zA3,<- j];rw[Bool.eq_iff_iff];simp only[zBh,zAs,id_eq];constructor
   . intro h b D
     obtain⟨i,c,rfl⟩:=List.mem_iff_getElem.mp D
     have:=h i c
     simpa[Mm,c] using this
   intro h i c
   have:=h bs[i] (List.getElem_mem c)
   simpa[Mm,c] using this
 rw[e];refine⟨.bl _,H,?_,rfl,q⟩;exact I.kept (t':=B) λ b o e=>C b o (by simp;exact zAt (zAc e)) (zA5 _ e)
noncomputable def qm6(ns:List Int):Nat:=(firstMet (λ i=>ns.getD i 0) ns.length).length
def rSetI(K:No):List V->Hp->VK->Prop:=λ xs H Q=>∃(a:γ)(ns:List Int),xs=[.ref a]/\SqL K H a (ns.map V.int)/\ns.length<=1000/\∀ p S,H p=none->Q (.ref p) (upd H p (.set S (qm6 ns)))
theorem qas8(k:X.calm=true):CallR X (.type "set") (rSetI X.K):=by
 intro D6 s L H x y Q I r h;obtain⟨a,f,rfl,l,z,q⟩:=h;obtain⟨u,rfl,m⟩:=B6 r;cases m;have n:=I.ok.hd k;obtain⟨c,i,p,A⟩:=I.list l;have d:c.length=f.length:=by
   have:=i.length
   rw[zAg] at this;exact this.symm
 have t:IntsAre c f:=qai7 i;refine call_set_list (items:=c.toArray) n p.isList (by simpa using t) (by rw[zA3,d];show f.length+1 < 4096;lia) λ B v j w=>?_
 have g:c.toArray.size=f.length:=by rw[zA3,d]
 rw[g] at j;refine⟨.ref s.heap.objs.size,_,I.laid (t':=v) (o:=.set _ (qm6 f)) (λ b o e=>w b o (zAc e) e) (zA2 _) j,rfl,q _ _ (I.hok.fresh (zA2 _))⟩
theorem qat0:CallR X (.builtin "len") (λ xs H Q=>∃(a:γ)(S:Int->Bool)(n:Nat),xs=[.ref a]/\H a=some (.set S n)/\Q (.int n) H):=by
 intro D6 s L H xs l Q I r h;obtain⟨a,S,n,rfl,d,q⟩:=h;obtain⟨u,rfl,e⟩:=B6 r;cases e;obtain⟨o,f,m,t,g,b,i,_,_,c,j,k⟩:=I.hok a _ d;subst k;have c:f.size < 4096:=c;exact call_len_set g b i j (by lia) ⟨.int _,H,I.tok _,⟨_,rfl⟩,q⟩
end
theorem qS0(ns:List Int):qm6 ns=ns.length↔ns.Nodup:=by
 have f:∀ i,i<=ns.length->(∀ k,k∈firstMet (λ i=>ns.getD i 0) i↔k∈ns.take i)/\((firstMet (λ i=>ns.getD i 0) i).length=i↔(ns.take i).Nodup):=by
   intro i
   induction i with
   | zero=>intro _;rw[firstMet_zero];simp
   | succ i m =>
     intro r;obtain⟨c,l⟩:=m (by lia);have n:=firstMet_length_le (λ i=>ns.getD i 0) i;have b:i < ns.length:=by lia
     have o:ns.take (i+1)=ns.take i++[ns[i]]:=by rw[zBq];simp[b]
     have p:ns.getD i 0=ns[i]:=by simp[Mm,b]
     rw[firstMet_succ,o,p];unfold step_dedup;by_cases d:ns[i]∈firstMet (λ i=>ns.getD i 0) i
     . have a:ns[i]∈ns.take i:=(c _).mp d
       have g:(firstMet (λ i=>ns.getD i 0) i).any (· == ns[i])=true:=List.any_eq_true.mpr ⟨_,d,by simp⟩;rw[if_pos g];refine⟨λ k=>?_,?_⟩
       . rw[c];simp only[zA8,zAa]
         exact⟨.inl,λ h=>h.elim id λ e=>by rw[e];exact a⟩
       constructor
       . intro h;lia
       intro h;rw[zBr] at h;exact absurd rfl (h.2.2 _ a _ (zAa.mpr rfl))
     have a:¬ ns[i]∈ns.take i:=λ h=>d ((c _).mpr h)
     have g:¬ (firstMet (λ i=>ns.getD i 0) i).any (· == ns[i])=true:=λ h=>by
       obtain⟨x,j,e⟩:=List.any_eq_true.mp h;exact d (by rw[<- (zBt.mp e)];exact j)
     rw[if_neg g];refine⟨λ k=>?_,?_⟩
     . simp only[zA8,zAa]
       rw[c]
     rw[zA6,zBr];simp only[Ll];constructor
     . intro h
       refine⟨l.mp (by lia),by simp,λ x j y q=>?_⟩;rw[zAa.mp q];exact λ e=>a (e ▸ j)
     intro h
     have:=l.mpr h.1
     lia
 have:=(f ns.length (zA2 _)).2
 rw[zAr (zA2 _)] at this;exact this
end L2
namespace LD
open PySem PySem.SeqAt MeetsSeq
open AutoSeq1 (wpAny_loadPart')
variable{b l:γ}{dd:Option γ}{n:Nat}{sl:Array (Option V')}
theorem qaE9(l b:γ)(es:Array DictEntry)(items2:Array V')(n e:Nat)(dd a:Option γ)(sl c:Array (Option V')) :
   Meets (Builtin.«dict.__eq__» ⟨[.ref l,.ref b],[]⟩) (λ _ R s=>s.heap.get? l=some { cls:=.type "dict",dict:=dd,data:=.dict es n,slots:=sl }/\s.heap.get? b=some { cls:=.type "tuple",dict:=a,data:=.seq items2 e,slots:=c }/\R (.ok (.ret .notImplemented)) s) :=
 .of_wp λ prog w A R s h=>by obtain⟨j,g,d,k,m⟩:=s;obtain⟨f,i,h⟩:=h;have f1:=Ny;wp_walk using wpAny_loadPart' f,wpAny_loadPart' i;exact⟨_,rfl,h⟩
theorem qay6(l b:γ)(es:Array DictEntry)(items2:Array V')(n e:Nat)(dd a:Option γ)(sl c:Array (Option V')) :
   Meets (Builtin.«tuple.__eq__» ⟨[.ref b,.ref l],[]⟩) (λ _ R s=>s.heap.get? l=some { cls:=.type "dict",dict:=dd,data:=.dict es n,slots:=sl }/\s.heap.get? b=some { cls:=.type "tuple",dict:=a,data:=.seq items2 e,slots:=c }/\R (.ok (.ret .notImplemented)) s) :=
 .of_wp λ prog w A R s h=>by obtain⟨j,g,d,k,m⟩:=s;obtain⟨f,i,h⟩:=h;have f1:=Ob;wp_walk using wpAny_loadPart' f,wpAny_loadPart' i;exact⟨_,rfl,h⟩
theorem qaC8(l b:γ)(es:Array DictEntry)(items2:Array V')(n e:Nat)(dd a:Option γ)(sl c:Array (Option V')) :
   Meets (Builtin.«dict.__ne__» ⟨[.ref l,.ref b],[]⟩) (λ _ R s=>s.heap.get? l=some { cls:=.type "dict",dict:=dd,data:=.dict es n,slots:=sl }/\s.heap.get? b=some { cls:=.type "tuple",dict:=a,data:=.seq items2 e,slots:=c }/\R (.ok (.ret .notImplemented)) s) :=
 .of_wp λ prog w A R s h=>by obtain⟨j,g,d,k,m⟩:=s;obtain⟨f,i,h⟩:=h;have f1:=Ny;wp_walk using wpAny_loadPart' f,wpAny_loadPart' i;exact⟨_,rfl,h⟩
theorem qay5(l b:γ)(es:Array DictEntry)(items2:Array V')(n e:Nat)(dd a:Option γ)(sl c:Array (Option V')) :
   Meets (Builtin.«tuple.__ne__» ⟨[.ref b,.ref l],[]⟩) (λ _ R s=>s.heap.get? l=some { cls:=.type "dict",dict:=dd,data:=.dict es n,slots:=sl }/\s.heap.get? b=some { cls:=.type "tuple",dict:=a,data:=.seq items2 e,slots:=c }/\R (.ok (.ret .notImplemented)) s) :=
 .of_wp λ prog w A R s h=>by obtain⟨j,g,d,k,m⟩:=s;obtain⟨f,i,h⟩:=h;have f1:=Ob;wp_walk using wpAny_loadPart' f,wpAny_loadPart' i;exact⟨_,rfl,h⟩
theorem for0{β:Type}{m:Type->Type}[Monad m](b:β)(f:Nat->β->m (ForInStep β)):forIn [:0] b f=(pure b:m β):=by
 simp
theorem same0{M:Model}{A:Kf}{E:V'->δ->Prop}{s:δ}{Q:Bool->δ->Prop}{id:String}{e:Nat}{a:Option γ}{c:Array (Option V')}(h1:(l == Jz)=false)(h2:(b == Jz)=false)(d:s.heap.get? l=some { cls:=.type "dict",dict:=dd,data:=.dict #[] n,slots:=sl })(f:s.heap.get? b=some { cls:=.type "dict",dict:=a,data:=.dict #[] e,slots:=c })(h:Q true s):Kc M A (Builtin.Dict.samePairs id l b) Q E s:=by
 unfold Builtin.Dict.samePairs Builtin.Dict.showsAll;rw[if_neg (by rw[h1];decide),if_neg (by rw[h2];decide)];refine E' (G' (E' (G' ?_)));refine E' (wpAny_dictEntries d rfl ?_);refine E' (wpAny_dictEntries f rfl ?_);rw[if_neg (by decide)];refine E' (wpAny_dictEpoch d rfl ?_);have g:(#[]:Array DictEntry).size=0:=rfl;simp only[g];rw[for0];exact E' (G' (G' h))
theorem qaP3(l b:γ)(n i:Nat)(dd a:Option γ)(sl c:Array (Option V'))(h1:(l == Jz)=false)(h2:(b == Jz)=false) :
   Meets (Builtin.«dict.__eq__» ⟨[.ref l,.ref b],[]⟩) (λ _ R s=>s.heap.get? l=some { cls:=.type "dict",dict:=dd,data:=.dict #[] n,slots:=sl }/\s.heap.get? b=some { cls:=.type "dict",dict:=a,data:=.dict #[] i,slots:=c }/\R (.ok (.ret (.bool true))) s) :=
 .of_wp λ prog w A R s h=>by
   obtain⟨j,g,d,k,m⟩:=s;obtain⟨e,f,h⟩:=h;have f1:isSubtype (.type "dict") (.type "dict")=pure true:=Og
   wp_walk using wpAny_loadPart' e,wpAny_loadPart' f,same0 h1 h2 e f
   exact⟨_,rfl,h⟩
theorem qaM0(l b:γ)(n i:Nat)(dd a:Option γ)(sl c:Array (Option V'))(h1:(l == Jz)=false)(h2:(b == Jz)=false) :
   Meets (Builtin.«dict.__ne__» ⟨[.ref l,.ref b],[]⟩) (λ _ R s=>s.heap.get? l=some { cls:=.type "dict",dict:=dd,data:=.dict #[] n,slots:=sl }/\s.heap.get? b=some { cls:=.type "dict",dict:=a,data:=.dict #[] i,slots:=c }/\R (.ok (.ret (.bool false))) s) :=
 .of_wp λ prog w A R s h=>by
   obtain⟨j,g,d,k,m⟩:=s;obtain⟨e,f,h⟩:=h;have f1:isSubtype (.type "dict") (.type "dict")=pure true:=Og
   wp_walk using wpAny_loadPart' e,wpAny_loadPart' f,same0 h1 h2 e f
   exact⟨_,rfl,h⟩
section
variable{A:Kf}{s:δ}
theorem qau6{f:Nat}{c:Option γ}{d:Array (Option V')}(h1:(l == Jz)=false)(h2:(b == Jz)=false)(e:s.heap.get? l=some { cls:=.type "dict",dict:=dd,data:=.dict #[] n,slots:=sl })(a:s.heap.get? b=some { cls:=.type "dict",dict:=c,data:=.dict #[] f,slots:=d })(g:A.units < cLine):RcAt A s (.ref l) (.ref b) true/\RcNeAt A s (.ref l) (.ref b) false :=
 ⟨λ prog w E Q h=>richCompare_meets_room (op:=.Eq) ⟨_,e,rfl⟩ ⟨_,a,rfl⟩ N3 Oh (Oc _ _) (qaP3 l b n f dd c sl d h1 h2) ⟨e,a,show Nc true≠Nf/\Q (.bool true) s from⟨(λ x=>nomatch x),h⟩⟩ g,
  λ prog w E Q h=>richCompare_meets_room (op:=.NotEq) ⟨_,e,rfl⟩ ⟨_,a,rfl⟩ N4 Oi (Oe _ _) (qaM0 l b n f dd c sl d h1 h2) ⟨e,a,show Nc false≠Nf/\Q (.bool false) s from⟨(λ x=>nomatch x),h⟩⟩ g⟩
theorem rc_dt{es:Array DictEntry}{items2:Array V'}(c:s.heap.get? l=some { cls:=.type "dict",dict:=dd,data:=.dict es n,slots:=sl })(r:s.heap.IsTuple b items2)(q:A.units < cLine):RcAt A s (.ref l) (.ref b) false/\RcNeAt A s (.ref l) (.ref b) true:=by
 obtain⟨⟨cls2,f,data2,g⟩,a,i,p,j⟩:=id r;simp only at i j;subst i j;have m:l≠b:=λ e=>by
   subst e;rw[c] at a
   have:=congrArg (λ o:Option Obj=>o.map (·.cls)) a
   simp at this
 exact⟨λ prog w E Q h=>rc_eq_decline_or (k:=false) ⟨_,c,rfl⟩ ⟨_,a,rfl⟩ (by decide) Ny N3 N5
     (λ _ d=>J' N3 ⟨_,c,rfl⟩ Oh (Oc _ _) (qaE9 l b es items2 n p dd f sl g) ⟨c,a,d⟩)
     (λ _ d=>J' N5 ⟨_,a,rfl⟩ F.entry_tuple_eq (F.args_tuple_eq_2 _ _) (qay6 l b es items2 n p dd f sl g) ⟨c,a,d⟩)
     (λ _ d=>wpAny_isSame_ref_other m c a (by simp) d) (.inr q) h,
   λ prog w E Q h=>rc_ne_decline_or (k:=false) ⟨_,c,rfl⟩ ⟨_,a,rfl⟩ (by decide) Ny N4 N6
     (λ _ d=>J' N4 ⟨_,c,rfl⟩ Oi (Oe _ _) (qaC8 l b es items2 n p dd f sl g) ⟨c,a,d⟩)
     (λ _ d=>J' N6 ⟨_,a,rfl⟩ F.entry_tuple_ne (F.args_tuple_ne_2 _ _) (qay5 l b es items2 n p dd f sl g) ⟨c,a,d⟩)
     (λ _ d=>wpAny_isSame_ref_other m c a (by simp) d) (.inr q) h⟩
end
end LD
namespace L2
open PySem PySem.Spec PyProof.Rows PySem.SeqAt
variable{A:Kf}{a:γ}{xs:List V}
inductive EqD(H:Hp):Nat->V->V->Bool->Prop
 | flat {n:Nat} {x y:V} (hx:flatV x=true) (hy:flatV y=true):EqD H n x y (eqV x y)
 | same {n:Nat} (a:γ):EqD H n (.ref a) (.ref a) true
 | lsts {n:Nat} {a b:γ} {xs ys:List V} {e:Nat->Bool} (ne:a≠b) (ha:H a=some (.l xs)) (hb:H b=some (.l ys)) (hl:xs.length=ys.length) (he:∀ i x y,xs[i]? = some x->ys[i]? = some y->EqD H n x y (e i)):EqD H (n+1) (.ref a) (.ref b) ((Kz xs.length).all e)
 | lens {n:Nat} {a b:γ} {xs ys:List V} (ne:a≠b) (ha:H a=some (.l xs)) (hb:H b=some (.l ys)) (hl:xs.length≠ys.length):EqD H (n+1) (.ref a) (.ref b) false
 | tups {n:Nat} {a b:γ} {xs ys:List V} {e:Nat->Bool} (ne:a≠b) (ha:H a=some (.q xs)) (hb:H b=some (.q ys)) (he:∀ i x y,xs[i]? = some x->ys[i]? = some y->EqD H n x y (e i)):EqD H (n+1) (.ref a) (.ref b) ((Kz (min xs.length ys.length)).all e&&xs.length == ys.length)
 | dcts {n:Nat} {a b:γ} (ne:a≠b) (ha:H a=some (.dK [])) (hb:H b=some (.dK [])):EqD H n (.ref a) (.ref b) true
inductive RcD(H:Hp):V->V->Bool->Prop
 | flat {x y:V} (hx:flatV x=true) (hy:flatV y=true):RcD H x y (eqV x y)
 | lsts {a b:γ} {xs ys:List V} {e:Nat->Bool} (ha:H a=some (.l xs)) (hb:H b=some (.l ys)) (hl:xs.length=ys.length) (he:∀ i x y,xs[i]? = some x->ys[i]? = some y->EqD H 20 x y (e i)):RcD H (.ref a) (.ref b) ((Kz xs.length).all e)
 | lens {a b:γ} {xs ys:List V} (ha:H a=some (.l xs)) (hb:H b=some (.l ys)) (hl:xs.length≠ys.length):RcD H (.ref a) (.ref b) false
 | tups {a b:γ} {xs ys:List V} {e:Nat->Bool} (ha:H a=some (.q xs)) (hb:H b=some (.q ys)) (he:∀ i x y,xs[i]? = some x->ys[i]? = some y->EqD H 20 x y (e i)):RcD H (.ref a) (.ref b) ((Kz (min xs.length ys.length)).all e&&xs.length == ys.length)
 | lt {a b:γ} {xs ys:List V} (ha:H a=some (.l xs)) (hb:H b=some (.q ys)):RcD H (.ref a) (.ref b) false
 | tl {a b:γ} {xs ys:List V} (ha:H a=some (.q xs)) (hb:H b=some (.l ys)):RcD H (.ref a) (.ref b) false
 | lf {a:γ} {xs:List V} {y:V} (ha:H a=some (.l xs)) (hy:flatV y=true):RcD H (.ref a) y false
 | fl {a:γ} {xs:List V} {y:V} (ha:H a=some (.l xs)) (hy:flatV y=true):RcD H y (.ref a) false
 | tf {a:γ} {xs:List V} {y:V} (ha:H a=some (.q xs)) (hy:flatV y=true):RcD H (.ref a) y false
 | ft {a:γ} {xs:List V} {y:V} (ha:H a=some (.q xs)) (hy:flatV y=true):RcD H y (.ref a) false
 | dcts {a b:γ} (ha:H a=some (.dK [])) (hb:H b=some (.dK [])):RcD H (.ref a) (.ref b) true
 | dt {a b:γ} {kvs:List (Key×V)} {ys:List V} (ha:H a=some (.dK kvs)) (hb:H b=some (.q ys)):RcD H (.ref a) (.ref b) false
section
variable{X:Cx}{T:List (γ×Obj)}{S:St}{H:Hp}{s:δ}
theorem Oz.lstI(I:Oz X T S H s)(h:H a=some (.l xs)):∃ its:List V',Ox xs its/\s.heap.IsList a its.toArray:=by
 obtain⟨z,its,n,r,_,e⟩:=I.lstM h;exact⟨its,r,_,e,rfl,n,rfl⟩
theorem Oz.tupI(I:Oz X T S H s)(h:H a=some (.q xs)):∃ its:List V',Ox xs its/\s.heap.IsTuple a its.toArray:=by
 obtain⟨z,its,r,o,b,c,n,d⟩:=I.hok a _ h;exact⟨its,r,o,b,c,n,d⟩
theorem Oz.dK0(I:Oz X T S H s){kvs:List (Key×V)}(h:H a=some (.dK kvs)):(a == Jz)=false/\∃ es n,s.heap.get? a=some { cls:=.type "dict",dict:=none,data:=.dict es n,slots:=#[] }/\(kvs=[]->es = #[]):=by
 obtain⟨_,i,p,j,o,es,k,m,⟨b,c,d⟩,f,_,g,_⟩:=I.hok a _ h;obtain⟨q,r,t,u⟩:=o;simp only at b c d f;subst b c d f;refine⟨i,es,k,m,λ e=>?_⟩;subst e;cases j;have e:es.toList=[]:=by
   generalize es.toList=l at g;cases g;rfl
 exact Array.toList_eq_nil_iff.mp e
theorem qw1(A:Kf):A.in1.units<=A.units+1:=zA2 _
theorem qS8{P:V->V->Nat->Prop}{e:Nat->Bool}{ys:List V}{its its2:List V'}(r:Ox xs its)(a:Ox ys its2)(k:∀ i x y u v,xs[i]? = some x->ys[i]? = some y->Ow x u->Ow y v->EqAt A s u v (e i)) :
   ∀ j (h1:j < its.toArray.size) (h2:j < its2.toArray.size),EqAt A s its.toArray[j] its2.toArray[j] (e j):=by
 intro j h1 h2;rw[zA3] at h1 h2;have h:=r.length;have l:=a.length;obtain⟨u,b,d⟩:=r.get (i:=j) (x:=xs[j]'(by lia)) (by simp);obtain⟨v,c,f⟩:=a.get (i:=j) (x:=ys[j]'(by lia)) (by simp);have g:its.toArray[j]=u:=by
   have:its[j]? = some its[j]:=by simp[h1]
   rw[this] at b;simpa using Nm b
 have e2:its2.toArray[j]=v:=by
   have:its2[j]? = some its2[j]:=by simp[h2]
   rw[this] at c;simpa using Nm c
 rw[g,e2];exact k j _ _ u v (by simp) (by simp) d f
theorem EqD.at(I:Oz X T S H s){n:Nat}{x y:V}{b:Bool}(h:EqD H n x y b):∀{A:Kf}{u v:V'},Ow x u->Ow y v->A.units+n+1 < cLine->EqAt A s u v b:=by
 induction h with
 | flat w z=>intro A u v c d _;exact qaP4 c d w z
 | same a=>intro A u v c d _;cases c;cases d;exact EqAt.same _
 | @lsts n a b xs ys e ne ha hb hl he ih =>
   intro A u v c d k;cases c;cases d;obtain⟨f,r,p⟩:=I.lstI ha;obtain⟨its2,g,j⟩:=I.lstI hb;have B:f.toArray.size=its2.toArray.size:=by rw[zA3,zA3,<- r.length,<- g.length,hl]
   have q:=EqAt.of_refs ne (RcAt.lists (A:=A) p j B (by lia) (e:=e) (qS8 (P:=λ _ _ _=>True) r g λ i x y u v l e2 o t=>ih i x y l e2 o t (by have:=qw1 A;lia)));rw[zA3,<- r.length] at q;exact q
 | @lens n a b xs ys ne ha hb hl =>
   intro A u v c d k;cases c;cases d;obtain⟨f,r,p⟩:=I.lstI ha;obtain⟨its2,g,j⟩:=I.lstI hb;exact EqAt.of_refs ne (RcAt.lists_lengths p j (by rw[zA3,zA3,<- r.length,<- g.length];simpa using hl) (by lia))
 | @tups n a b xs ys e ne ha hb he ih =>
   intro A u v c d k;cases c;cases d;obtain⟨f,r,p⟩:=I.tupI ha;obtain⟨its2,g,j⟩:=I.tupI hb;have q:=EqAt.of_refs ne (RcAt.tuples (A:=A) p j (by lia) (e:=e) (qS8 (P:=λ _ _ _=>True) r g λ i x y u v l e2 o t=>ih i x y l e2 o t (by have:=qw1 A;lia)));rw[zA3,zA3,<- r.length,<- g.length] at q;exact q
 | @dcts n a b ne ha hb =>
   intro A u v c d k;cases c;cases d;obtain⟨C,L,m,D,E⟩:=I.dK0 ha;obtain⟨F,G,M,J,K⟩:=I.dK0 hb;cases E rfl;cases K rfl;exact EqAt.of_refs ne (LD.qau6 C F D J (by lia)).1
theorem RcD.at(I:Oz X T S H s){x y:V}{b:Bool}(h:RcD H x y b){u v:V'}(d:Ow x u)(c:Ow y v)(Q:A.units+60 < cLine):RcAt A s u v b/\RcNeAt A s u v (!b):=by
 cases h with
 | flat J o =>
   cases x with
   | non =>
     cases d;cases y with
     | non=>cases c;exact⟨RcAt.none_none,RcNeAt.none_none⟩
     | bl b=>cases c;exact⟨RcAt.none_bool b,RcNeAt.none_bool b⟩
     | int b=>obtain⟨t,rfl⟩:=c;exact⟨RcAt.none_int b t,RcNeAt.none_int b t⟩
     | str b=>obtain⟨t,rfl⟩:=c;exact⟨RcAt.none_str b t,RcNeAt.none_str b t⟩
     | _=>exact absurd (show false=true from o) zAm
   | bl a =>
     cases d;cases y with
     | non=>cases c;exact⟨RcAt.bool_none a,RcNeAt.bool_none a⟩
     | bl b=>cases c;exact⟨RcAt.bool_bool a b,RcNeAt.bool_bool a b⟩
     | int b=>obtain⟨t,rfl⟩:=c;exact⟨RcAt.bool_int a b t,RcNeAt.bool_int a b t⟩
     | str b=>obtain⟨t,rfl⟩:=c;exact⟨RcAt.bool_str a b t,RcNeAt.bool_str a b t⟩
     | _=>exact absurd (show false=true from o) zAm
   | int a =>
     obtain⟨j,rfl⟩:=d;cases y with
     | non=>cases c;exact⟨RcAt.int_none a j,RcNeAt.int_none a j⟩
     | bl b=>cases c;exact⟨RcAt.int_bool a j b,RcNeAt.int_bool a j b⟩
     | int b=>obtain⟨t,rfl⟩:=c;exact⟨RcAt.int_int a j b t,RcNeAt.int_int a j b t⟩
     | str b=>obtain⟨t,rfl⟩:=c;exact⟨RcAt.int_str a j b t,RcNeAt.int_str a j b t⟩
     | _=>exact absurd (show false=true from o) zAm
   | str a =>
     obtain⟨j,rfl⟩:=d;cases y with
     | non=>cases c;exact⟨RcAt.str_none a j,RcNeAt.str_none a j⟩
     | bl b=>cases c;exact⟨RcAt.str_bool a j b,RcNeAt.str_bool a j b⟩
     | int b=>obtain⟨t,rfl⟩:=c;exact⟨RcAt.str_int a j b t,RcNeAt.str_int a j b t⟩
     | str b=>obtain⟨t,rfl⟩:=c;exact⟨RcAt.str_str a j b t,RcNeAt.str_str a j b t⟩
     | _=>exact absurd (show false=true from o) zAm
   | _=>exact absurd (show false=true from J) zAm
 | @lsts a b xs ys e f n hl he =>
   cases d;cases c;obtain⟨g,r,p⟩:=I.lstI f;obtain⟨its2,q,l⟩:=I.lstI n;have w:g.toArray.size=its2.toArray.size:=by rw[zA3,zA3,<- r.length,<- q.length,hl]
   have k:=qS8 (P:=λ _ _ _=>True) (e:=e) (A:=A.in1) (s:=s) r q λ i x y u v B e2 C D=>(he i x y B e2).at I C D (by have:=qw1 A;lia)
   have z:=RcAt.lists p l w (by lia) k;have q2:=RcNeAt.lists p l w (by lia) k;rw[zA3,<- r.length] at z q2;exact⟨z,q2⟩
 | @lens a b xs ys f n hl =>
   cases d;cases c;obtain⟨g,r,p⟩:=I.lstI f;obtain⟨its2,q,l⟩:=I.lstI n;have w:(g.toArray.size != its2.toArray.size)=true:=by rw[zA3,zA3,<- r.length,<- q.length];simpa using hl
   exact⟨RcAt.lists_lengths p l w (by lia),RcNeAt.lists_lengths p l w (by lia)⟩
 | @tups a b xs ys e f n he =>
   cases d;cases c;obtain⟨g,r,p⟩:=I.tupI f;obtain⟨its2,q,l⟩:=I.tupI n;have k:=qS8 (P:=λ _ _ _=>True) (e:=e) (A:=A.in1) (s:=s) r q λ i x y u v B e2 C D=>(he i x y B e2).at I C D (by have:=qw1 A;lia)
   have z:=RcAt.tuples p l (by lia) k;have q2:=RcNeAt.tuples p l (by lia) k;rw[zA3,zA3,<- r.length,<- q.length] at z q2;exact⟨z,q2⟩
 | lt f n =>
   cases d;cases c;obtain⟨g,r,p⟩:=I.lstI f;obtain⟨its2,q,l⟩:=I.tupI n;exact⟨RcAt.list_tuple p l (by lia),RcNeAt.list_tuple p l (by lia)⟩
 | tl f n =>
   cases d;cases c;obtain⟨g,r,p⟩:=I.tupI f;obtain⟨its2,q,l⟩:=I.lstI n;exact⟨RcAt.tuple_list p l (by lia),RcNeAt.tuple_list p l (by lia)⟩
 | lf f o =>
   cases d;obtain⟨g,r,p⟩:=I.lstI f;cases y with
   | non=>cases c;exact⟨RcAt.list_none p (by lia),RcNeAt.list_none p (by lia)⟩
   | bl b=>cases c;exact⟨RcAt.list_bool b p (by lia),RcNeAt.list_bool b p (by lia)⟩
   | int b=>obtain⟨t,rfl⟩:=c;exact⟨RcAt.list_int b t p (by lia),RcNeAt.list_int b t p (by lia)⟩
   | str b=>obtain⟨t,rfl⟩:=c;exact⟨RcAt.list_str b t p (by lia),RcNeAt.list_str b t p (by lia)⟩
   | _=>exact absurd (show false=true from o) zAm
 | fl f o =>
   cases c;obtain⟨g,r,p⟩:=I.lstI f;cases x with
   | non=>cases d;exact⟨RcAt.none_list p (by lia),RcNeAt.none_list p (by lia)⟩
   | bl b=>cases d;exact⟨RcAt.bool_list b p (by lia),RcNeAt.bool_list b p (by lia)⟩
   | int b=>obtain⟨t,rfl⟩:=d;exact⟨RcAt.int_list b t p (by lia),RcNeAt.int_list b t p (by lia)⟩
   | str b=>obtain⟨t,rfl⟩:=d;exact⟨RcAt.str_list b t p (by lia),RcNeAt.str_list b t p (by lia)⟩
   | _=>exact absurd (show false=true from o) zAm
 | tf f o =>
   cases d;obtain⟨g,r,p⟩:=I.tupI f;cases y with
   | non=>cases c;exact⟨RcAt.tuple_none p (by lia),RcNeAt.tuple_none p (by lia)⟩
   | bl b=>cases c;exact⟨RcAt.tuple_bool b p (by lia),RcNeAt.tuple_bool b p (by lia)⟩
   | int b=>obtain⟨t,rfl⟩:=c;exact⟨RcAt.tuple_int b t p (by lia),RcNeAt.tuple_int b t p (by lia)⟩
   | str b=>obtain⟨t,rfl⟩:=c;exact⟨RcAt.tuple_str b t p (by lia),RcNeAt.tuple_str b t p (by lia)⟩
   | _=>exact absurd (show false=true from o) zAm
 | ft f o =>
   cases c;obtain⟨g,r,p⟩:=I.tupI f;cases x with
   | non=>cases d;exact⟨RcAt.none_tuple p (by lia),RcNeAt.none_tuple p (by lia)⟩
   | bl b=>cases d;exact⟨RcAt.bool_tuple b p (by lia),RcNeAt.bool_tuple b p (by lia)⟩
   | int b=>obtain⟨t,rfl⟩:=d;exact⟨RcAt.int_tuple b t p (by lia),RcNeAt.int_tuple b t p (by lia)⟩
   | str b=>obtain⟨t,rfl⟩:=d;exact⟨RcAt.str_tuple b t p (by lia),RcNeAt.str_tuple b t p (by lia)⟩
   | _=>exact absurd (show false=true from o) zAm
 | dcts f n =>
   cases d;cases c;obtain⟨F,K,m,E,G⟩:=I.dK0 f;obtain⟨L,M,R,N,O⟩:=I.dK0 n;cases G rfl;cases O rfl;exact LD.qau6 F L E N (by lia)
 | dt f n =>
   cases d;cases c;obtain⟨F,K,m,E,G⟩:=I.dK0 f;obtain⟨its2,q,l⟩:=I.tupI n;exact LD.rc_dt E l (by lia)
end
def rEqD:R2:=λ x y H Q=>∃ b,RcD H x y b/\Q (.bl b) H
def rNeD:R2:=λ x y H Q=>∃ b,RcD H x y b/\Q (.bl (!b)) H
theorem qn6{X:Cx}(e:X.A.units+64 < cLine):OpR X (Jr .Eq) rEqD:=by
 intro D6 s f H x y v u Q I a c ⟨b,d,q⟩;exact(d.at I a c (A:=X.A) (by lia)).1 X.prog X.w X.xe _ ⟨.bl b,H,I,rfl,q⟩
theorem qn5{X:Cx}(e:X.A.units+64 < cLine):OpR X (Jr .NotEq) rNeD:=by
 intro D6 s f H x y v u Q I a c ⟨b,d,q⟩;exact(d.at I a c (A:=X.A) (by lia)).2 X.prog X.w X.xe _ ⟨.bl (!b),H,I,rfl,q⟩
theorem qA2:∀{x:V},flatV x=true->eqV x x=true:=by
 intro x h;cases x with
 | non=>rfl
 | bl b=>exact zBd b
 | int b=>exact zBd b
 | str b=>exact zBd b
 | _=>exact absurd (show false=true from h) zAm
theorem Room.u64{k:Nat}(a:Room k A):A.units+64 < cLine:=a.units
end L2
namespace L2
open PySem PySem.Spec PyProof.Rows
variable{vs:Array V'}
structure Cl(K:No)(mg:Str->Option V')(x:Str)(C:γ):Prop where
 cl:Cls K C
 m:mg x=some (.ref C)
structure Md(K:No)(C:γ)(m qual:Str)(st:Kk)(f:γ)(fd:ε)(ps:List Str):Prop where
 F:Fun K m qual st f fd
 b:Binds K fd ps []
 me:Hw K C m f
 isf:W.isFn K (.ref f)=true
theorem mdmk{K:No}{C:γ}{m qual:Str}{st:Kk}{f:γ}{ps:List Str}{oc:V'}{o e:Option γ}{n:Array (Option V')}{kV d g b j:V'}(l:K.lookup f=some ⟨oc,o,.func (W.fnOf m qual (qe9 st) (qd0 st) (qa3 st) .none kV d g e b j),n⟩)(c:W.codeIn K b qual=true)(k:W.keepIn K (.ref f)=true)(a:W.findIn K (.ref C) m=some (some (.ref f)))(i:W.isFn K (.ref f)=true)(h:∀(kV d g:V')(e:Option γ)(b j:V')(us:List V'),us.length=ps.length->bindArgs (W.fnOf m qual (qe9 st) (qd0 st) (qa3 st) .none kV d g e b j) ⟨us,[]⟩=pure (ps.zip us)) :
   Md K C m qual st f (W.fnOf m qual (qe9 st) (qd0 st) (qa3 st) .none kV d g e b j) ps:=⟨qar2 l c k,(qar2 l c k).binds h,⟨a,i,k⟩,i⟩
section
variable{M:Model}{A:Kf}{E:V'->δ->Prop}{s:δ}
structure Left(h h':Heap)(f:List γ)(e T:γ)(oe:Obj)(old:Option V'):Prop where
 new:h.objs.size<=T
 keep:∀ b o,h.get? b=some o->b≠e->old≠some (.ref b)->b∉f->h'.get? b=some o
 slot:∀ b o,h.get? b=some o->b∈f->∃ sl,h'.get? b=some { o with slots:=sl }
 there:∀ b o,h.get? b=some o->∃ o',h'.get? b=some o'
 exc:∃ vs oT ts,h'.get? e=some { oe with data:=.fields vs }/\1 < vs.size/\vs[1]? = some (.ref T)/\T≠e/\h'.get? T=some oT/\oT.data=.fields ts/\ts[3]? = some .none
theorem qaw3{o:Obj}(e:o.data=.fields vs)(g:Array V'->Array V'):Obj.mapFields g o={ o with data:=.fields (g vs) }:=by
 obtain⟨a,b,c,d⟩:=o;cases e;rfl
theorem qM2{base:Heap}{env:Env}{outer:List Env}{L e:γ}{oe:Obj}{c:V'}{P:Bool}{old:Option V'}{Q:Unit->δ->Prop}(m:A.frames=some (env::outer))(B:s.heap.FunFrames base (env::outer))(R:env.frame=some L)(l:s.heap.get? e=some oe)(g:oe.data=.fields vs)(hsz:1 < vs.size)(h:∀ h' T,Left s.heap h' ((env::outer).filterMap (·.frame)) e T oe old->Q () { s with heap:=h' }) :
   Kc M A (do let a <- frameOf env;let pl <- entryPlaceOf L P;let b <- EntryCells.newEntry c a .none (rawInt L) .none pl;setField (.ref e) 1 b)
     (λ _ s'=>Kc M A (setFlight (.ref e) none) Q E s') E s:=by
 have i:∀ b o n,s.heap.get? b=some o->o.data=.fields n->b∉(env::outer).filterMap (·.frame):=λ b o n p q2 q=>by
   obtain⟨_,W,C,S⟩:=B.mem q;rw[p] at C;cases C;exact S n q2
 refine E' (wpAny_frameOf_fun m B R λ g1 p=>?_);refine E' (wpAny_entryPlaceOf λ pl r=>?_);unfold EntryCells.newEntry newFields;refine E' (wpAny_newObj_type ?_ (r.sizeOk5 _ _ _ _ _));obtain⟨U,D,F⟩:=p;have G:g1.get? e=some oe:=(D e (i e oe vs l g)).trans l;generalize j:({ cls:=.type "traceback",dict:=none,data:=.fields ([c,.ref L,.none,rawInt L,.none]++(if pl.isEmpty then Ky 6 Na else pl)).toArray }:Obj)=oT;have k:∃ t,oT.data=.fields t/\3 < t.size:=by
   refine⟨([c,.ref L,.none,rawInt L,.none]++(if pl.isEmpty then Ky 6 Na else pl)).toArray,by rw[<- j],?_⟩;simp only[zA3,zA6,zAk,Lc];lia
 have nf:oT.isFreed=false:=by rw[<- j];rfl
 obtain⟨t,k,H⟩:=k;have e2:=zA5 (h:=g1) oT G;refine wpAny_setField e2 g hsz ?_;have u:g1.objs.size≠e:=Nat.ne_of_gt (zAc G);have I:=Obj.data_mapFields g (·.setIfInBounds 1 (M' g1.objs.size));have J:=Heap.get?_update_self (Obj.mapFields (·.setIfInBounds 1 (M' g1.objs.size))) e2 (Obj.isFreed_of_fields I);have K:((g1.push oT).update e (Obj.mapFields (·.setIfInBounds 1 (M' g1.objs.size)))).get? g1.objs.size=some oT:=(zBj _ _ (Ne.symm u)).trans (zB1 g1 nf);unfold setFlight;refine E' (wpAny_field J I (x:=.ref g1.objs.size) (by simp[hsz]) ?_);rw[if_pos (show (M' g1.objs.size != Na)=true from by simp)];refine wpAny_setField K k H (h _ g1.objs.size ?_);have keep:∀ b o,b≠e->g1.get? b=some o->(((g1.push oT).update e (Obj.mapFields (·.setIfInBounds 1 (M' g1.objs.size)))).update g1.objs.size (Obj.mapFields (·.setIfInBounds 3 ((none:Option γ).elim Na λ f=>rawInt f)))).get? b=some o:=λ b o v w=>by
   rw[zBj _ _ (Nat.ne_of_gt (zAc w)),zBj _ _ (Ne.symm v)];exact zA5 _ w
 have N:(((g1.push oT).update e (Obj.mapFields (·.setIfInBounds 1 (M' g1.objs.size)))).update g1.objs.size (Obj.mapFields (·.setIfInBounds 3 ((none:Option γ).elim Na λ f=>rawInt f)))).get? e=some { oe with data:=.fields (vs.setIfInBounds 1 (M' g1.objs.size)) }:=by
   rw[zBj _ _ u,J,qaw3 g]
 refine⟨zCh U.symm,λ b o d v w V=>keep b o v ((D b V).trans d),λ b o d q=>?_,λ b o d=>?_,_,_,_,N,by simpa using hsz,by simp[hsz],u,Heap.get?_update_self _ K (Obj.isFreed_of_fields (Obj.data_mapFields k _)),Obj.data_mapFields k _,by simp[H]⟩
 . obtain⟨O,y⟩:=F b o d
   refine⟨O,keep b _ (λ z=>?_) y⟩;subst z;rw[l] at d;cases d;exact i b _ vs l g q
 obtain⟨O,y⟩:=F b o d;by_cases z:b=e
 . subst z;exact⟨_,N⟩
 exact⟨_,keep b _ z y⟩
theorem qah7{base:Heap}{env:Env}{outer:List Env}{L e:γ}{oe:Obj}{Q:Unit->δ->Prop}(f:A.frames=some (env::outer))(r:s.heap.FunFrames base (env::outer))(t:env.frame=some L)(i:s.heap.get? e=some oe)(j:oe.data=.fields vs)(hsz:1 < vs.size)(C:vs[1]? = some .none∨∃ T k c,vs[1]? = some (.ref T)/\T≠e/\s.heap.get? T=some k/\k.data=.fields c/\c[3]? = some .none)(h:∀ h' T,Left s.heap h' ((env::outer).filterMap (·.frame)) e T oe vs[1]? -> Q () { s with heap:=h' }) :
   Kc M A (noteFrame (.ref e) env) (λ _ s'=>Kc M A (setFlight (.ref e) none) Q E s') E s:=by
 unfold noteFrame;simp only[t];rcases C with l | ⟨T,k,c,l,u,g,d,y⟩
 . refine E' (wpAny_field i j l ?_)
   rw[if_neg (by decide)];exact qM2 (old:=vs[1]?) f r t i j hsz h
 refine E' (wpAny_field i j l ?_);rw[if_pos (show (M' T != Na)=true from by simp)];refine E' (wpAny_field g d y ?_);rw[if_neg (show ¬ ((Na == rawInt L)=true) from by simp[rawInt])];have D:=(Array.getElem?_eq_some_iff.mp y).1;refine E' (wpAny_setField g d D ?_);have other:∀ b,b≠T->(s.heap.update T (Obj.mapFields (·.setIfInBounds 3 Na))).get? b=s.heap.get? b:=λ b a=>zBj _ _ (Ne.symm a)
 have F:∀ b∈(env::outer).filterMap (·.frame),b≠T:=λ b m z=>by
   obtain⟨_,N,n,p⟩:=r.mem m;subst z;rw[g] at n;cases n;exact p c d
 have G:(s.heap.update T (Obj.mapFields (·.setIfInBounds 3 Na))).get? T=some { k with data:=.fields (c.setIfInBounds 3 .none) }:=by
   rw[Heap.get?_update_self _ g (Obj.isFreed_of_fields (Obj.data_mapFields d _)),qaw3 d]
 have w:(s.heap.update T (Obj.mapFields (·.setIfInBounds 3 Na))).FunFrames base (env::outer):=r.of_keeps λ b o a x=>⟨o,(other b λ z=>by subst z;rw[g] at a;cases a;exact x c d).trans a,rfl⟩
 refine qM2 (s:={ s with heap:=s.heap.update T (Obj.mapFields (·.setIfInBounds 3 Na)) }) (old:=vs[1]?) f w t ((other e (Ne.symm u)).trans i) j hsz λ h' T' q=>h h' T' ?_
 obtain⟨H,q2,n,p,I⟩:=q;refine⟨by rwa[show (s.heap.update T (Obj.mapFields (·.setIfInBounds 3 Na))).objs.size=s.heap.objs.size from Heap.size_update _ _ _] at H,λ b o a J B K=>?_,λ b o a m=>n b o ((other b (F b m)).trans a) m,λ b o a=>?_,I⟩
 . exact q2 b o ((other b λ z=>B (by rw[l,z])).trans a) J B K
 by_cases z:b=T
 . subst z;exact p _ _ G
 exact p b o ((other b z).trans a)
end
end L2
namespace L2
open PySem PySem.Spec PyProof.Rows
def Ic(e C:γ)(a:Option γ)(b:Bool)(h:Heap):Prop:=∃ oe vs,h.get? e=some oe/\oe.cls=.ref C/\oe.dict=a/\oe.data=.fields vs/\1 < vs.size/\(b=true->vs[1]? = some .none)
noncomputable abbrev Ie(e C:γ)(a:Option γ)(b:Bool):HO:=.ext (Ic e C a b)
def xdIs(d:γ)(fs:List (Str×V))(h:Heap):Prop:=∃ mA,h.Ns1 d mA/\(∀ f,RelO (fs.lookup f) (mA f))/\PySem.Within mA (fs.map (·.1))/\fs.length<=1000
abbrev XD(d:γ)(fs:List (Str×V)):HO:=.ext (xdIs d fs)
section
variable{P:Ke}{w:Ki}{H:Hp}{h:Heap}
theorem qaX5{e C:γ}{d:Option γ}{f:Bool}(q:Ic e C d f h):ObjOk P w H h e (Ie e C d f) :=
 ⟨q,let ⟨c,_,a,_⟩:=q;⟨c,a⟩,λ i j ⟨c,g,a,b⟩ k=>⟨c,g,k _ a,b⟩⟩
theorem qaX6{e C:γ}{a:Option γ}{b:Bool}(c:HOk P w H h)(q:H e=some (Ie e C a b)):Ic e C a b h:=(c e _ q).1
end
structure Fly(n:Nat)(H:Hp)(h:Heap)(a:γ):Prop where
 ge:n<=a
 tr:∃ C od,H a=some (Ie a C od false)
 ob:∃ oe vs,h.get? a=some oe/\oe.data=.fields vs/\1 < vs.size/\(vs[1]? = some .none∨∃ T oT ts,vs[1]? = some (.ref T)/\n<=T/\H T=none/\T≠a/\h.get? T=some oT/\oT.data=.fields ts/\ts[3]? = some .none)
theorem Fly.mono{m n:Nat}{H:Hp}{h:Heap}{a:γ}(F:Fly n H h a)(l:m<=n):Fly m H h a:=by
 obtain⟨b,c,d,e,f,g⟩:=F.ob;refine⟨zAj l F.ge,F.tr,b,c,d,e,f,?_⟩;rcases g with z | ⟨T,i,j,k,o,z⟩
 . exact .inl z
 exact .inr ⟨T,i,j,k,zAj l o,z⟩
def CX1(P:Ke)(w:Ki):CXT:=λ outer H s E e s'=>∃ a H',e=.ref a/\s'.os=s.os/\AllBare s'.gens/\Un (frs outer) [] H H' s.heap s'.heap/\HOk P w H' s'.heap/\Fly s.heap.objs.size H' s'.heap a/\E e none H'
structure Old(X:Cx)(D6:List (γ×Obj))(n:Nat):Prop where
 st:X.s₀.heap.objs.size<=n
 loc:X.env.locals < n
 cell:∀ x c,X.env.cells.lookup x=some c->c < n
 pin:∀ p∈X.pn++D6,p.1 < n
theorem Oz.old{X:Cx}{D6:List (γ×Obj)}{b:St}{H:Hp}{s:δ}(I:Oz X D6 b H s):Old X D6 s.heap.objs.size :=
 ⟨I.sz,I.lt,λ x c e=>let ⟨_,_,z,_⟩:=I.cell x c e;zAc z,λ p a=>zAc (I.pin p a).1⟩
noncomputable def F4:Option V'->List γ
 | some (.ref b)=>[b]
 | _=>[]
section
variable{X:Cx}{D6:List (γ×Obj)}{σ:St}{H:Hp}{s:δ}{a T:γ}{n:Nat}{h':Heap}{oe:Obj}{vs:Array V'}
theorem Oz.left(I:Oz X D6 σ H s)(F:Fly n H s.heap a)(O:Old X D6 n)(m:s.heap.get? a=some oe)(N:oe.data=.fields vs)(L:Left s.heap h' (frs X.stack) a T oe vs[1]?) :
   Oz X D6 σ H { s with heap:=h' }/\Fly n H h' a:=by
 obtain⟨C,P,i⟩:=F.tr;obtain⟨t,y,D,q2,q3,E⟩:=F.ob;rw[m] at D;cases D;rw[N] at q2;cases q2;obtain⟨G,Q,R,J,e2,S,V,W,Y,Z⟩:=L.exc;have j:∀ b,vs[1]? = some (.ref b)->n<=b/\H b=none/\b≠a:=λ b z=>by
   rcases E with q | ⟨T',_,_,q,r1,r2,r3,_⟩
   . rw[q] at z;cases z
   rw[q] at z;cases z;exact⟨r1,r2,r3⟩
 have A:HOk X.prog X.w H h':=λ b u f=>by
   by_cases z:b=a
   . subst z
     rw[i] at f;cases f;obtain⟨t,y,p1,p2,p3,p4,p5,p6⟩:=qaX6 I.hok i;rw[m] at p1;cases p1;exact qaX5 ⟨_,G,J,p2,p3,rfl,e2,λ z=>nomatch z⟩
   have K:∀ c,H c≠none->c∉frs X.stack:=λ c d hm=>d (I.stkFree c hm)
   refine(I.hok b u f).stay (λ c v d r=>L.keep c v r ?_ (λ h=>?_) ?_) (λ _ z=>z) λ _ _ z=>z
   . rcases d with rfl | d
     . exact z
     intro h;rw[h,i] at d;cases d
   . have:=(j c h).2.1
     rcases d with rfl | d
     . rw[this] at f;cases f
     rw[this] at d;cases d
   rcases d with rfl | d
   . exact K c (by rw[f];exact λ z=>nomatch z)
   exact K c (by rw[d];exact λ z=>nomatch z)
 refine⟨?_,F.ge,⟨C,P,i⟩,_,G,J,rfl,e2,.inr ⟨T,Q,R,S,zAj (zAj F.ge (zBa (zAc m))) L.new,I.hok.fresh L.new,V,W,Y,Z⟩⟩;have k:∀ b,b∈F4 vs[1]? ↔ vs[1]? = some (.ref b):=λ b=>by
   rcases E with q | ⟨T',_,_,q,_⟩
   . rw[q];simp[F4]
   rw[q];simp[F4,eq_comm]
 have U:Un (frs X.stack) (F4 vs[1]?) H H s.heap h':=by
   refine⟨λ b o z l B M=>L.keep b o z (λ h=>?_) (λ h=>M ((k b).mpr h)) B,λ b o z l B M=>L.slot b o z B,λ _ _ _ l _=>l,λ b o z _=>L.there b o z,λ _ _ z=>z,λ _ _ _ z=>z,λ b ps z=>⟨#[],by rw[z];simp⟩⟩;rw[h,i] at l;cases l
 exact I.call (g':=s.gens) (t':=s.toks) (d':=s.drawn) (ch:=F4 vs[1]?) U A I.bare λ b f=>by
   have g:=(j b ((k b).mp f)).1;refine⟨.inr (zAj O.st g),Nat.ne_of_gt (zAi O.loc g),λ x c e=>zAt (zAi (O.cell x c e) g),λ p hp=>zAt (zAi (O.pin p hp) g)⟩
end
def Lands(X:Cx)(E:St->XK):Prop:=∀(D6:List (γ×Obj))(b:St)(H:Hp)(s:δ)(a:γ)(n:Nat),Oz X D6 b H s->Fly n H s.heap a->Old X D6 n->E b (.ref a) none H->X.xe (.ref a) s
theorem Lands.passes{X:Cx}{E:St->XK}(h:Lands X E):qN1 (CX1 X.prog X.w) X E:=λ D6 g H s e b I q=>by
 obtain⟨a,H',rfl,c,d,u,f,F,q⟩:=q;exact h D6 g H' b a _ (I.call' (ch:=[]) c u f d λ _ z=>nomatch z) F I.old q
theorem qa1{cm:Bool}{P:Ke}{w:Ki}{K:No}{mg:Str->Option V'}{base:Heap}{N:List Str}{qual:Str}{scope:Scope}{f:γ}{cd:V'}{A:Kf}{outer:List Env}{s₀:δ}{H₀:Hp}{E:XK} :
   Lands (Dx cm (CX1 P w) P w K mg base N qual scope f cd A outer s₀ H₀ E) (λ _=>E):=λ D6 t H s a n I F O q=>by
 obtain⟨p,b,c,d,e,g⟩:=id F.ob;show Kc _ _ (leaving _ _) _ _ s;unfold leaving;refine E' (qah7 (base:=base) (vs:=b) I.ok.frames I.stack rfl c d e ?_ λ r T L=>?_)
 . rcases g with z | ⟨T,h,i,j,_,_,k,l,m,o⟩
   . exact .inl z
   exact .inr ⟨T,h,i,j,k,l,m,o⟩
 obtain⟨J,F'⟩:=I.left (T:=T) F O c d L;exact⟨a,H,rfl,J.os,J.bare,J.base,J.hok,F'.mono O.st,q⟩
end L2
namespace L2
open PySem PySem.Spec PyProof.Rows PySem.SeqAt
open PySem.AutoSeq1 (wpAny_loadPart')
theorem Fun.okX{P:Ke}{w:Ki}{K:No}{mg:Str->Option V'}{base:Heap}{x qual:Str}{st:Kk}{f:γ}{fd:ε}{N ps:List Str}{k:Nat}{sp:Sp}(F:Fun K x qual st f fd)(S:qa9 N ps (qa3 st))(len:∀ vs H Q E,sp vs H Q E->vs.length=ps.length)(hbody:∀(a:V')(A:Kf)(outer:List Env)(s:δ)(H:Hp)(vs:List V)(Q:VK)(E:XK),Room k (A.deeper (envOfC qual (qa3 st) s.heap.objs.size f a))->sp vs H Q E ->
     ∃ t,PSs (Dx true (CX1 P w) P w K mg base N qual (qa3 st) f a A outer s H E) (qd0 st) t/\t { nx:=λ _ H'=>Q .non H',rt:=Q } (start N vs) H):Dw P w K mg base (CX1 P w) (k+1) f fd ps sp:=by
 obtain⟨i,j,kV,d,l,m,a,n,e,rfl,g,b⟩:=F.ex;exact Hy g b S len λ A outer s H vs Q E h c=>hbody a A outer s H vs Q E h c
end L2
namespace L2
open PySem PySem.Spec PyProof.Rows
section
variable{X:Cx}{A:List (γ×Obj)}{y:St}{H:Hp}{s:δ}{h':Heap}
theorem Oz.turnedL{t':Nat}{ch:List γ}(I:Oz X A y H s)(k:∀ b o,b∉ch->s.heap.get? b=some o->h'.get? b=some o)(f:∀ b∈ch,Ft X A H b):Oz X A y H { s with heap:=h',toks:=t' }:=by
 have d:∀ b u,H b=some u->b∉ch:=λ b u e z=>by rw[(f b z).1] at e;cases e
 refine I.step (g':=s.gens) (d':=s.drawn) (ch:=ch) (λ b g=>?_) (λ b o _ _ a e _=>k b o a e) (λ b o _ _ a e _=>⟨o.slots,k b o a e⟩) (λ _ _ _ _ n=>n)
   (λ b o a e=>⟨o,k b o a e⟩) (λ _ _ e=>e) (λ _ _ _ e=>e) (λ b w e=>⟨#[],by rw[e];simp⟩) (λ m h=>?_) (λ b u e=>?_) I.bare
 . obtain⟨x,f1,f2,f3,i,j⟩:=f b g
   exact⟨f3,f1,i,j⟩
 . obtain⟨o,l,p,t,r⟩:=h
   exact⟨o,l,p,k _ o (λ z=>(f _ z).2.1 rfl) t,r⟩
 refine(I.hok b u e).stay (λ c v a q=>k c v ?_ q) (λ _ q=>q) λ _ _ q=>q
 rcases a with z | z
 . rw[z];exact d b u e
 exact d c _ z
end
def Ite(K:No)(a:γ):It :=
 ⟨λ i H=>∃ xs x,SqL K H a xs/\xs[i]? = some x,λ i H x H'=>∃ t y,x=.ref t/\H t=none/\H'=upd H t (.q [.int (i:Int),y])/\∀ xs,SqL K H a xs->xs[i]? = some y,λ i H=>∃ xs,SqL K H a xs/\xs.length<=i⟩
theorem qam8{P:Ke}{w:Ki}{K:No}{elts:List Kj}{x1:Nat}{pos:Pos}(a it e:γ)(m:e≠it):Ht P w K (.Tuple elts x1 pos) (Ite K a) [e,it] e (λ i h=>(∃ old,IsEnum h e it (i:Nat) old)/\h.IsListIter it a i) where
 mem:=by simp
 obj:=λ i h d b c=>by
   obtain⟨⟨old,f⟩,o,ho,B,hd⟩:=d;rcases zAo.mp c with rfl | c
   . exact⟨_,f,λ v z=>by
       have z':Data.fields _=Data.cell v:=z;cases z'⟩
   rw[zAa.mp c];exact⟨o,ho,λ v z=>by rw[hd] at z;cases z⟩
 keep:=λ i h Y d k=>by
   obtain⟨⟨old,f⟩,d⟩:=d;exact⟨⟨old,k e (by simp) _ f⟩,d.at λ o q=>k it (by simp) o q⟩
 item:=by
   intro X C D F B i D6 s W H E I n d G;subst C D F;obtain⟨xs,x,A,J⟩:=G;obtain⟨⟨old,f⟩,g⟩:=d;obtain⟨L,M,p,hz⟩:=I.list A;obtain⟨u,hu,ru⟩:=M.get J;have N:H s.heap.objs.size=none:=I.hok.fresh (zA2 _);obtain⟨oi,O,_⟩:=id g;have r:e < s.heap.objs.size:=zAc f;have lt2:it < s.heap.objs.size:=zAc O;refine wpAny_pyNext_enum_item f g p.isList (x:=u) (by simpa using hu) m λ Z Q t R a0 S=>?_
   refine⟨_,rfl,wpAny_letOwnedTupleGo_enum (s:={ s with heap:=Z,toks:=s.toks+1 }) Q λ T U j=>?_⟩
   replace j:Heap.SameBut e Z T:=j
   have I0:Oz X D6 W (upd H s.heap.objs.size (.q [.int (i:Int),x])) { s with heap:=s.heap.push { cls:=.type "tuple",data:=.seq #[.int i s.toks,u] },toks:=s.toks+1 } :=
     I.laid (λ b o q=>zA5 _ q) (zA2 _) ⟨by show 2<=Jq;decide,[.int i s.toks,u],.cons ⟨_,rfl⟩ (.cons ru .nil),⟨_,zB1 _ rfl,rfl,_,rfl⟩⟩
   have I2:Oz X D6 W (upd H s.heap.objs.size (.q [.int (i:Int),x])) { s with heap:=T,toks:=s.toks+1 }:=by
     refine Oz.turnedL (s:={ s with heap:=s.heap.push { cls:=.type "tuple",data:=.seq #[.int i s.toks,u] },toks:=s.toks+1 }) (h':=T) (ch:=[e,it]) (t':=s.toks+1) I0 (λ b o c q=>?_) (λ b c=>?_)
     . have y:b≠e:=λ z=>c (by simp[z])
       have V:b≠it:=λ z=>c (by simp[z])
       refine j.extBut b o y ?_;rcases Heap.get?_push_cases (show (s.heap.push { cls:=.type "tuple",data:=.seq #[.int i s.toks,u] }).get? b=some o from q) with⟨rfl,rfl⟩ | q
       . exact R
       exact S b o y V q
     refine⟨?_,(n b c).2⟩;have l:b < s.heap.objs.size:=by
       rcases zAo.mp c with rfl | c
       . exact r
       rw[zAa.mp c];exact lt2
     rw[qd1 (zAt l)];exact(n b c).1
   refine⟨.ref s.heap.objs.size,_,I2,rfl,⟨_,x,rfl,N,rfl,λ ys hy=>by rw[I.list_inj hy A];exact J⟩,⟨⟨u,?_⟩,?_⟩,λ b c=>?_⟩
   . have:((i+1:Nat):Int)=(i:Int)+1:=by push_cast;rfl
     rw[this];exact U
   . exact t.extBut j.extBut (Ne.symm m)
   have l:b < s.heap.objs.size:=by
     rcases zAo.mp c with rfl | c
     . exact r
     rw[zAa.mp c];exact lt2
   rw[qd1 (zAt l)];exact(n b c).1
 done:=by
   intro X C D F B i D6 s W H E I n d G;subst C D F;obtain⟨xs,A,J⟩:=G;obtain⟨⟨old,f⟩,g⟩:=d;obtain⟨L,M,p,hz⟩:=I.list A;obtain⟨f0,f1,f2,f3,f4,f5⟩:=n it (by simp);have hl:=M.length;exact wpAny_pyNext_enum_end (I.ok.hd B) f g p.isList (by simp;lia) λ Y eb=>⟨rfl,I.turned (t':=s.toks) (λ b o c q=>eb b o c q) f0 f1 f3 f4 f5⟩
 self:=λ _ _ _ _ _ d h=>by
   obtain⟨⟨old,f⟩,_⟩:=d;exact wpAny_pyIter_enum f h
section
variable{X:Cx}
def iEnum(K:No)(ta:TA):TI:=λ J H R=>ta J H λ vs H1=>∃ a,vs=[.ref a]/\(∃ xs,SqL K H1 a xs)/\R (Ite K a) H1
theorem qaJ7{l:Kj}{ta:TA}{elts:List Kj}{j:Nat}{p pos tpos:Pos}(k:Gl X "enumerate")(hm:X.mg "enumerate" = none)(m:PA X [l] ta)(n:Jp [l] X.env=[(false,eval l X.env)]:=by rfl):PI X (.Tuple elts j tpos) (.Call (.Name "enumerate" p) [l] [] pos) (iEnum X.K ta):=by
 intro D6 s J H R I h;refine Call_ (qah9 I k hm boot_enumerate (PyProof.Rows.callWith_type1 (thn (m pos D6 s J H _ I h) λ B c f=>?_) n rfl));obtain⟨C,H1,I1,o,t⟩:=f;obtain⟨a,e,⟨D,u⟩,q⟩:=t;subst e;cases o with
 | cons r v =>
   cases v;cases r;obtain⟨w,E,x,F⟩:=I1.list u;refine call_enumerate_list x.isList λ G i y z A=>?_
   refine wpAny_pyIter_enum i ?_;refine⟨c.heap.objs.size+1,[c.heap.objs.size+1,c.heap.objs.size],_,_,H1,rfl,I1.kept (t':=c.toks) A,qam8 a c.heap.objs.size (c.heap.objs.size+1) (Nat.succ_ne_self _),⟨⟨_,i⟩,y⟩,λ b g=>?_,q⟩;have d:c.heap.objs.size<=b:=by
     rcases zAo.mp g with rfl | g
     . exact Nat.le_succ _
     rw[zAa.mp g];exact zA2 _
   exact I1.fpOk d (I1.hok.fresh d)
end
section
variable{X:Cx}
def qaI5:V->List V->Hp->VK->Prop:=λ x vs H Q=>∃ l xs y j z,x=.ref l/\vs=[y]/\H l=some (.l xs)/\flatV y=true/\xs.all flatV=true/\xs[j]? = some z/\eqV z y=true/\(∀ m z',m < j->xs[m]? = some z'->eqV z' y=false)/\Q (.int (j:Nat)) H
theorem Ox.getU{xs:List V}{us:List V'}(r:Ox xs us){j:Nat}{u:V'}(h:us[j]? = some u):∃ x,xs[j]? = some x/\Ow x u:=by
 have c:=r.length;have d:j < us.length:=(zA4.mp h).1;obtain⟨e,a,b⟩:=r.get (show xs[j]? = some xs[j] by simp);rw[h] at a;cases a;exact⟨_,by simp,b⟩
theorem qG3:MtM X "list.index" qaI5:=by
 intro D6 s S H x N v O Q I f C h;obtain⟨l,p,y,j,P,rfl,rfl,D,E,t,A,g,i,q⟩:=h;cases f;obtain⟨u,rfl,G⟩:=C.one;obtain⟨z,a,n,r,R,e⟩:=I.lstM D;have J:j < p.length:=(zA4.mp A).1;have B:=r.length;have small:((j:Nat):Int) < 2 ^ 63 - 1:=by
   have:Jq < 2 ^ 62:=by decide
   lia
 have eqAt:∀ m (d:m < a.toArray.size),∃ x,p[m]? = some x/\eqU y a.toArray[m]=eqV x y:=λ m d=>by
   have K:m < a.length:=by simpa using d
   obtain⟨x,b,f⟩:=r.getU (show a[m]? = some a[m] by simp);have L:flatV x=true:=zBh.mp t x (zAx b);refine⟨x,b,?_⟩
   have:=qar8 (x:=y) f L
   simpa using this
 have c:j < a.toArray.size:=by simp;lia
 refine J' Nu ⟨_,e,rfl⟩ F.entry_list_index (F.args_list_index_2 _ _) (SeqAt.list_indexAt l a.toArray n none #[] u (eqU y) j c small ?_ ?_) ⟨e,λ w M=>qp6 G E r t w (by simpa using M),⟨.int (j:Nat),H,I.tok _,⟨_,rfl⟩,q⟩⟩
 . obtain⟨x,b,k⟩:=eqAt j c
   rw[A] at b;cases b;rw[k];exact g
 intro m d o;obtain⟨x,b,k⟩:=eqAt m d;rw[k];exact i m x o b
def qaI7:V->List V->Hp->VK->Prop:=λ x vs H Q=>∃ l xs y,x=.ref l/\vs=[y]/\H l=some (.l xs)/\flatV y=true/\xs.all flatV=true/\Q (.int (xs.countP (λ z=>eqV z y):Nat)) H
theorem qX1{x:V}:∀{xs:List V}{us:List V'},Ox xs us->xs.all flatV=true->us.countP (eqU x)=xs.countP λ y=>eqV y x
 | _,_,.nil,_=>rfl
 | y::xs,u::us,.cons r t,f=>by
   rw[K9,zBi] at f;rw[Ly,Ly,qar8 r f.1,qX1 t f.2]
theorem qag5:MtM X "list.count" qaI7:=by
 intro D6 s S H x k v m Q I c d h;obtain⟨l,o,y,rfl,rfl,f,g,b,q⟩:=h;cases c;obtain⟨u,rfl,i⟩:=d.one;obtain⟨z,a,n,r,p,e⟩:=I.lstM f;refine J' Nz ⟨_,e,rfl⟩ F.entry_list_count (F.args_list_count_2 _ _) (SeqAt.list_countAt l a.toArray n none #[] u (eqU y)) ⟨e,λ w j=>qp6 i g r b w (by simpa using j),⟨.int _,H,I.tok _,⟨_,rfl⟩,?_⟩⟩;rw[show a.toArray.toList.countP (eqU y)=a.countP (eqU y) by simp,qX1 r b];exact q
end
theorem qas5{K:No}{a D:γ}{xs:List V}{g:TG}{tf:TT}{te:TE}{R:Hp->Prop}{u:St}{H:Hp}(Pv:Nat->St->Hp->Prop)(c:Pv 0 u H)(d:∀ i u H,i<=xs.length->Pv i u H->SqL K H a xs)(f:∀(i:Nat) x u H t,xs[i]? = some x->Pv i u H->H t=none->g (.ref t) u (upd H t (.q [.int (i:Int),x])) λ σ2 H2=>tf σ2 H2 λ h H3=>if h=true then te σ2 H3 λ v H4=>∃ ys,H4 D=some (.l ys)/\ys.length < Jq/\Pv (i+1) σ2 (upd H4 D (.l (ys++[v]))) else Pv (i+1) σ2 H3)(j:∀ u H,Pv xs.length u H->R H) :
   qw9 (Ite K a) g tf te D R u H:=by
 refine⟨λ i m u H=>m=xs.length - i/\i<=xs.length/\Pv i u H,⟨xs.length,by simp,zBl _,c⟩,?_⟩;rintro i m u H ⟨rfl,k,p⟩;have q:=d i u H k p;by_cases b:i < xs.length
 . refine .inr ⟨⟨xs,xs[i],q,by simp[b]⟩,Pv (i+1),λ u' H' l=>⟨xs.length - (i+1),by lia,rfl,b,l⟩,λ x H' y=>?_⟩
   obtain⟨t,n,e,o,r,s⟩:=y;subst e r;exact f i n u _ t (s xs q) p o
 have e:i=xs.length:=by lia
 subst e;exact .inl ⟨⟨xs,q,zA2 _⟩,j u H p⟩
end L2
namespace L2
open PySem PySem.Spec PyProof.Rows
noncomputable def qaD6:List String:=["NoneType", "bool", "int", "str", "list", "tuple", "dict"]
structure IsO(K:No)(C:γ):Prop where
 ca:W.findIn K (.ref C) "__class__" = some (some (.builtin "object.__class__"))
 cn:W.specialIn K (.builtin "object.__class__") "__get__" = some (some (.builtin "getset_descriptor.__get__"))
 ct:W.takesIn K (.builtin "object.__class__")=some true
 cm:W.mroIn K C (.type "object")=some true
 kf:∀ t∈qaD6,Np K (.type t) (.ref C)=some false
theorem kf_of{K:No}{C:γ}(h1:Np K (.type "NoneType") (.ref C)=some false)(h2:Np K (.type "bool") (.ref C)=some false)(b:Np K (.type "int") (.ref C)=some false)(c:Np K (.type "str") (.ref C)=some false)(d:Np K (.type "list") (.ref C)=some false)(e:Np K (.type "tuple") (.ref C)=some false)(f:Np K (.type "dict") (.ref C)=some false) :
   ∀ t∈qaD6,Np K (.type t) (.ref C)=some false:=by
 intro t a;unfold qaD6 at a;simp only[zAo,zC4,or_false] at a;rcases a with rfl | rfl | rfl | rfl | rfl | rfl | rfl<;>assumption
section
variable{X:Cx}
def rIsO(C:γ):List V->Hp->VK->Prop:=λ xs H Q=>∃ x,xs=[x,.ref C]/\((∃ a dx fs,x=.ref a/\H a=some (.ins C dx fs)/\Q (.bl true) H)∨(∃ t,Bk H x=some t/\Q (.bl false) H))
theorem qaF5{C:γ}(b:IsO X.K C)(g:Cls X.K C):CallR X (.builtin "isinstance") (rIsO C):=by
 intro D6 s m H j k Q I r h;obtain⟨x,rfl,h⟩:=h;obtain⟨u,l,rfl,f,c⟩:=Gs r;cases c;rcases h with⟨a,dx,fs,rfl,ha,q⟩ | ⟨t,hk,q⟩
 . have e:Np X.K (.ref C) (.ref C)=some true:=by
     unfold Np;rw[if_pos (by simp)]
   exact qH0 I f (.ins ha g b.ca b.cn b.ct b.cm) e λ d=>⟨.bl true,H,I.tok d,rfl,q⟩
 obtain⟨ty,i⟩:=qai2 (K:=X.K) hk;exact qH0 I f ty (b.kf t i) λ d=>⟨.bl false,H,I.tok d,rfl,q⟩
theorem qaT0{x:Str}(C:γ){pos:Pos}(hm:X.mg x=some (.ref C))(a:Gl X x:=by rfl)(b:N' x:=by decide):PE X (.Name x pos) (tC (.ref C)):=qav5 a hm rfl b
end
end L2
namespace Row
variable{a i j q s t:Nat}{g':Nat->Option Int}{x y:Int}
noncomputable def Ab(n h r:Nat):Nat:=if h<=r then r - h else r+n - h
noncomputable def prev(n r:Nat):Nat:=if r=0 then n - 1 else r - 1
noncomputable def next(n r:Nat):Nat:=if r+1=n then 0 else r+1
def ahead(n:Nat)(hm:Int->Nat)(r:Nat)(x y:Int):Prop:=Ab n (hm y) r < Ab n (hm x) r∨(Ab n (hm x) r=Ab n (hm y) r/\x < y)
theorem qu3{n:Nat}{hm:Int->Nat}{r:Nat}{z:Int}(h:ahead n hm r x y)(h':ahead n hm r y z):ahead n hm r x z:=by
 unfold ahead at *;lia
theorem qN0{n:Nat}{hm:Int->Nat}{r:Nat}(h:ahead n hm r x y)(h':ahead n hm r y x):False:=by
 unfold ahead at *;lia
theorem qat4{n:Nat}{hm:Int->Nat}{r:Nat}(h:ahead n hm r x x):False:=qN0 h h
theorem qat3{n:Nat}{hm:Int->Nat}{r:Nat}(h:x≠y)(h':¬ ahead n hm r x y):ahead n hm r y x:=by
 unfold ahead at *;lia
theorem qk8{n r:Nat}(h:r < n):next n r < n:=by unfold next;split<;>lia
theorem qi7{n r:Nat}(h:r < n):prev n r < n:=by unfold prev;split<;>lia
theorem qk1{n r:Nat}(h:r < n):prev n (next n r)=r:=by unfold prev next;split<;>split<;>lia
theorem qG1{n r:Nat}(h:r < n):next n (prev n r)=r:=by unfold prev next;split<;>split<;>lia
theorem qi0{n r:Nat}(h:r < n)(b:a < n):Ab n a r < n:=by unfold Ab;split<;>lia
theorem qi3{n r:Nat}(b:a < n)(h:r < n)(h':s < n)(e:Ab n a r=Ab n a s):r=s:=by
 unfold Ab at e;split at e<;>split at e<;>lia
theorem qb6{n r:Nat}(b:a < n)(h:r < n):Ab n a r=0↔r=a:=by unfold Ab;split<;>lia
theorem qd5{n r:Nat}(c:a < n)(h:r < n)(b:0 < Ab n a r):Ab n a (prev n r)=Ab n a r - 1:=by
 unfold Ab prev at *;split at b<;>split<;>split<;>lia
theorem qk5{n r:Nat}(c:a < n)(h:r < n)(b:Ab n a r+1 < n):Ab n a (next n r)=Ab n a r+1:=by
 unfold Ab next at *;split at b<;>split<;>split<;>lia
theorem nor(n s:Nat):(s+1=n/\next n s=0)∨(s+1≠n/\next n s=s+1):=by unfold next;split<;>lia
theorem por(n s:Nat):(s=0/\prev n s=n - 1)∨(s≠0/\prev n s=s - 1):=by unfold prev;split<;>lia
theorem dor(n a r:Nat):(a<=r/\Ab n a r+a=r)∨(r < a/\(a<=r+n->Ab n a r+a=r+n)):=by
 unfold Ab;split<;>lia
theorem Dp{n:Nat}(b:a < n)(hi:i < n)(c:s < n)(h:Ab n a i<=Ab n a s):Ab n a i+Ab n i s=Ab n a s:=by
 have d:=dor n a i;have e:=dor n a s;have f:=dor n i s;lia
theorem Hc{n:Nat}(b:a < n)(c:s < n)(d:t < n)(h:Ab n a s < Ab n a t):Ab n t s+Ab n a t=n+Ab n a s:=by
 have e:=dor n a s;have f:=dor n a t;have g:=dor n t s;lia
theorem qaY2{n:Nat}(a:s < n):Ab n (next n s) s+1=n:=by
 have b:=dor n (next n s) s;have c:=nor n s;lia
theorem qas1{n b:Nat}(f:a < n)(c:b < n)(d:j < n)(hi:i < n)(h1:Ab n a i<=Ab n a j)(h2:Ab n a j<=Ab n b j):Ab n b i+(Ab n a j - Ab n a i)=Ab n b j:=by
 have g:=Dp f hi d h1;have h:=qi0 hi c;rcases Nat.lt_or_ge (Ab n b j) (Ab n b i) with e | e
 . have:=Hc c d hi e
   lia
 have:=Dp c hi d e
 lia
structure Ord(n:Nat)(hm:Int->Nat)(g:Nat->Option Int):Prop where
 home:∀ k,hm k < n
 inj:∀ i j k,i < n->j < n->g i=some k->g j=some k->i=j
 ord:∀ i k,i < n->g i=some k->0 < Ab n (hm k) i->∃ x,g (prev n i)=some x/\ahead n hm (prev n i) x k
def Hd(n:Nat)(hm:Int->Nat)(g:Nat->Option Int):Prop:=∃ i,i < n/\∀ k,g i=some k->hm k=i
theorem Ord.path{n:Nat}{hm:Int->Nat}{g:Nat->Option Int}(O:Ord n hm g):∀(m j i:Nat)(z:Int),j < n->i < n->g j=some z->Ab n (hm z) i+m+1=Ab n (hm z) j->∃ x,g i=some x/\ahead n hm i x z
 | 0,j,i,z,hj,hi,hz,e=>by
   have a:0 < Ab n (hm z) j:=by lia
   obtain⟨x,b,c⟩:=O.ord j z hj hz a
   have:=qd5 (O.home z) hj a
   have f:i=prev n j:=qi3 (O.home z) hi (qi7 hj) (by lia);rw[f];exact⟨x,b,c⟩
 | m+1,j,i,z,hj,hi,hz,e=>by
   have a:0 < Ab n (hm z) j:=by lia
   obtain⟨x,b,c⟩:=O.ord j z hj hz a;have o:=qd5 (O.home z) hj a;have d:=qi7 hj;have h:Ab n (hm z) (prev n j)<=Ab n (hm x) (prev n j):=by unfold ahead at c;lia
   have p:=qas1 (O.home z) (O.home x) d hi (by lia) h;obtain⟨y,k,l⟩:=O.path m (prev n j) i x d hi b (by lia);refine⟨y,k,qu3 l ?_⟩;unfold ahead at *;lia
theorem Ord.path'{n:Nat}{hm:Int->Nat}{g:Nat->Option Int}(O:Ord n hm g){z:Int}(a:j < n)(hi:i < n)(b:g j=some z)(h:Ab n (hm z) i < Ab n (hm z) j):∃ x,g i=some x/\ahead n hm i x z :=
 O.path (Ab n (hm z) j - Ab n (hm z) i - 1) j i z a hi b (by lia)
def E7(n:Nat)(hm:Int->Nat)(g:Nat->Option Int)(s:Nat):Prop:=∀ j z,j < n->g j=some z->Ab n (hm z) j<=Ab n (hm z) s
theorem Ord.zero{n:Nat}{hm:Int->Nat}{g:Nat->Option Int}(O:Ord n hm g)(C:Hd n hm g):∃ s,s < n/\E7 n hm g s:=by
 obtain⟨i,b,h⟩:=C;have l:=qi7 b;refine⟨prev n i,l,λ j z c k=>zC3 λ m=>?_⟩;have a:=O.home z;by_cases d:Ab n (hm z) i=0
 . have e:=(qb6 a b).mp d
   have:=qi0 c a
   have e2:Ab n (hm z) (prev n i)=n - 1:=by
     unfold Ab prev at *
     split<;>split<;>lia
   lia
 have q:=qd5 a b (by lia);by_cases f:Ab n (hm z) i=Ab n (hm z) j
 . have e:i=j:=qi3 a b c f
   subst e
   have:=h z k
   rw[this,(qb6 b b).mpr rfl] at d;exact d rfl
 obtain⟨x,o,p⟩:=O.path' c b k (by lia);have e:=h x o
 have:Ab n (hm x) i=0:=(qb6 (O.home x) b).mpr e.symm
 unfold ahead at p;lia
theorem qW4{α:Type}[DecidableEq α](x:α):∀(S:List α),S.Nodup->S.length<=(S.filter (λ y=>decide (y≠x))).length+1
 | [],_=>by simp
 | a::S,h=>by
   have b:=zCi.mp h;by_cases e:a=x
   . subst e
     have:S.filter (λ y=>decide (y≠a))=S:=List.filter_eq_self.mpr λ y c=>by
       simp only[ne_eq,zB8];intro z;subst z;exact b.1 c
     rw[Lg (by simp),this];simp
   rw[Lh (by simpa using e)]
   have:=qW4 x S b.2
   simp only[zAk];lia
theorem qq0{α:Type}[DecidableEq α](x:α):∀(S:List α),x∈S->(S.filter (λ y=>decide (y≠x))).length+1<=S.length
 | [],h=>by simp at h
 | a::S,h=>by
   by_cases e:a=x
   . rw[Lg (by simp[e])]
     have:=Lm (λ y=>decide (y≠x)) S
     simp only[zAk];lia
   rw[Lh (by simpa using e)]
   have:=qq0 x S (by rcases zAo.mp h with z | z;exact absurd z.symm e;exact z)
   simp only[zAk];lia
theorem qD1{g:Nat->Option Int}:∀(L:List Nat)(S:List Int),S.Nodup->(∀ k∈S,∃ i∈L,g i=some k)->S.length<=L.length
 | [],S,_,h=>by
   cases S with
   | nil=>simp
   | cons k _=>obtain⟨i,f,_⟩:=h k (by simp);simp at f
 | i::L,S,hn,h=>by
   cases d:g i with
   | none =>
     have:=qD1 L S hn λ k a=>by
       obtain⟨j,c,e⟩:=h k a;rcases zAo.mp c with z | z
       . rw[z,d] at e;cases e
       exact⟨j,z,e⟩
     simp only[zAk];lia
   | some x =>
     have m:=qD1 L (S.filter (λ y=>decide (y≠x))) (hn.filter _) λ k a=>by
       obtain⟨a,b⟩:=zAz.mp a;obtain⟨j,c,e⟩:=h k a;rcases zAo.mp c with z | z
       . rw[z,d] at e
         have l:x=k:=Nm e;rw[l] at b;simp at b
       exact⟨j,z,e⟩
     have n:=qW4 x S hn;simp only[zAk];lia
theorem qT8{g:Nat->Option Int}:∀(L:List Nat)(S:List Int),L.Nodup->(∀ i∈L,∃ k∈S,g i=some k)->(∀ i∈L,∀ j∈L,∀ k,g i=some k->g j=some k->i=j)->L.length<=S.length
 | [],S,_,_,_=>by simp
 | i::L,S,c,h,inj=>by
   obtain⟨x,f,l⟩:=h i (by simp);have c:=zCi.mp c;have p:=qT8 L (S.filter (λ y=>decide (y≠x))) c.2 (λ j d=>by
     obtain⟨k,m,e⟩:=h j (zA7 _ d);refine⟨k,zAz.mpr ⟨m,?_⟩,e⟩;simp only[ne_eq,zB8];intro z;subst z
     have:=inj i (by simp) j (zA7 _ d) k l e
     exact c.1 (this ▸ d)) λ a n b o=>inj a (zA7 _ n) b (zA7 _ o)
   have q:=qq0 x S f;simp only[zAk];lia
def Holds(n:Nat)(g:Nat->Option Int)(S:List Int):Prop:=S.Nodup/\∀ k,k∈S↔∃ i,i < n/\g i=some k
theorem qam1{n:Nat}{hm:Int->Nat}{g:Nat->Option Int}{S:List Int}(O:Ord n hm g)(O':Ord n hm g')(C':Hd n hm g')(J:Holds n g S)(w:Holds n g' S)(p:s < n)(Z:E7 n hm g s):E7 n hm g' s:=by
 obtain⟨K,F,Z'⟩:=O'.zero C';intro j z B q;refine zC3 λ v=>?_
 have R:∀ m,(∃ t,t < n/\Ab n t s<=m/\E7 n hm g' t)->∃ t,t < n/\E7 n hm g' t/\∀ u,u < n->Ab n u s < Ab n t s->¬ E7 n hm g' u:=by
   intro m
   induction m with
   | zero =>
     rintro⟨t,l,T,q⟩;exact⟨t,l,q,λ u _ h=>absurd h (by lia)⟩
   | succ m U =>
     rintro⟨t,l,T,q⟩;by_cases L:∃ u,u < n/\Ab n u s<=m/\E7 n hm g' u
     . exact U L
     exact⟨t,l,q,λ u V h W=>L ⟨u,V,by lia,W⟩⟩
 obtain⟨t,l,Zt,near⟩:=R (Ab n K s) ⟨K,F,zA2 _,Z'⟩
 let d:Nat->Bool:=λ r=>decide (Ab n r s < Ab n t s)
 have arcOf:∀ r,d r=true↔Ab n r s < Ab n t s:=λ r=>decide_eq_true_iff
 have o:=O'.home z;have M:=Zt j z B q;have Dz:Ab n (hm z) s < Ab n t s:=by
   have G:=Hc o p l (zAi v M);have e2:=qi0 l o;lia
 have Dj:¬ Ab n j s < Ab n t s:=by
   have G:=Hc o p l (zAi v M);have e2:=Hc o p B v;lia
 have X:z∈S.filter (λ k=>d (hm k)):=zAz.mpr ⟨(w.2 z).mpr ⟨j,B,q⟩,(arcOf _).mpr Dz⟩;have p1:(S.filter (λ k=>d (hm k))).length<=((Kz n).filter d).length:=by
   refine qD1 (g:=g) _ _ (J.1.filter _) λ k H=>?_
   obtain⟨H,N⟩:=zAz.mp H;obtain⟨i,c,P⟩:=(J.2 k).mp H;have N:=(arcOf _).mp N;have Y:=Z i k c P;have f:=O.home k;refine⟨i,zAz.mpr ⟨zAs.mpr c,(arcOf _).mpr ?_⟩,P⟩;have G:=Dp f c p Y;lia
 have p2:((Kz n).filter d).length<=((S.filter (λ k=>d (hm k))).filter (λ y=>decide (y≠z))).length:=by
   refine qT8 (g:=g') _ _ (List.nodup_range.filter _) (λ i c=>?_) λ a ha b hb k=>O'.inj a b k (zAs.mp (zAz.mp ha).1) (zAs.mp (zAz.mp hb).1)
   obtain⟨c,C⟩:=zAz.mp c;have c:=zAs.mp c;have C:=(arcOf _).mp C;have nz:=near i c C;obtain⟨k,D⟩:∃ k,g' i=some k:=by
     cases e:g' i with
     | some k=>exact⟨k,rfl⟩
     | none =>
       refine absurd (λ j' y I hy=>zC3 λ A=>?_) nz;obtain⟨x,Q,_⟩:=O'.path' I c hy A;rw[e] at Q;cases Q
   have ki:=Zt i k c D;have f:=O'.home k;refine⟨k,zAz.mpr ⟨zAz.mpr ⟨(w.2 k).mpr ⟨i,c,D⟩,(arcOf _).mpr ?_⟩,?_⟩,D⟩
   . have l1:=qi0 l f
     rcases Nat.lt_or_ge (Ab n (hm k) s) (Ab n (hm k) t) with E | E
     . have:=Hc f p l E
       lia
     have G:=Dp f l p E;have e2:=Dp f c p (zAj ki E);lia
   simp only[ne_eq,zB8];intro e;subst e
   have:=O'.inj i j k c B D q
   subst this;exact Dj C
 have p3:=qq0 z _ X;lia
theorem qal8{n:Nat}{hm:Int->Nat}{g:Nat->Option Int}{S:List Int}(O:Ord n hm g)(O':Ord n hm g')(z:Holds n g S)(l:Holds n g' S)(t:s < n)(Z:E7 n hm g s)(Z':E7 n hm g' s)(c:j < n)(A:∀ i,i < n->Ab n (next n s) i < Ab n (next n s) j->g i=g' i)(m:g j=some x):g' j=some x:=by
 have a:=qk8 t;have pos:∀{f:Nat->Option Int},E7 n hm f s->∀{i k},i < n->f i=some k->Ab n (next n s) (hm k)<=Ab n (next n s) i:=λ{f} Zf {i k} h D=>by
   have u:=Zf i k h D;have b:=O.home k;have P:=qaY2 t;have Q:=qi0 b a;have E:=Dp a b t (by lia);refine zC3 λ F=>?_
   have e2:=Hc a h b F;lia
 have o:∀{i k},i < n->Ab n (next n s) (hm k)<=Ab n (next n s) j->Ab n (next n s) j < Ab n (next n s) i->Ab n (hm k) j < Ab n (hm k) i:=λ{i k} h u G=>by
   have b:=O.home k;have E:=Dp a b c u;have e2:=Dp a b h (zAj u (zBa G));lia
 obtain⟨p,d,q⟩:=(l.2 x).mp ((z.2 x).mpr ⟨j,c,m⟩);have H:=pos Z c m;by_cases I:Ab n (next n s) p < Ab n (next n s) j
 . have e:=A p d I
   rw[q] at e
   have:=O.inj p j x d c e m
   subst this;exact q
 by_cases J:Ab n (next n s) p=Ab n (next n s) j
 . have e:=qi3 a d c J
   subst e;exact q
 exfalso;obtain⟨y,v,B⟩:=O'.path' d c q (o d H (by lia));obtain⟨i,h,r⟩:=(z.2 y).mp ((l.2 y).mpr ⟨j,c,v⟩);have K:=pos Z' c v;by_cases L:Ab n (next n s) i < Ab n (next n s) j
 . have e:=A i h L
   rw[r] at e
   have:=O'.inj i j y h c e.symm v
   subst this;lia
 by_cases M:Ab n (next n s) i=Ab n (next n s) j
 . have e:=qi3 a h c M
   subst e;rw[m] at r;cases r;exact qat4 B
 obtain⟨w,C,N⟩:=O.path' h c r (o h K (by lia));rw[m] at C;cases C;exact qN0 B N
theorem qaC0{n:Nat}{hm:Int->Nat}{g:Nat->Option Int}{S:List Int}(O:Ord n hm g)(O':Ord n hm g')(C:Hd n hm g)(C':Hd n hm g')(d:Holds n g S)(a:Holds n g' S):∀ j,j < n->g j=g' j:=by
 obtain⟨s,f,Z⟩:=O.zero C;have Z':=qam1 O O' C' d a f Z;have main:∀ m j,j < n->Ab n (next n s) j < m->g j=g' j:=by
   intro m
   induction m with
   | zero=>intro j _ h;exact absurd h (by lia)
   | succ m l =>
     intro j c p;have b:∀ i,i < n->Ab n (next n s) i < Ab n (next n s) j->g i=g' i:=λ i k h=>l i k (by lia)
     cases e:g j with
     | some x=>exact(qal8 O O' d a f Z Z' c b e).symm
     | none =>
       cases o:g' j with
       | none=>rfl
       | some y =>
         have:=qal8 O' O a d f Z' Z c (λ i k h=>(b i k h).symm) o
         rw[e] at this;cases this
 exact λ j c=>main _ j c (Nat.lt_succ_self _)
noncomputable def set(g:Nat->Option Int)(r:Nat)(c:Int):Nat->Option Int:=λ j=>if j=r then some c else g j
theorem qb7{g:Nat->Option Int}{r:Nat}{c:Int}:set g r c r=some c:=by unfold set;rw[if_pos rfl]
theorem qd2{g:Nat->Option Int}{r:Nat}{c:Int}(h:j≠r):set g r c j=g j:=by unfold set;rw[if_neg h]
structure Walk(n:Nat)(wr:Bool)(hm:Int->Nat)(T:List Int)(k:Int)(e:Nat)(g:Nat->Option Int)(c:Int)(r:Nat):Prop where
 o:Ord n hm g
 nin:∀ i,i < n->g i≠some c
 hr:r < n
 pth:∀ j,j < n->Ab n (hm c) j < Ab n (hm c) r->∃ x,g j=some x/\ahead n hm j x c
 he:e < n
 ge:g e=none
 lim:Ab n (hm k) r<=Ab n (hm k) e
 all:∀ x,x∈T↔(x=c∨∃ i,i < n/\g i=some x)
 ln:wr=false->hm k<=e/\hm c<=r/\∀ i x,i < n->g i=some x->hm x<=i
section
variable{n:Nat}{wr:Bool}{hm:Int->Nat}{T:List Int}{k:Int}{e:Nat}{g:Nat->Option Int}{c:Int}{r:Nat}
theorem Walk.lt(W:Walk n wr hm T k e g c r)(a:g r=some y):Ab n (hm k) r < Ab n (hm k) e:=by
 have b:=W.lim
 have:r≠e:=λ z=>by have:=W.ge;rw[<- z,a] at this;cases this
 have d:Ab n (hm k) r≠Ab n (hm k) e:=λ z=>this (qi3 (W.o.home k) W.hr W.he z)
 lia
theorem Walk.nx(W:Walk n wr hm T k e g c r)(a:g r=some y):Ab n (hm k) (next n r)=Ab n (hm k) r+1:=by
 have b:=W.lt a;have d:=qi0 W.he (W.o.home k);exact qk5 (W.o.home k) W.hr (by lia)
theorem way(a:hm x < n)(c:j < n)(b:e < n)(d:g e=none)(f:∀ i,i < n->Ab n (hm x) i<=Ab n (hm x) j->∃ y,g i=some y):Ab n (hm x) j+1 < n:=by
 have k:=qi0 c a;have l:=qi0 b a;by_cases h:Ab n (hm x) e<=Ab n (hm x) j
 . obtain⟨y,q⟩:=f e b h
   rw[d] at q;cases q
 lia
theorem Walk.on(W:Walk n wr hm T k e g c r)(a:g r=some y)(h:¬ ahead n hm r c y):Walk n wr hm T k e g c (next n r):=by
 have v:=W.nx a;have A:=W.lt a;have b:=W.o.home c;have l:c≠y:=λ z=>W.nin r W.hr (by rw[z];exact a)
 have w:Ab n (hm c) r+1 < n:=way (g:=g) b W.hr W.he W.ge λ i d m=>by
   by_cases q:Ab n (hm c) i=Ab n (hm c) r
   . rw[qi3 b d W.hr q];exact⟨y,a⟩
   obtain⟨x,p,_⟩:=W.pth i d (by lia);exact⟨x,p⟩
 have B:=qk5 b W.hr w;refine⟨W.o,W.nin,qk8 W.hr,λ j f m=>?_,W.he,W.ge,by lia,W.all,λ s=>?_⟩
 . by_cases q:Ab n (hm c) j=Ab n (hm c) r
   . rw[qi3 b f W.hr q];exact⟨y,a,qat3 l h⟩
   exact W.pth j f (by lia)
 obtain⟨t,C,u⟩:=W.ln s;refine⟨t,?_,u⟩;have D:=dor n (hm k) r;have E:=dor n (hm k) e;have F:=nor n r
 have:=W.hr
 have:=W.he
 have:=W.o.home k
 lia
theorem Walk.swap(W:Walk n wr hm T k e g c r)(l:g r=some y)(h:ahead n hm r c y):Walk n wr hm T k e (set g r c) y (next n r):=by
 have J:=W.nx l;have K:=W.lt l;have D:=W.o.home c;have m:=W.o.home y;have E:c≠y:=λ z=>W.nin r W.hr (by rw[z];exact l)
 have F:e≠r:=λ z=>by have:=W.ge;rw[z,l] at this;cases this
 have w:Ab n (hm y) r+1 < n:=way (g:=g) m W.hr W.he W.ge λ i f u=>by
   by_cases q:Ab n (hm y) i=Ab n (hm y) r
   . rw[qi3 m f W.hr q];exact⟨y,l⟩
   obtain⟨x,s,_⟩:=W.o.path' W.hr f l (by lia);exact⟨x,s⟩
 have L:=qk5 m W.hr w;refine⟨⟨W.o.home,λ i j x f t a p=>?_,λ i x f a u=>?_⟩,λ i f a=>?_,qk8 W.hr,λ j t u=>?_,W.he,by rw[qd2 F];exact W.ge,by lia,λ x=>?_,λ G=>?_⟩
 . by_cases b:i=r
   . by_cases e2:j=r
     . rw[b,e2]
     rw[b,qb7] at a;rw[qd2 e2] at p;cases a;exact absurd p (W.nin j t)
   rw[qd2 b] at a;by_cases e2:j=r
   . rw[e2,qb7] at p
     cases p;exact absurd a (W.nin i f)
   rw[qd2 e2] at p;exact W.o.inj i j x f t a p
 . have H:=qi7 f
   by_cases b:i=r
   . subst b
     rw[qb7] at a;cases a;have d:=qd5 D f u;obtain⟨x,s,A⟩:=W.pth (prev n i) H (by lia)
     have:prev n i≠i:=λ z=>by rw[z] at d;lia
     exact⟨x,by rw[qd2 this];exact s,A⟩
   rw[qd2 b] at a;obtain⟨z,v,B⟩:=W.o.ord i x f a u;by_cases e2:prev n i=r
   . rw[e2] at v B ⊢
     rw[l] at v;cases v;exact⟨c,qb7,qu3 h B⟩
   exact⟨z,by rw[qd2 e2];exact v,B⟩
 . by_cases b:i=r
   . rw[b,qb7] at a
     exact E (Nm a)
   rw[qd2 b] at a;exact b (W.o.inj i r y f W.hr a l)
 . by_cases q:Ab n (hm y) j=Ab n (hm y) r
   . rw[qi3 m t W.hr q];exact⟨c,qb7,h⟩
   obtain⟨x,s,A⟩:=W.o.path' W.hr t l (by lia)
   have:j≠r:=λ z=>q (by rw[z])
   exact⟨x,by rw[qd2 this];exact s,A⟩
 . rw[W.all x]
   constructor
   . rintro (z | ⟨i,f,a⟩)
     . exact .inr ⟨r,W.hr,by rw[z];exact qb7⟩
     by_cases b:i=r
     . rw[b,l] at a
       exact .inl (Nm a).symm
     exact .inr ⟨i,f,by rw[qd2 b];exact a⟩
   rintro (z | ⟨i,f,a⟩)
   . exact .inr ⟨r,W.hr,by rw[z];exact l⟩
   by_cases b:i=r
   . rw[b,qb7] at a
     exact .inl (Nm a).symm
   rw[qd2 b] at a;exact .inr ⟨i,f,a⟩
 obtain⟨I,M,C⟩:=W.ln G;have N:=C r y W.hr l;refine⟨I,?_,λ i x f a=>?_⟩
 . have O:=dor n (hm k) r
   have P:=dor n (hm k) e;have Q:=nor n r
   have:=W.hr
   have:=W.he
   have:=W.o.home k
   lia
 by_cases b:i=r
 . rw[b,qb7] at a
   cases a;lia
 rw[qd2 b] at a;exact C i x f a
structure Kept(n:Nat)(wr:Bool)(hm:Int->Nat)(g:Nat->Option Int)(S:List Int):Prop where
 o:Ord n hm g
 c:Hd n hm g
 h:Holds n g S
 ln:wr=false->∀ i x,i < n->g i=some x->hm x<=i
theorem Walk.done(W:Walk n wr hm T k e g c r)(v:T.Nodup)(q:g r=none):Kept n wr hm (set g r c) T:=by
 have w:=W.o.home c;have h:=qk8 W.hr;refine⟨⟨W.o.home,λ i j x f t a l=>?_,λ i x f a p=>?_⟩,⟨next n r,h,λ x u=>?_⟩,⟨v,λ x=>?_⟩,λ y=>?_⟩
 . by_cases b:i=r
   . by_cases e2:j=r
     . rw[b,e2]
     rw[b,qb7] at a;rw[qd2 e2] at l;cases a;exact absurd l (W.nin j t)
   rw[qd2 b] at a;by_cases e2:j=r
   . rw[e2,qb7] at l
     cases l;exact absurd a (W.nin i f)
   rw[qd2 e2] at l;exact W.o.inj i j x f t a l
 . have A:=qi7 f
   by_cases b:i=r
   . subst b
     rw[qb7] at a;cases a;have d:=qd5 w f p;obtain⟨x,s,B⟩:=W.pth (prev n i) A (by lia)
     have:prev n i≠i:=λ z=>by rw[z] at d;lia
     exact⟨x,by rw[qd2 this];exact s,B⟩
   rw[qd2 b] at a;obtain⟨z,m,C⟩:=W.o.ord i x f a p;by_cases e2:prev n i=r
   . rw[e2,q] at m;cases m
   exact⟨z,by rw[qd2 e2];exact m,C⟩
 . have s:=W.o.home x
   by_cases b:next n r=r
   . have:=nor n r
     have:=W.hr
     lia
   rw[qd2 b] at u;by_cases p:0 < Ab n (hm x) (next n r)
   . obtain⟨z,m,_⟩:=W.o.ord _ x h u p
     rw[qk1 W.hr,q] at m;cases m
   exact((qb6 s h).mp (by lia)).symm
 . rw[W.all x]
   constructor
   . rintro (z | ⟨i,f,a⟩)
     . exact⟨r,W.hr,by rw[z];exact qb7⟩
     exact⟨i,f,by rw[qd2 (λ z=>by rw[z,q] at a;cases a)];exact a⟩
   rintro⟨i,f,a⟩;by_cases b:i=r
   . rw[b,qb7] at a
     exact .inl (Nm a).symm
   rw[qd2 b] at a;exact .inr ⟨i,f,a⟩
 obtain⟨E,F,D⟩:=W.ln y;intro i x f a;by_cases b:i=r
 . rw[b,qb7] at a
   cases a;lia
 rw[qd2 b] at a;exact D i x f a
def Ig(n:Nat)(wr:Bool)(hm:Int->Nat)(g:Nat->Option Int)(k:Int)(e:Nat):Prop:=e < n/\g e=none/\(wr=false->hm k<=e)
theorem Kept.start{S:List Int}(K:Kept n wr hm g S)(c:¬ k∈S)(F:Ig n wr hm g k e):Walk n wr hm (S++[k]) k e g k (hm k):=by
 have a:=K.o.home k;have z:=(qb6 a a).mpr rfl;refine⟨K.o,λ i d f=>c ((K.h.2 k).mpr ⟨i,d,f⟩),a,λ j _ l=>by lia,F.1,F.2.1,by lia,λ x=>?_,λ b=>⟨F.2.2 b,zA2 _,K.ln b⟩⟩;rw[zA8,zAa,K.h.2 x];exact⟨Or.symm,Or.symm⟩
def Crowd(n:Nat)(wr:Bool)(hm:Int->Nat)(T:List Int)(q:Nat):Prop:=q < n/\if wr=true then q=0/\n < T.length else n - q < (T.filter (λ k=>decide (q<=hm k))).length
theorem qN8(h:i∈(Kz (n - q)).map (q + ·)):q<=i/\i < n:=by
 obtain⟨j,a,rfl⟩:=zBc.mp h
 have:=zAs.mp a
 lia
theorem qaD2(h:q<=i)(h':i < n):i∈(Kz (n - q)).map (q + ·):=zBc.mpr ⟨i - q,zAs.mpr (by lia),by lia⟩
theorem qac0{m:Nat}:((Kz m).map (q + ·)).Nodup:=by
 rw[List.nodup_iff_pairwise_ne,zC9];exact(List.nodup_iff_pairwise_ne.mp Lz).imp λ h=>by lia
theorem Kept.no_crowd{S:List Int}(K:Kept n wr hm g S)(q:Nat):¬ Crowd n wr hm S q:=by
 rintro⟨d,h⟩;cases wr with
 | true =>
   rw[if_pos rfl] at h
   have:=qD1 (g:=g) (Kz n) S K.h.1 λ k a=>by
     obtain⟨i,b,c⟩:=(K.h.2 k).mp a;exact⟨i,zAs.mpr b,c⟩
   rw[zB4] at this;lia
 | false =>
   rw[if_neg (by decide)] at h
   have:=qD1 (g:=g) ((Kz (n - q)).map (q + ·)) (S.filter (λ k=>decide (q<=hm k))) (K.h.1.filter _) λ k a=>by
     obtain⟨a,d⟩:=zAz.mp a;obtain⟨i,b,c⟩:=(K.h.2 k).mp a
     have:=K.ln rfl i k b c
     have d:=zAe d;exact⟨i,qaD2 (by lia) b,c⟩
   rw[zAg,zB4] at this;lia
theorem Kept.crowd{S:List Int}(K:Kept n wr hm g S)(u:∀ e,¬ Ig n wr hm g k e):∃ q,Crowd n wr hm (S++[k]) q:=by
 have v:=K.o.home k;have full:∀ e,e < n->(wr=false->hm k<=e)->∃ x,g e=some x:=λ e f s=>by
   cases h:g e with
   | some x=>exact⟨x,rfl⟩
   | none=>exact absurd ⟨f,h,s⟩ (u e)
 cases wr with
 | true =>
   refine⟨0,by lia,?_⟩;rw[if_pos rfl];refine⟨rfl,?_⟩
   have:=qT8 (g:=g) (Kz n) S Lz (λ i b=>by
     obtain⟨x,c⟩:=full i (zAs.mp b) (λ z=>by cases z);exact⟨x,(K.h.2 x).mpr ⟨i,zAs.mp b,c⟩,c⟩) λ i b j p x=>K.o.inj i j x (zAs.mp b) (zAs.mp p)
   rw[zB4] at this;rw[zA6];simp only[zAk,Lc];lia
 | false =>
   have w:∀ m,m<=hm k->(∀ e,m<=e->e < n->∃ x,g e=some x)->∃ q,q<=hm k/\(∀ e,q<=e->e < n->∃ x,g e=some x)/\(q=0∨g (q - 1)=none):=by
     intro m
     induction m with
     | zero=>exact λ d a=>⟨0,d,a,.inl rfl⟩
     | succ m A =>
       intro d a;cases h:g m with
       | none=>exact⟨m+1,d,a,.inr h⟩
       | some x =>
         refine A (by lia) λ e f r=>?_
         by_cases q:e=m
         . rw[q];exact⟨x,h⟩
         exact a e (by lia) r
   obtain⟨q,B,C,l⟩:=w (hm k) (zA2 _) λ e f r=>full e r λ _=>f
   refine⟨q,by lia,?_⟩;rw[if_neg (by decide)]
   have:=qT8 (g:=g) ((Kz (n - q)).map (q + ·)) (S.filter (λ k=>decide (q<=hm k))) qac0 (λ i b=>by
     obtain⟨d,a⟩:=qN8 b;obtain⟨x,c⟩:=C i d a;refine⟨x,zAz.mpr ⟨(K.h.2 x).mpr ⟨i,a,c⟩,zAl ?_⟩,c⟩;have D:=K.o.home x;have s:=K.ln rfl i x a c;refine zC3 λ E=>?_
     rcases l with l | l
     . lia
     obtain⟨y,t,_⟩:=K.o.path' (i:=q - 1) a (by lia) c (by
       have G:=dor n (hm x) (q - 1);have H:=dor n (hm x) i
       lia)
     rw[l] at t;cases t) λ i b j p x=>K.o.inj i j x (qN8 b).2 (qN8 p).2
   rw[zAg,zB4] at this;have F:([k].filter (λ k=>decide (q<=hm k))).length=1:=by simp[B]
   rw[Mn,zA6,F];lia
theorem Crowd.mono{S T:List Int}(h:Crowd n wr hm S q)(a:S.Sublist T):Crowd n wr hm T q:=by
 obtain⟨b,h⟩:=h;refine⟨b,?_⟩;cases wr with
 | true =>
   rw[if_pos rfl] at h ⊢
   have:=a.length_le
   exact⟨h.1,by lia⟩
 | false =>
   rw[if_neg (by decide)] at h ⊢
   have:=(a.filter (λ k=>decide (q<=hm k))).length_le
   lia
theorem Crowd.perm{S T:List Int}(h:Crowd n wr hm S q)(a:S.Perm T):Crowd n wr hm T q:=by
 obtain⟨b,h⟩:=h;refine⟨b,?_⟩;rw[<- a.length_eq,<- (a.filter _).length_eq];exact h
theorem Kept.none(a:0 < n)(b:∀ k,hm k < n):Kept n wr hm (λ _=>none) [] :=
 ⟨⟨b,(λ _ _ _ _ _ h=>by cases h),λ _ _ _ h=>by cases h⟩,⟨0,a,λ _ h=>by cases h⟩,⟨Mb,λ k=>⟨λ h=>by simp at h,λ ⟨_,_,h⟩=>by cases h⟩⟩,λ _ _ _ _ h=>by cases h⟩
theorem Kept.same{S S':List Int}(K:Kept n wr hm g S)(K':Kept n wr hm g' S')(a:∀ k,k∈S↔k∈S'):∀ j,j < n->g j=g' j :=
 qaC0 K.o K'.o K.c K'.c K.h ⟨K.h.1,λ k=>(a k).trans (K'.h.2 k)⟩
end
noncomputable def rot(n s t:Nat):Nat:=if s+t < n then s+t else s+t - n
theorem qQ0{n:Nat}(a:s < n)(b:t < n):rot n s t < n:=by unfold rot;split<;>lia
theorem qq1{n:Nat}(a:s < n)(b:t < n):Ab n s (rot n s t)=t:=by
 have d:=dor n s (rot n s t);unfold rot at d ⊢;split at d<;>split<;>lia
theorem qp1{n:Nat}(a:s < n)(hi:i < n):rot n s (Ab n s i)=i:=by
 have d:=dor n s i;unfold rot
 split<;>lia
theorem qau2{n:Nat}(a:s < n)(b:t < n):(s+t) % n=rot n s t:=by
 unfold rot;split
 . exact zCe (by assumption)
 rw[Nat.mod_eq_sub_mod (by lia)];exact zCe (by lia)
def As(n:Nat)(g:Nat->Option Int)(r J:Nat):Nat->Option Int:=λ i=>if Ab n r i < J then g (next n i) else if Ab n r i=J then none else g i
structure Sh(n:Nat)(hm:Int->Nat)(g:Nat->Option Int)(r J:Nat):Prop where
 hJ:J < n
 mv:∀ t,1<=t->t<=J->∃ x,g (rot n r t)=some x/\0 < Ab n (hm x) (rot n r t)
section
variable{n:Nat}{wr:Bool}{hm:Int->Nat}{g:Nat->Option Int}{r J:Nat}{k:Int}{S:List Int}
theorem qad8(a:r < n):rot n r 0=r:=by unfold rot;rw[if_pos (by lia)];rfl
theorem qz3(a:r < n)(b:t+1 < n):next n (rot n r t)=rot n r (t+1):=by
 unfold rot next
 split<;>split<;>split<;>lia
theorem qu4(a:r < n)(b:J+1=n):next n (rot n r J)=r:=by
 unfold rot next
 split<;>split<;>lia
theorem Sh.start(a:r < n):Sh n hm g r 0:=⟨by lia,λ t b c=>by lia⟩
theorem Sh.step(h:Sh n hm g r J)(a:J+1 < n)(b:g (rot n r (J+1))=some x)(c:0 < Ab n (hm x) (rot n r (J+1))):Sh n hm g r (J+1):=⟨a,λ t d f=>by
 by_cases e:t=J+1
 . subst e;exact⟨x,b,c⟩
 exact h.mv t d (by lia)⟩
theorem qx3(a:r < n)(hi:i < n):As n g r 0 i=if i=r then none else g i:=by
 unfold As;rw[if_neg (by lia)];by_cases e:i=r
 . rw[if_pos e,if_pos ((qb6 a hi).mpr e)]
 rw[if_neg e,if_neg λ z=>e ((qb6 a hi).mp z)]
theorem qJ1(a:r < n)(b:J < n):As n g r J (rot n r J)=none:=by
 unfold As;rw[qq1 a b,if_neg (by lia),if_pos rfl]
theorem qx4(a:r < n)(b:J+1 < n):As n g r J (rot n r (J+1))=g (rot n r (J+1)):=by
 unfold As;rw[qq1 a b,if_neg (by lia),if_neg (by lia)]
theorem qC6(a:r < n)(b:0 < J):As n g r J r=g (next n r):=by
 unfold As;rw[(qb6 a a).mpr rfl,if_pos b]
theorem qac8(a:r < n)(d:J+1 < n)(hi:i < n):As n g r (J+1) i=if i=rot n r (J+1) then none else if i=rot n r J then g (rot n r (J+1)) else As n g r J i:=by
 have j:=qq1 a d;have e2:=qq1 a (show J < n by lia);by_cases b:i=rot n r (J+1)
 . rw[if_pos b,b];exact qJ1 a d
 rw[if_neg b];have f:Ab n r i≠J+1:=λ z=>b (by rw[<- z,qp1 a hi])
 by_cases c:i=rot n r J
 . rw[if_pos c,c]
   unfold As;rw[e2,if_pos (by lia),qz3 a d]
 rw[if_neg c];have h:Ab n r i≠J:=λ z=>c (by rw[<- z,qp1 a hi])
 unfold As;by_cases e:Ab n r i < J
 . rw[if_pos e,if_pos (by lia)]
 rw[if_neg e,if_neg (by lia),if_neg f,if_neg h]
theorem Sh.round(h:Sh n hm g r J)(O:Ord n hm g)(C:Hd n hm g)(d:r < n)(j:g r=some k)(u:J+1=n)(l:g (next n r)=some x)(v:0 < J):Ab n (hm x) r=0:=by
 obtain⟨i,a,m⟩:=C;have f:i=r:=by
   by_cases e:i=r
   . exact e
   have w:=qi0 a d;have A:Ab n r i≠0:=λ z=>e ((qb6 d a).mp z)
   obtain⟨y,b,c⟩:=h.mv (Ab n r i) (by lia) (by lia);rw[qp1 d a] at b c
   have:=(qb6 (O.home y) a).mpr (m y b).symm
   lia
 subst f;have s:=(qb6 (O.home k) a).mpr (m k j).symm;have o:next n i=rot n i 1:=by
   have:=qz3 (t:=0) a (by lia)
   rwa[qad8 a] at this
 obtain⟨y,b,c⟩:=h.mv 1 (zA2 _) (by lia);rw[<- o,l] at b;cases b;rw[<- o] at c;obtain⟨z,p,q⟩:=O.ord (next n i) x (qk8 a) l c;rw[qk1 a,j] at p;cases p;rw[qk1 a] at q;unfold ahead at q;lia
def Stop(n:Nat)(wr:Bool)(hm:Int->Nat)(g:Nat->Option Int)(r J:Nat):Prop:=(wr=false/\rot n r J+1=n)∨∀ x,As n g r J (next n (rot n r J))=some x->Ab n (hm x) (next n (rot n r J))=0
theorem Kept.taken(K:Kept n wr hm g S)(m:r < n)(E:g r=some k)(h:Sh n hm g r J)(st:Stop n wr hm g r J):Kept n wr hm (As n g r J) (S.filter λ x=>decide (x≠k)):=by
 have N:=h.hJ;have O:=K.o;have F:∀ i x,i < n->Ab n r i < J->g (next n i)=some x->Ab n r (next n i)=Ab n r i+1/\0 < Ab n (hm x) (next n i)/\Ab n (hm x) i+1=Ab n (hm x) (next n i):=λ i x f H l=>by
   have e:=qk5 m f (by lia);obtain⟨y,u,C⟩:=h.mv (Ab n r i+1) (by lia) (by lia);rw[<- e,qp1 m (qk8 f)] at u C;rw[l] at u;cases u
   have:=qd5 (O.home x) (qk8 f) C
   rw[qk1 f] at this;exact⟨e,C,by lia⟩
 have w:∀ i x,i < n->As n g r J i=some x->(Ab n r i < J/\g (next n i)=some x)∨(J < Ab n r i/\g i=some x):=λ i x f l=>by
   unfold As at l;split at l
   . exact .inl ⟨by assumption,l⟩
   split at l
   . cases l
   exact .inr ⟨by lia,l⟩
 have A:∀ i x,i < n->As n g r J i=some x->∃ j,j < n/\g j=some x/\j≠r/\(j=next n i/\Ab n r i < J∨j=i/\J < Ab n r i):=λ i x f l=>by
   rcases w i x f l with⟨s,q⟩ | ⟨s,q⟩
   . refine⟨next n i,qk8 f,q,λ z=>?_,.inl ⟨rfl,s⟩⟩
     have e:=qk5 m f (by lia);rw[z,(qb6 m m).mpr rfl] at e;lia
   refine⟨i,f,q,λ z=>?_,.inr ⟨rfl,s⟩⟩;rw[z,(qb6 m m).mpr rfl] at s;lia
 refine⟨⟨O.home,λ i j x f t s q=>?_,λ i x f l H=>?_⟩,?_,⟨K.h.1.filter _,λ x=>?_⟩,λ I i x f l=>?_⟩
 . obtain⟨a,v,U,na,V⟩:=A i x f s
   obtain⟨b,L,W,nb,X⟩:=A j x t q
   have:=O.inj a b x v L U W
   subst this;rcases V with⟨D,P⟩ | ⟨D,P⟩<;>rcases X with⟨e2,Q⟩ | ⟨e2,Q⟩
   . have:=congrArg (prev n) (D.symm.trans e2)
     rwa[qk1 f,qk1 t] at this
   . have e:=qk5 m f (by lia)
     rw[<- D,e2] at e;lia
   . have e:=qk5 m t (by lia)
     rw[<- e2,D] at e;lia
   rw[<- D,<- e2]
 . rcases w i x f l with⟨s,q⟩ | ⟨s,q⟩
   . obtain⟨e,C,Y⟩:=F i x f s q
     obtain⟨y,u,v⟩:=O.ord (next n i) x (qk8 f) q C;rw[qk1 f] at u v;have G:0 < Ab n (hm y) i:=by unfold ahead at v;lia
     have D:=qd5 (O.home x) f H;have e2:=qd5 (O.home y) f G;have Z:=qi7 f;by_cases e0:Ab n r i=0
     . have:=(qb6 m f).mp e0
       subst this;have hlast:Ab n i (prev n i)=n - 1:=by have d:=dor n i (prev n i);have p:=por n i;lia
       by_cases M:J+1=n
       . have:=h.round O K.c f E M q (by lia)
         lia
       rw[E] at u;cases u;obtain⟨z,hz,L⟩:=O.ord i k f E G;refine⟨z,?_,?_⟩
       . unfold As
         rw[hlast,if_neg (by lia),if_neg (by lia)];exact hz
       refine qu3 L ?_;unfold ahead at v ⊢;lia
     have R:=qd5 m f (by lia);refine⟨y,?_,?_⟩
     . unfold As
       rw[R,if_pos (by lia),qG1 f];exact u
     unfold ahead at v ⊢;lia
   obtain⟨y,u,v⟩:=O.ord i x f q H;refine⟨y,?_,v⟩;have R:=qd5 m f (by lia);by_cases T:Ab n r (prev n i)=J
   . exfalso
     have ei:prev n i=rot n r J:=by rw[<- T,qp1 m (qi7 f)]
     have en:next n (rot n r J)=i:=by rw[<- ei,qG1 f]
     rcases st with⟨I,hl⟩ | st
     . have:i=0:=by have p:=nor n (rot n r J);lia
       subst this
       have:=K.ln I 0 x f q
       have d:=dor n (hm x) 0;lia
     rw[en] at st
     have:=st x l
     lia
   unfold As;rw[if_neg (by lia),if_neg T];exact u
 . exact⟨rot n r J,qQ0 m N,λ x l=>by rw[qJ1 m N] at l;cases l⟩
 . rw[zAz,K.h.2 x,zB8]
   constructor
   . rintro⟨⟨j,t,B⟩,ne⟩
     have jr:j≠r:=λ z=>ne (by rw[z,E] at B;exact(Nm B).symm)
     have d0:Ab n r j≠0:=λ z=>jr ((qb6 m t).mp z)
     by_cases H:Ab n r j<=J
     . have e:=qd5 m t (by lia)
       refine⟨prev n j,qi7 t,?_⟩;unfold As;rw[e,if_pos (by lia),qG1 t];exact B
     refine⟨j,t,?_⟩;unfold As;rw[if_neg (by lia),if_neg (by lia)];exact B
   rintro⟨i,f,l⟩;obtain⟨j,t,B,nj,_⟩:=A i x f l;refine⟨⟨j,t,B⟩,λ z=>?_⟩;subst z;exact nj (O.inj j r x t m B E)
 rcases w i x f l with⟨s,q⟩ | ⟨s,q⟩
 . obtain⟨e,C,Y⟩:=F i x f s q
   have:=K.ln I (next n i) x (qk8 f) q
   have nn:=nor n i;have P:=dor n (hm x) (next n i);have Q:=dor n (hm x) i;lia
 exact K.ln I i x f q
end
def Ih(hm:Int->Nat)(x y:Int):Prop:=hm x < hm y∨(hm x=hm y/\x < y)
structure Fill(n:Nat)(hm:Int->Nat)(g:Nat->Option Int)(S:List Int)(top:Nat):Prop where
 k:Kept n false hm g S
 free:∀ i,top<=i->i < n->g i=none
 last:0 < top->∃ x,g (top - 1)=some x/\x∈S
 le:top<=n
theorem Fill.start{n:Nat}{hm:Int->Nat}(a:0 < n)(b:∀ k,hm k < n):Fill n hm (λ _=>none) [] 0:=⟨Kept.none a b,λ _ _ _=>rfl,λ h=>absurd h (by lia),by lia⟩
section
variable{n:Nat}{hm:Int->Nat}{g:Nat->Option Int}{S:List Int}{top:Nat}{k:Int}
theorem Fill.put(F:Fill n hm g S top)(l:¬ k∈S)(C:∀ x∈S,Ih hm x k)(m:max top (hm k) < n):Fill n hm (set g (max top (hm k)) k) (S++[k]) (max top (hm k)+1):=by
 generalize J:max top (hm k)=r at m ⊢;have p:top<=r:=by lia
 have q:hm k<=r:=by lia
 have D:g r=none:=F.free r p m;have below:∀ i x,i < n->g i=some x->i < top:=λ i x b a=>by
   by_cases h:top<=i
   . rw[F.free i h b] at a;cases a
   lia
 have s:∀ i x,i < n->set g r k i=some x->hm x<=i:=λ i x b a=>by
   by_cases e:i=r
   . subst e;rw[qb7] at a;cases a;exact q
   rw[qd2 e] at a;exact F.k.ln rfl i x b a
 have mem:∀ i x,i < n->g i=some x->x∈S:=λ i x b a=>(F.k.h.2 x).mpr ⟨i,b,a⟩
 refine⟨⟨⟨F.k.o.home,λ i j x b z a d=>?_,λ i x b a t=>?_⟩,⟨0,by lia,λ x E=>?_⟩,⟨?_,λ x=>⟨λ c=>?_,λ ⟨i,b,a⟩=>?_⟩⟩,λ _ i x b a=>s i x b a⟩,λ i b G=>?_,λ _=>⟨k,by rw[Nat.add_sub_cancel,qb7],zAu _ (zAa.mpr rfl)⟩,by lia⟩
 . by_cases u:i=r
   . by_cases e2:j=r
     . rw[u,e2]
     subst u;rw[qb7] at a;cases a;rw[qd2 e2] at d;exact absurd (mem j _ z d) l
   rw[qd2 u] at a;by_cases e2:j=r
   . subst e2;rw[qb7] at d;cases d
     exact absurd (mem i _ b a) l
   rw[qd2 e2] at d;exact F.k.o.inj i j x b z a d
 . have c:=s i x b a
   have K:i≠0:=λ e=>by
     have:=(qb6 (F.k.o.home x) b).mpr (by lia)
     lia
   have A:prev n i=i - 1:=by rcases por n i with h | h<;>lia
   by_cases e:i=r
   . subst e
     rw[qb7] at a;cases a;have H:hm k < i:=by
       unfold Ab at t;split at t<;>lia
     have B:top=i:=by lia
     obtain⟨y,f,v⟩:=F.last (by lia);have w:hm y<=i - 1:=F.k.ln rfl (i - 1) y (by lia) (by rw[<- B];exact f);refine⟨y,by rw[A,qd2 (by lia),<- B];exact f,?_⟩;rw[A];unfold ahead Ab;rw[if_pos (by lia),if_pos w];rcases C y v with h | h
     . exact .inl (by lia)
     exact .inr ⟨by lia,h.2⟩
   rw[qd2 e] at a;have L:=below i x b a;obtain⟨y,f,I⟩:=F.k.o.ord i x b a t;exact⟨y,by rw[qd2 (by lia)];exact f,I⟩
 . have:=s 0 x (by lia) E
   lia
 . refine zBr.mpr ⟨F.k.h.1,(by simp),λ x c y v e=>?_⟩
   rw[zAa.mp v] at e;exact l (e ▸ c)
 . rcases zA8.mp c with c | c
   . obtain⟨i,b,a⟩:=(F.k.h.2 x).mp c
     exact⟨i,b,by rw[qd2 λ e=>by rw[e,D] at a;cases a];exact a⟩
   rw[zAa.mp c];exact⟨r,m,qb7⟩
 . by_cases e:i=r
   . subst e;rw[qb7] at a;cases a
     exact zAu _ (zAa.mpr rfl)
   rw[qd2 e] at a;exact Lp _ (mem i x b a)
 rw[qd2 (by lia)];exact F.free i (by lia) G
theorem Fill.room(F:Fill n hm g S top)(i:∀ x∈S,Ih hm x k)(j:∀ q,¬ Crowd n false hm (S++[k]) q):max top (hm k) < n:=by
 have u:=F.k.o.home k;have l:=F.le;by_cases h:top < n
 . lia
 have v:top=n:=by lia
 obtain⟨q,c⟩:=F.k.crowd (k:=k) λ e ⟨m,b,a⟩=>by
   have a:=a rfl;obtain⟨y,d,p⟩:=F.last (by lia);have f:=F.k.ln rfl (top - 1) y (by lia) d;have r:hm y<=hm k:=by rcases i y p with h | h<;>lia
   by_cases s:e=top - 1
   . rw[s,d] at b;cases b
   obtain⟨x,t,_⟩:=F.k.o.path' (by lia) m d (show Ab n (hm y) e < Ab n (hm y) (top - 1) by unfold Ab;rw[if_pos (by lia),if_pos f];lia);rw[t] at b;cases b
 exact absurd c (j q)
end
noncomputable def E8(hm:Int->Nat)(T:List Int)(r:Nat):Nat:=(T.filter λ k=>decide (hm k=r)).length
noncomputable def Er(hm:Int->Nat)(T:List Int)(q r:Nat):Nat:=(T.filter λ k=>decide (q<=hm k/\hm k < r)).length
theorem qX4{hm:Int->Nat}{q r:Nat}(h:q<=r):∀ T:List Int,Er hm T q (r+1)=Er hm T q r+E8 hm T r
 | []=>rfl
 | k::T=>by
   have a:=qX4 (hm:=hm) h T;unfold Er E8 at a ⊢;simp only[List.filter_cons,zB8]
   split<;>split<;>split<;>(try simp only[zAk])<;>lia
theorem qas7{hm:Int->Nat}{r:Nat}(T:List Int):Er hm T r r=0:=by
 unfold Er;rw[List.length_eq_zero_iff,List.filter_eq_nil_iff];intro k _ h
 have:=zAe h
 lia
section
variable{n:Nat}{hm:Int->Nat}{g:Nat->Option Int}{S:List Int}{k:Int}
theorem Kept.len{wr:Bool}(KP:Kept n wr hm g S):S.length<=n:=by
 have:=qD1 (g:=g) (Kz n) S KP.h.1 λ k a=>by
   obtain⟨i,b,e⟩:=(KP.h.2 k).mp a;exact⟨i,zAs.mpr b,e⟩
 rwa[zB4] at this
end
noncomputable def onC(c:Nat->Nat):Nat->Int
 | 0=>0
 | r+1=>if onC c r+(c r:Int) - 1 > 0 then onC c r+(c r:Int) - 1 else 0
noncomputable def sumC(c:Nat->Nat)(q:Nat):Nat->Nat
 | 0=>0
 | m+1=>sumC c q m+c (q+m)
section
variable{c:Nat->Nat}
theorem qK0:∀ r:Nat,0<=onC c r
 | 0=>Int.le_refl _
 | r+1=>by unfold onC;split<;>lia
theorem qaC2{q:Nat}:∀ m:Nat,(sumC c q m:Int) - (m:Int)<=onC c (q+m)
 | 0=>by have:=qK0 (c:=c) q;show ((0:Nat):Int) - _<=_;rw[Nat.add_zero];lia
 | m+1=>by
   have:=qaC2 (q:=q) m
   show ((sumC c q m+c (q+m):Nat):Int) - _<=onC c (q+m+1);unfold onC
   split<;>lia
theorem qaC3:∀ r:Nat,onC c r=0∨∃ q m,q+m=r/\0 < m/\onC c r=(sumC c q m:Int) - (m:Int)
 | 0=>.inl rfl
 | r+1=>by
   by_cases h:onC c r+(c r:Int) - 1 > 0
   . right
     have e:onC c (r+1)=onC c r+(c r:Int) - 1:=if_pos h;rcases qaC3 r with b | ⟨q,m,a,d,f⟩
     . exact⟨r,1,rfl,by lia,by rw[e];show _=((0+c (r+0):Nat):Int) - _;rw[Nat.add_zero];lia⟩
     exact⟨q,m+1,by lia,by lia,by rw[e];show _=((sumC c q m+c (q+m):Nat):Int) - _;rw[a];lia⟩
   exact .inl (if_neg h)
theorem qac1{q m:Nat}:∀ l:Nat,sumC c q (m+l)=sumC c q m+sumC c (q+m) l
 | 0=>rfl
 | l+1=>by
   show sumC c q (m+l)+c (q+(m+l))=sumC c q m+(sumC c (q+m) l+c (q+m+l))
   rw[qac1 l,show q+(m+l)=q+m+l by lia];lia
end
section
variable{n b:Nat}{hm:Int->Nat}{T:List Int}
def cR(n:Nat)(hm:Int->Nat)(T:List Int):Nat->Nat:=λ t=>E8 hm T (t % n)
theorem qaY9:cR n hm T (n+t)=cR n hm T t:=by unfold cR;rw[Nat.add_mod_left]
theorem qat9{q:Nat}:∀ m,sumC (cR n hm T) (n+q) m=sumC (cR n hm T) q m
 | 0=>rfl
 | m+1=>by
   show sumC _ (n+q) m+cR n hm T (n+q+m)=_;rw[qat9 m,Nat.add_assoc,qaY9];rfl
theorem qE6{s q:Nat}(a:b < n)(c:s % n=b)(d:∀ k,hm k < n):∀ m,q+m<=n->sumC (cR n hm T) (s+q) m=Er (λ k=>Ab n b (hm k)) T q (q+m)
 | 0,_=>by rw[Nat.add_zero,qas7];rfl
 | m+1,h=>by
   show sumC _ (s+q) m+cR n hm T (s+q+m)=_;rw[qE6 a c d m (by lia),show q+(m+1)=q+m+1 by lia,qX4 (by lia)];congr 1;unfold cR E8;congr 1;refine Li λ k _=>zC1.mpr ?_
   have e:(s+q+m) % n=rot n b (q+m):=by rw[Nat.add_assoc,Nat.add_mod,c,zCe (show q+m < n by lia),qau2 a (by lia)]
   rw[e];constructor
   . intro z;show Ab n b (hm k)=_;rw[z,qq1 a (by lia)]
   intro z;rw[<- show Ab n b (hm k)=_ from z,qp1 a (d k)]
theorem qaF3(a:∀ k,hm k < n):Er hm T 0 n=T.length:=by
 unfold Er;rw[List.filter_eq_self.mpr λ k _=>zAl ⟨zBl _,a k⟩]
theorem qaH8(a:0 < n)(c:∀ k,hm k < n):sumC (cR n hm T) 0 n=T.length:=by
 have:=qE6 (T:=T) (s:=0) (q:=0) (b:=0) a (Nat.zero_mod n) c n (by lia)
 rw[Nat.add_zero,zAb] at this;rw[this];refine(qaF3 (hm:=λ k=>Ab n 0 (hm k)) λ k=>qi0 (c k) a)
theorem qap1(f:0 < n)(a:∀ k,hm k < n):0 < onC (cR n hm T) n↔∃ q,Crowd n false hm T q:=by
 have e:∀ q,q<=n->sumC (cR n hm T) q (n - q)=(T.filter λ k=>decide (q<=hm k)).length:=λ q d=>by
   have:=qE6 (T:=T) (s:=0) (q:=q) (b:=0) f (Nat.zero_mod n) a (n - q) (by lia)
   rw[zAb,show q+(n - q)=n by lia] at this;rw[this];unfold Er;congr 2;exact funext λ k=>zC1.mpr (by have:=a k;have i:Ab n 0 (hm k)=hm k:=if_pos (zBl _);dsimp only;lia)
 constructor
 . intro h
   rcases qaC3 (c:=cR n hm T) n with j | ⟨q,m,d,g,l⟩
   . lia
   refine⟨q,by lia,?_⟩;rw[if_neg (by decide),<- e q (by lia),show n - q=m by lia];lia
 rintro⟨q,d,h⟩;rw[if_neg (by decide),<- e q (by lia)] at h
 have:=qaC2 (c:=cR n hm T) (q:=q) (n - q)
 rw[show q+(n - q)=n by lia] at this;lia
theorem qaC1(i:0 < n)(j:∀ k,hm k < n)(w:T.length<=n):∃ r,r < n/\onC (cR n hm T) (n+r+1)=0:=by
 by_cases h:∃ r,r < n/\onC (cR n hm T) (n+r+1)=0
 . exact h
 exfalso;have pos:∀ r,r < n->0 < onC (cR n hm T) (n+r+1):=λ r g=>by
   have:=qK0 (c:=cR n hm T) (n+r+1)
   have:onC (cR n hm T) (n+r+1)≠0:=λ e=>h ⟨r,g,e⟩
   lia
 have a:∀ r,r<=n->onC (cR n hm T) (n+r)=onC (cR n hm T) n+(sumC (cR n hm T) n r:Int) - (r:Int):=λ r=>by
   induction r with
   | zero=>intro _;show _=_+((0:Nat):Int) - _;rw[Nat.add_zero];lia
   | succ r l =>
     intro g;have d:=pos r (by lia);have x:=l (by lia);have e:onC (cR n hm T) (n+r+1)=if onC (cR n hm T) (n+r)+(cR n hm T (n+r):Int) - 1 > 0 then onC (cR n hm T) (n+r)+(cR n hm T (n+r):Int) - 1 else 0:=rfl
     show onC (cR n hm T) (n+r+1)=_+((sumC (cR n hm T) n r+cR n hm T (n+r):Nat):Int) - _;rw[e] at d ⊢;split at d
     . rw[if_pos (by assumption)];lia
     lia
 have sa:=qaH8 (T:=T) i j;have b:∀ m,sumC (cR n hm T) n m=sumC (cR n hm T) 0 m:=λ m=>qat9 (q:=0) m
 have e2:=a n (zA2 _);have o:=pos (n - 1) (by lia);rw[show n+(n - 1)+1=n+n by lia] at o;rw[b] at e2;rcases qaC3 (c:=cR n hm T) n with y | ⟨q,m,p,s,d⟩
 . lia
 have t:=a q (by lia);rw[b] at t;have u:=qac1 (c:=cR n hm T) (q:=0) (m:=q) m;rw[zAb,p] at u;by_cases f:q=0
 . subst f
   have:sumC (cR n hm T) 0 0=0:=rfl
   lia
 have v:=pos (q - 1) (by lia);rw[show n+(q - 1)+1=n+q by lia] at v;lia
theorem qK4{r:Nat}(f:r < n)(a:∀ k,hm k < n)(d:onC (cR n hm T) (n+r+1)=0):∀ q,¬ Crowd n false (λ k=>Ab n ((r+1) % n) (hm k)) T q:=by
 rintro q ⟨h,c⟩;have b:(r+1) % n < n:=Nat.mod_lt _ (by lia);rw[if_neg (by decide)] at c;have e:=qE6 (T:=T) (s:=r+1) (q:=q) b rfl a (n - q) (by lia);have g:=qaC2 (c:=cR n hm T) (q:=r+1+q) (n - q);rw[show r+1+q+(n - q)=n+r+1 by lia,d,e,show q+(n - q)=n by lia] at g;have e2:Er (λ k=>Ab n ((r+1) % n) (hm k)) T q n=(T.filter λ k=>decide (q<=Ab n ((r+1) % n) (hm k))).length:=by
   unfold Er;congr 2;exact funext λ k=>zC1.mpr (by have:=qi0 (a k) b;dsimp only;lia)
 have c:=e2 ▸ c;generalize Er _ T q n=m at *
 lia
theorem Kept.turn{g:Nat->Option Int}{S:List Int}(c:b < n)(p:∀ k,hm k < n)(K:Kept n false (λ k=>Ab n b (hm k)) g S):Kept n true hm (λ i=>g (Ab n b i)) S:=by
 have f:∀ i,i < n->Ab n b i < n:=λ i a=>qi0 a c
 have l:∀ i x,i < n->g (Ab n b i)=some x->Ab n b (hm x)+Ab n (hm x) i=Ab n b i:=λ i x a d=>Dp c (p x) a (K.ln rfl _ x (f i a) d)
 refine⟨⟨p,λ i j x a m d u=>qi3 c a m (K.o.inj _ _ x (f i a) (f j m) d u),λ i x a d v=>?_⟩,⟨b,c,λ x w=>?_⟩,⟨K.h.1,λ x=>⟨λ A=>?_,λ ⟨i,a,d⟩=>(K.h.2 x).mpr ⟨_,f i a,d⟩⟩⟩,λ h=>nomatch h⟩
 . have f1:=l i x a d
   have q:=K.ln rfl _ x (f i a) d;have B:Ab n (Ab n b (hm x)) (Ab n b i)=Ab n (hm x) i:=by
     unfold Ab at q ⊢;rw[if_pos q];unfold Ab at f1;lia
   obtain⟨y,r,s⟩:=K.o.ord _ x (f i a) d (by rw[B];exact v);have C:prev n (Ab n b i)=Ab n b (prev n i):=by
     rw[qd5 c a (by lia)];rcases por n (Ab n b i) with h | h<;>lia
   rw[C] at r s;have t:=qi7 a;have f2:=l (prev n i) y t r;have D:=K.ln rfl _ y (f _ t) r;have f3:Ab n b (hm x)+Ab n (hm x) (prev n i)=Ab n b (prev n i):=Dp c (p x) t (by rw[qd5 c a (by lia)];lia);refine⟨y,r,?_⟩;have E:Ab n (Ab n b (hm y)) (Ab n b (prev n i))=Ab n (hm y) (prev n i):=by
     have:Ab n (Ab n b (hm y)) (Ab n b (prev n i))=Ab n b (prev n i) - Ab n b (hm y):=if_pos D
     lia
   have F:Ab n (Ab n b (hm x)) (Ab n b (prev n i))=Ab n (hm x) (prev n i):=by
     have:Ab n (Ab n b (hm x)) (Ab n b (prev n i))=Ab n b (prev n i) - Ab n b (hm x):=if_pos (by lia)
     lia
   unfold ahead at s ⊢;rwa[E,F] at s
 . have q:=K.ln rfl _ x (f b c) w
   have z:Ab n b b=0:=(qb6 c c).mpr rfl;rw[z] at q;exact(qb6 c (p x)).mp (by lia)
 obtain⟨j,m,e⟩:=(K.h.2 x).mp A;exact⟨rot n b j,qQ0 c m,by show g (Ab n b (rot n b j))=_;rw[qq1 c m];exact e⟩
end
theorem Kept.of_perm{n:Nat}{wr:Bool}{hm:Int->Nat}{g:Nat->Option Int}{S T:List Int}(K:Kept n wr hm g S)(p:S.Perm T):Kept n wr hm g T:=⟨K.1,K.2,⟨p.nodup_iff.mp K.h.1,λ k=>p.mem_iff.symm.trans (K.h.2 k)⟩,K.4⟩
theorem Gx{n:Nat}:Ab n 0 i=i:=if_pos (zBl _)
theorem qaD1{n:Nat}(b:a < n)(c:s<=n):((a:Int) - (s:Int)) % (n:Int)=(Ab n (s % n) a:Nat):=by
 by_cases e:s=n
 . subst e
   rw[Nat.mod_self,Gx,Int.sub_emod_right];exact zC8 (by lia) (by lia)
 rw[zCe (show s < n by lia)];unfold Ab;split
 . rw[zC8 (by lia) (by lia)];lia
 rw[<- Int.add_emod_right,zC8 (by lia) (by lia)];lia
end Row
namespace My
open PySem L2
variable{H:Hp}
noncomputable def Ii:V->Bool
 | .int _=>true
 | _=>false
noncomputable def qat5(l m:Int):V->Bool
 | .int i=>decide (l<=i)&&decide (i<=m)
 | _=>false
def numV:V->Bool:=qat5 0 1000000000000000000
theorem qaD8{x:V}{t:String}(h:Bk H x=some t):E6 t "int" = (Ii x||(match x with | .bl _=>true | _=>false)):=by
 cases x with
 | ref b =>
   unfold Bk at h;dsimp only at h;split at h<;>cases h<;>rfl
 | _=>cases h<;>rfl
theorem qaq4{x:V}{t:String}(h:Bk H x=some t):E6 t "bool" = (match x with | .bl _=>true | _=>false):=by
 cases x with
 | ref b =>
   unfold Bk at h;dsimp only at h;split at h<;>cases h<;>rfl
 | _=>cases h<;>rfl
noncomputable def bagL(x y z:Int)(L:γ):HO:=.l [.int x,.int y,.int z,.ref L]
structure BagAt(H:Hp)(p:γ)(x y z:Int)(L:γ)(ns:List Int):Prop where
 at_:H p=some (bagL x y z L)
 li:H L=some (.l (ns.map V.int))
 x0:0<=x
 y0:0<=y
 y1:y < 2147483647
 z0:0<=z
 nn:∀ n∈ns,0<=n
def Bag(H:Hp)(p L:γ):Prop:=∃ x y z ns,BagAt H p x y z L ns
theorem qaZ3{L:γ}{x y z:Int}{ns:List Int}:HO.l (ns.map V.int)≠bagL x y z L:=by
 intro e;have e:ns.map V.int=[.int x,.int y,.int z,.ref L]:=by injection e
 have e:=congrArg (·[3]?) e;rw[zB3] at e;cases h:ns[3]? <;> rw[h] at e<;>cases e
theorem BagAt.ne{p L:γ}{x y z:Int}{ns:List Int}(B:BagAt H p x y z L ns):L≠p:=ne_of B.li B.at_ qaZ3
def qaS0(K:No):Sp:=λ vs H Q _=>∃(l:γ)(ns:List Int),vs=[.ref l]/\SqL K H l (ns.map V.int)/\ns.length<=63 /\
 ∀ p L H',H p=none->H L=none->Same H H'->Bag H' p L->Q (.ref p) H'
def Gy(K:No):Sp:=λ vs H Q _=>∃(l:γ)(ns:List Int),vs=[.ref l]/\SqL K H l (ns.map V.int)/\ns.length<=63/\∀ H',Q (.bl true) H'
abbrev Pr:=List (Int×Int)
def Aj(n:Int):Prop:=0<=n/\n<=1000000000000000000
theorem qaL7{n:Int}:numV (.int n)=true↔Aj n:=by
 show (decide (0<=n)&&decide (n<=1000000000000000000))=true↔_;rw[zBi,zB8,zB8];exact Iff.rfl
structure Ij(ps:Pr):Prop where
 len:ps.length<=64
 nd:(ps.map (·.1)).Nodup
 nums:∀ p∈ps,Aj p.1/\Aj p.2
noncomputable def qc7(n:Int)(ps:Pr)(k:Int):Int:=((ps.lookup k).getD k) % n
def A7(n:Int)(wr:Bool)(ps:Pr)(k r:Int):Option Int :=
 if wr then some ((r - qc7 n ps k) % n) else if 0<=r - qc7 n ps k then some (r - qc7 n ps k) else none
def ql1(n:Int)(wr:Bool)(ps:Pr)(r a other:Int):Bool :=
 match A7 n wr ps a r,A7 n wr ps other r with
 | none,_=>false
 | some _,none=>true
 | some x,some y=>decide (y < x)||(decide (x=y)&&decide (a < other))
theorem qaj2{n:Int}(h:1<=n)(ps:Pr)(k:Int):0<=qc7 n ps k/\qc7 n ps k < n:=⟨Int.emod_nonneg _ (by lia),zCf _ (by lia)⟩
theorem qai8(k:Int)(ks:List Int):inV (.int k) (ks.map V.int)=decide (k∈ks):=by
 unfold inV;rw[M8,Bool.eq_iff_iff,Mu,zB8];constructor
 . rintro⟨x,a,e⟩
   have e:(x == k)=true:=e;rw[<- zBt.mp e];exact a
 intro h;exact⟨k,h,zBd k⟩
end My
namespace My
open PySem L2
open Row
variable{n:Int}{ps:Pr}{r:Nat}
def Oq(n:Int)(ps:Pr)(k:Int):Nat:=(qc7 n ps k).toNat
theorem D7(h:1<=n)(k:Int):Oq n ps k < n.toNat:=by
 have:=qaj2 h ps k
 unfold Oq;lia
theorem qL3(h:1<=n)(k:Int):((Oq n ps k:Nat):Int)=qc7 n ps k:=by
 have:=qaj2 h ps k
 unfold Oq;lia
theorem qas0(a:1<=n){h:Nat}(b:h < n.toNat)(c:r < n.toNat):((r:Int) - (h:Int)) % n=(Ab n.toNat h r:Nat):=by
 rcases dor n.toNat h r with⟨h1,h2⟩ | ⟨h1,h2⟩
 . rw[zC8 (by lia) (by lia)];lia
 have e:((r:Int) - (h:Int)) % n=((r:Int) - (h:Int)+n) % n:=by rw[Int.add_emod_right]
 rw[e,zC8 (by lia) (by lia)]
 have:=h2 (by lia)
 lia
theorem qM1{wr:Bool}{k:Int}(a:1<=n)(c:r < n.toNat)(d:wr=false->Oq n ps k<=r):A7 n wr ps k (r:Int)=some ((Ab n.toNat (Oq n ps k) r:Nat):Int):=by
 have e:=D7 (ps:=ps) a k;have b:=qL3 (ps:=ps) a k;unfold A7;cases wr with
 | true=>rw[if_pos rfl,<- b,qas0 a e c]
 | false =>
   have:=d rfl
   rw[if_neg (by decide),if_pos (by lia),<- b]
   have:=dor n.toNat (Oq n ps k) r
   congr 1;lia
theorem qI0{wr:Bool}{x y:Int}(a:1<=n)(b:r < n.toNat)(c:wr=false->Oq n ps x<=r)(d:wr=false->Oq n ps y<=r):ql1 n wr ps (r:Int) x y=true↔ahead n.toNat (Oq n ps) r x y:=by
 unfold ql1 ahead;rw[qM1 a b c,qM1 a b d];show (decide _||(decide _&&decide _))=true↔_;simp only[Bool.or_eq_true,zBi,zB8];lia
theorem qaC7(a:1<=n)(b:r < n.toNat):((r:Int)+1) % n=(Row.next n.toNat r:Nat):=by
 rcases nor n.toNat r with⟨h,e⟩ | ⟨h,e⟩
 . rw[e,show ((r:Int)+1)=n by lia];simp
 rw[e,zC8 (by lia) (by lia)];rfl
end My
namespace LV
open PySem L2
variable{Ao:List γ}{N:List Str}{P:List V'->Prop}{Q:VK}{base:Heap}{cd:Kj}{cm z:Bool}{i j n:Nat}{kvs:List (Key×V)}{lo:Int}{mg:Str->Option V'}{op:CmpOp}{pl:Sem Bool}{v w:V}{vs:List V}{α:Type}{a':St}
inductive D where
 | non | bl (b:Bool) | int (i:Int) | str (x:Str) | ty (n:String) | adr (a:γ)
 | q (ds:List D) | l (z:Bool) (ds:List D) | dct (z:Bool) (kvs:List (Key×D)) | ins (z:Bool) (C:γ) (fs:List (Str×D))
 | scr (ns:List Int)
 | exn (C:γ) (fs:List (Str×D))
 | hole (v:V) | u
mutual
def D.imm:D->Bool
 | .q ds=>D.imms ds
 | .l z _=>z
 | .dct z _=>z
 | .ins z _ _=>z
 | _=>true
def D.imms:List D->Bool
 | []=>true
 | d::r=>d.imm&&D.imms r
end
mutual
def D.fz:D->D
 | .q ds=>.q (D.fzs ds)
 | .l _ ds=>.l true (D.fzs ds)
 | .dct _ kvs=>.dct true (D.fzk kvs)
 | .ins _ C fs=>.ins true C (D.fzf fs)
 | .exn C fs=>.exn C (D.fzf fs)
 | .non=>.non | .bl b=>.bl b | .int i=>.int i | .str x=>.str x | .ty n=>.ty n | .adr a=>.adr a | .scr ns=>.scr ns | .hole v=>.hole v | .u=>.u
def D.fzs:List D->List D
 | []=>[]
 | d::r=>d.fz::D.fzs r
def D.fzk:List (Key×D)->List (Key×D)
 | []=>[]
 | (k,d)::r=>(k,d.fz)::D.fzk r
def D.fzf:List (Str×D)->List (Str×D)
 | []=>[]
 | (k,d)::r=>(k,d.fz)::D.fzf r
end
mutual
inductive Oy(F:γ->Prop)(H:Hp):V->D->List γ->Prop
 | non:Oy F H .non .non []
 | bl (b:Bool):Oy F H (.bl b) (.bl b) []
 | int (i:Int):Oy F H (.int i) (.int i) []
 | str (x:Str):Oy F H (.str x) (.str x) []
 | ty (n:String):Oy F H (.ty n) (.ty n) []
 | adr (a:γ):Oy F H (.ref a) (.adr a) []
 | q {a:γ} {vs:List V} {ds:List D} {A:List γ} (h:H a=some (.q vs)) (r:Os F H vs ds A):Oy F H (.ref a) (.q ds) A
 | l {a:γ} {vs:List V} {ds:List D} {A:List γ} (h:H a=some (.l vs)) (r:Os F H vs ds A):Oy F H (.ref a) (.l false ds) (a::A)
 | lstZ {a:γ} {vs:List V} {ds:List D} (h:H a=some (.l vs)) (f:F a) (r:Os F H vs ds []):Oy F H (.ref a) (.l true ds) []
 | dct {a:γ} {kvs:List (Key×V)} {kds:List (Key×D)} {A:List γ} (h:H a=some (.dK kvs)) (e:kvs.map (·.1)=kds.map (·.1)) (r:Os F H (kvs.map (·.2)) (kds.map (·.2)) A):Oy F H (.ref a) (.dct false kds) (a::A)
 | dctZ {a:γ} {kvs:List (Key×V)} {kds:List (Key×D)} (h:H a=some (.dK kvs)) (f:F a) (e:kvs.map (·.1)=kds.map (·.1)) (r:Os F H (kvs.map (·.2)) (kds.map (·.2)) []):Oy F H (.ref a) (.dct true kds) []
 | ins {a C dx:γ} {fvs:List (Str×V)} {fds:List (Str×D)} {A:List γ} (h:H a=some (.ins C dx fvs)) (e:fvs.map (·.1)=fds.map (·.1)) (r:Os F H (fvs.map (·.2)) (fds.map (·.2)) A):Oy F H (.ref a) (.ins false C fds) (a::A)
 | insZ {a C dx:γ} {fvs:List (Str×V)} {fds:List (Str×D)} (h:H a=some (.ins C dx fvs)) (f:F a) (e:fvs.map (·.1)=fds.map (·.1)) (r:Os F H (fvs.map (·.2)) (fds.map (·.2)) []):Oy F H (.ref a) (.ins true C fds) []
 | scr {a:γ} {o:Obj} {ns:List Int} (h:H a=some (.frz o (.l (ns.map V.int)))):Oy F H (.ref a) (.scr ns) []
 | exn {a C dx:γ} {fvs:List (Str×V)} {fds:List (Str×D)} (h:H a=some (Ie a C (some dx) false)) (g:H dx=some (XD dx fvs)) (e:fvs.map (·.1)=fds.map (·.1)) (r:Os F H (fvs.map (·.2)) (fds.map (·.2)) []):Oy F H (.ref a) (.exn C fds) []
 | hole (v:V):Oy F H v (.hole v) []
 | u (v:V):Oy F H v .u []
inductive Os(F:γ->Prop)(H:Hp):List V->List D->List γ->Prop
 | nil:Os F H [] [] []
 | cons {v:V} {d:D} {A:List γ} {vs:List V} {ds:List D} {B:List γ} (h:Oy F H v d A) (t:Os F H vs ds B):Os F H (v::vs) (d::ds) (A++B)
end
noncomputable def D8:HO->Bool
 | .l _=>true
 | .dK _=>true
 | .ins _ _ _=>true
 | _=>false
section
variable{F F':γ->Prop}{H H':Hp}
def Cel(H:Hp)(A:List γ):Prop:=∀ b∈A,∃ o,H b=some o/\D8 o=true
theorem Cel.cons{A:List γ}{a:γ}{o:HO}(e:H a=some o)(m:D8 o=true)(h:Cel H A):Cel H (a::A):=λ b c=>(zAo.mp c).elim (λ q=>q ▸ ⟨_,e,m⟩) (h b)
theorem Cel.app{A B:List γ}(h:Cel H A)(g:Cel H B):Cel H (A++B):=λ b a=>(zA8.mp a).elim (h b) (g b)
theorem Oy.cells{v:V}{d:D}{A:List γ}(r:Oy F H v d A):Cel H A:=by
 induction r using Oy.rec (motive_2:=λ _ _ A _=>Cel H A) with
 | q e r i=>exact i
 | l e r i=>exact Cel.cons e rfl i
 | dct e _ r i=>exact Cel.cons e rfl i
 | ins e _ r i=>exact Cel.cons e rfl i
 | cons _ _ i j=>exact Cel.app i j
 | _=>nofun
theorem Os.cells{vs:List V}{ds:List D}{A:List γ}(r:Os F H vs ds A):Cel H A:=by
 induction r using Os.rec (motive_1:=λ _ _ _ _=>True) with
 | cons h _ i j=>exact Cel.app h.cells j
 | nil=>nofun
 | _=>trivial
structure Kp(F:γ->Prop)(H:Hp)(W F':γ->Prop)(H':Hp):Prop where
 fr:∀ b o,H b=some o->¬ W b->H' b=some o
 wm:∀ b,W b->∃ o,H b=some o/\D8 o=true
 wf:∀ b,W b->¬ F b
 mF:∀ b,F b->F' b
theorem Kp.q{W:γ->Prop}(k:Kp F H W F' H'){a:γ}{vs:List V}(h:H a=some (.q vs)):H' a=some (.q vs):=by
 refine k.fr a _ h λ w=>?_
 obtain⟨o,e,m⟩:=k.wm a w;rw[h] at e;cases e;cases m
theorem Kp.imm{W:γ->Prop}(k:Kp F H W F' H'){a:γ}{o:HO}(h:H a=some o)(n:D8 o=false):H' a=some o:=by
 refine k.fr a _ h λ w=>?_
 obtain⟨o,e,m⟩:=k.wm a w;rw[h] at e;cases e;rw[n] at m;cases m
theorem Kp.frz{W:γ->Prop}(k:Kp F H W F' H'){a:γ}{o:Obj}{u:HO}(h:H a=some (.frz o u)):H' a=some (.frz o u):=by
 refine k.fr a _ h λ w=>?_
 obtain⟨o,e,m⟩:=k.wm a w;rw[h] at e;cases e;cases m
theorem Oy.keep{W:γ->Prop}(k:Kp F H W F' H'){v:V}{d:D}{A:List γ}(r:Oy F H v d A):(∀ b∈A,¬ W b)->Oy F' H' v d A:=by
 induction r using Oy.rec (motive_2:=λ a c A _=>(∀ b∈A,¬ W b)->Os F' H' a c A) with
 | q e r i=>exact λ h=>.q (k.q e) (i h)
 | l e r i=>exact λ h=>.l (k.fr _ _ e (zB2.mp h).1) (i (zB2.mp h).2)
 | lstZ e f r i=>exact λ h=>.lstZ (k.fr _ _ e λ w=>k.wf _ w f) (k.mF _ f) (i h)
 | dct e q r i=>exact λ h=>.dct (k.fr _ _ e (zB2.mp h).1) q (i (zB2.mp h).2)
 | dctZ e f q r i=>exact λ h=>.dctZ (k.fr _ _ e λ w=>k.wf _ w f) (k.mF _ f) q (i h)
 | ins e q r i=>exact λ h=>.ins (k.fr _ _ e (zB2.mp h).1) q (i (zB2.mp h).2)
 | insZ e f q r i=>exact λ h=>.insZ (k.fr _ _ e λ w=>k.wf _ w f) (k.mF _ f) q (i h)
 | scr e=>exact λ _=>.scr (k.frz e)
 | exn e g q r i=>exact λ h=>.exn (k.imm e rfl) (k.imm g rfl) q (i h)
 | cons _ _ i j h=>exact Os.cons (i (zBp.mp h).1) (j (zBp.mp h).2)
 | nil=>constructor
 | _=>intro;constructor
theorem Os.keep{W:γ->Prop}(k:Kp F H W F' H'){vs:List V}{ds:List D}{A:List γ}(r:Os F H vs ds A):(∀ b∈A,¬ W b)->Os F' H' vs ds A:=by
 induction r using Os.rec (motive_1:=λ _ _ _ _=>True) with
 | nil=>exact λ _=>Os.nil
 | cons r _ i j=>exact λ h=>Os.cons (r.keep k (zBp.mp h).1) (j (zBp.mp h).2)
 | _=>trivial
theorem Kp.same(s:Same H H'):Kp F H (λ _=>False) F H':=⟨λ b o e _=>s b o e,λ _ w=>w.elim,λ _ w=>w.elim,λ _ f=>f⟩
theorem Oy.same{d:D}{A:List γ}(r:Oy F H v d A)(s:Same H H'):Oy F H' v d A:=r.keep (Kp.same s) λ _ _=>id
theorem Os.same{ds:List D}{A:List γ}(r:Os F H vs ds A)(s:Same H H'):Os F H' vs ds A:=r.keep (Kp.same s) λ _ _=>id
theorem Kp.more(m:∀ b,F b->F' b):Kp F H (λ _=>False) F' H:=⟨λ b o e _=>e,λ _ w=>w.elim,λ _ w=>w.elim,m⟩
mutual
theorem Oy.imm{v:V}{d:D}{A:List γ}(r:Oy F H v d A)(h:d.imm=true):A=[]:=by
 cases r with
 | q e r=>exact r.imms h
 | l=>cases h
 | dct=>cases h
 | ins=>cases h
 | _=>rfl
theorem Os.imms{vs:List V}{ds:List D}{A:List γ}(r:Os F H vs ds A)(h:D.imms ds=true):A=[]:=by
 cases r with
 | nil=>rfl
 | cons r t =>
   have h:=zAh.mp h;rw[r.imm h.1,t.imms h.2];rfl
end
theorem qV7(a:List (Key×D)):(D.fzk a).map (·.1)=a.map (·.1)/\(D.fzk a).map (·.2)=D.fzs (a.map (·.2)):=by
 induction a with
 | nil=>exact⟨rfl,rfl⟩
 | cons p r b=>obtain⟨k,d⟩:=p;simp only[D.fzk,D.fzs,zAy,b.1,b.2,and_self]
theorem qE1(a:List (Str×D)):(D.fzf a).map (·.1)=a.map (·.1)/\(D.fzf a).map (·.2)=D.fzs (a.map (·.2)):=by
 induction a with
 | nil=>exact⟨rfl,rfl⟩
 | cons p r b=>obtain⟨k,d⟩:=p;simp only[D.fzf,D.fzs,zAy,b.1,b.2,and_self]
theorem Oy.fz{v:V}{d:D}{A:List γ}(r:Oy F H v d A)(m:∀ b,F b->F' b):(∀ b∈A,F' b)->Oy F' H v d.fz []:=by
 induction r using Oy.rec (motive_2:=λ a c A _=>(∀ b∈A,F' b)->Os F' H a (D.fzs c) []) with
 | q e r i=>exact λ h=>.q e (i h)
 | l e r i=>exact λ h=>.lstZ e (zB2.mp h).1 (i (zB2.mp h).2)
 | lstZ e f r i=>exact λ h=>.lstZ e (m _ f) (i h)
 | dct e q r i=>exact λ h=>.dctZ e (zB2.mp h).1 (q.trans (qV7 _).1.symm) ((qV7 _).2 ▸ i (zB2.mp h).2)
 | dctZ e f q r i=>exact λ h=>.dctZ e (m _ f) (q.trans (qV7 _).1.symm) ((qV7 _).2 ▸ i h)
 | ins e q r i=>exact λ h=>.insZ e (zB2.mp h).1 (q.trans (qE1 _).1.symm) ((qE1 _).2 ▸ i (zB2.mp h).2)
 | insZ e f q r i=>exact λ h=>.insZ e (m _ f) (q.trans (qE1 _).1.symm) ((qE1 _).2 ▸ i h)
 | scr e=>exact λ _=>.scr e
 | exn e g q r i=>exact λ h=>.exn e g (q.trans (qE1 _).1.symm) ((qE1 _).2 ▸ i h)
 | nil=>exact Os.nil
 | cons _ _ i j h=>exact Os.cons (A:=[]) (B:=[]) (i (zBp.mp h).1) (j (zBp.mp h).2)
 | _=>intro;constructor
end
theorem ec:∀{us:List V'},us.length=n+1->∃ a vs,us=a::vs/\vs.length=n
 | a::vs,h=>⟨a,vs,rfl,Nat.succ.inj h⟩
theorem ec0(h:P [])(us:List V')(e:us.length=0):P us:=List.length_eq_zero_iff.mp e ▸ h
theorem ec1(h:∀ x us,us.length=n->P (x::us))(us:List V')(e:us.length=n+1):P us:=by
 obtain⟨x,a,rfl,b⟩:=ec e;exact h x a b
theorem ec2(h:∀ us,us.length=n->P us)(us:List V')(e:us.length+1=n+1):P us:=h us (Nat.succ.inj e)
inductive Locs(F:γ->Prop)(H:Hp):List (Option V)->List D->List γ->Prop
 | nil:Locs F H [] [] []
 | no {a:List (Option V)} {ds:List D} {A:List γ} (t:Locs F H a ds A):Locs F H (none::a) (.u::ds) A
 | so {v:V} {d:D} {B:List γ} {a:List (Option V)} {ds:List D} {A:List γ} (h:Oy F H v d B) (t:Locs F H a ds A):Locs F H (some v::a) (d::ds) (B++A)
section
variable{F F':γ->Prop}{H H':Hp}
theorem Locs.cells{n:List (Option V)}{ds:List D}{A:List γ}(r:Locs F H n ds A):∀ b∈A,∃ o,H b=some o/\D8 o=true:=by
 induction r with
 | nil=>intro b h;cases h
 | no t c=>exact c
 | so h t c =>
   intro b a;rcases zA8.mp a with a | a
   . exact h.cells b a
   exact c b a
theorem Locs.keep{W:γ->Prop}(k:Kp F H W F' H'){n:List (Option V)}{ds:List D}{A:List γ}(r:Locs F H n ds A):(∀ b∈A,¬ W b)->Locs F' H' n ds A:=by
 induction r with
 | nil=>exact λ _=>.nil
 | no t a=>exact λ h=>.no (a h)
 | so h t a=>exact λ q=>.so (h.keep k λ b c=>q b (zA8.mpr (.inl c))) (a λ b c=>q b (zA8.mpr (.inr c)))
theorem Locs.same{n:List (Option V)}{ds:List D}{A:List γ}(r:Locs F H n ds A)(s:Same H H'):Locs F H' n ds A:=r.keep (Kp.same s) λ _ _=>id
theorem Locs.len{n:List (Option V)}{ds:List D}{A:List γ}(r:Locs F H n ds A):n.length=ds.length:=by
 induction r with
 | nil=>rfl
 | no t a=>simp[a]
 | so h t a=>simp[a]
theorem Locs.append{n p:List (Option V)}{ds es:List D}{A B:List γ}(r:Locs F H n ds A)(t:Locs F H p es B):Locs F H (n++p) (ds++es) (A++B):=by
 induction r with
 | nil=>exact t
 | no _ a=>exact .no a
 | so h _ a=>rw[zAq];exact .so h a
inductive Gz(F:γ->Prop)(H:Hp):Option V->D->List γ->Prop
 | no:Gz F H none .u []
 | so {v:V} {d:D} {B:List γ} (h:Oy F H v d B):Gz F H (some v) d B
theorem Locs.cons{o:Option V}{d:D}{B:List γ}{n:List (Option V)}{ds:List D}{A:List γ}(h:Gz F H o d B)(t:Locs F H n ds A):Locs F H (o::n) (d::ds) (B++A):=by
 cases h with
 | no=>exact .no t
 | so h=>exact .so h t
theorem Locs.split:∀{ds:List D}{n:List (Option V)}{A:List γ}{i:Nat}{d:D},Locs F H n ds A->ds[i]? = some d ->
   ∃ σ1 o σ2 ds1 a A1 B A2,n=σ1++o::σ2/\ds=ds1++d::a/\σ1.length=i/\ds1.length=i/\A=A1++(B++A2)/\Locs F H σ1 ds1 A1/\Gz F H o d B/\Locs F H σ2 a A2:=by
 intro ds
 induction ds with
 | nil=>intro n A i d _ h;simp at h
 | cons e r m =>
   intro n A i d L h;cases i with
   | zero =>
     have:e=d:=by simpa using h
     subst this;cases L with
     | no t=>exact⟨[],none,_,[],_,[],[],_,rfl,rfl,rfl,rfl,rfl,.nil,.no,t⟩
     | so q t=>exact⟨[],some _,_,[],_,[],_,_,rfl,rfl,rfl,rfl,rfl,.nil,.so q,t⟩
   | succ i =>
     have h:r[i]? = some d:=by simpa using h
     cases L with
     | no t =>
       obtain⟨σ1,o,σ2,ds1,a,A1,B,A2,b,e2,c,f,g,j,k,l⟩:=m t h;exact⟨none::σ1,o,σ2,_::ds1,a,A1,B,A2,by rw[b];rfl,by rw[e2];rfl,by simp[c],by simp[f],g,.no j,k,l⟩
     | @so v _ B0 _ _ A0 q t =>
       obtain⟨σ1,o,σ2,ds1,a,A1,B,A2,b,e2,c,f,g,j,k,l⟩:=m t h;exact⟨some v::σ1,o,σ2,_::ds1,a,B0++A1,B,A2,by rw[b];rfl,by rw[e2];rfl,by simp[c],by simp[f],by rw[g,zAq],.so q j,k,l⟩
end
theorem qo0{a b:List α}{x y:α}(h:a.length=i):(a++x::b).set i y=a++y::b:=by
 subst h;rw[Mc _ _ (zA2 _),Nat.sub_self];rfl
theorem qA0{a b:List α}{x:α}(h:a.length=i):(a++x::b)[i]? = some x:=by
 subst h;simp
structure Ok(F:γ->Prop)(H:Hp)(A:List γ):Prop where
 sep:∀ b,A.count b<=1
 fro:∀ b,F b->A.count b=0
 ex:∀ b,F b->∃ o,H b=some o
structure O0(F:γ->Prop)(H:Hp)(A:List γ)(F':γ->Prop)(H':Hp)(A':List γ):Prop where
 fr:∀ b o,H b=some o->A.count b=0->H' b=some o
 sub:∀ b o,H b=some o->A.count b=0->A'.count b=0
 mono:∀ b,F b->F' b
 fnew:∀ b o,H b=some o->A.count b=0->F' b->F b
section
variable{F j l:γ->Prop}{H i k:Hp}{A A1 A2 T:List γ}
theorem O0.refl:O0 F H A F H A:=⟨λ _ _ e _=>e,λ _ _ _ e=>e,λ _ f=>f,λ _ _ _ _ f=>f⟩
theorem O0.trans(s:O0 F H A j i A1)(t:O0 j i A1 l k A2):O0 F H A l k A2 :=
 ⟨λ b o e q=>t.fr b o (s.fr b o e q) (s.sub b o e q),λ b o e q=>t.sub b o (s.fr b o e q) (s.sub b o e q),λ b f=>t.mono b (s.mono b f),λ b o e q f=>s.fnew b o e q (t.fnew b o (s.fr b o e q) (s.sub b o e q) f)⟩
theorem O0.same(s:Same H i):O0 F H A F i A:=⟨λ b o e _=>s b o e,λ _ _ _ e=>e,λ _ f=>f,λ _ _ _ _ f=>f⟩
theorem qa8{b:γ}{A:List γ}:b∈A↔A.count b≠0:=by
 rw[<- List.count_pos_iff];lia
theorem O0.kp(s:O0 F H A j i A1)(o:Ok F H A)(c:∀ b∈A,∃ o,H b=some o/\D8 o=true):Kp F H (λ b=>A.count b≠0) j i :=
 ⟨λ b u e w=>s.fr b u e (by lia),λ b w=>c b (qa8.mpr w),λ b w f=>w (o.fro b f),s.mono⟩
theorem Ok.left(o:Ok F H (T++A)):Ok F H T:=⟨λ b=>by have:=o.sep b;rw[zA0] at this;lia,λ b f=>by have:=o.fro b f;rw[zA0] at this;lia,o.ex⟩
theorem Ok.right(o:Ok F H (T++A)):Ok F H A:=⟨λ b=>by have:=o.sep b;rw[zA0] at this;lia,λ b f=>by have:=o.fro b f;rw[zA0] at this;lia,o.ex⟩
theorem Ok.count(o:Ok F H A)(h:∀ b,A1.count b<=A.count b):Ok F H A1:=⟨λ b=>zAj (h b) (o.sep b),λ b f=>by have:=o.fro b f;have:=h b;lia,o.ex⟩
theorem O0.frame(s:O0 F H A j i A1)(o:Ok F H (T++A))(c:∀ b∈T,∃ o,H b=some o/\D8 o=true)(d:Ok j i A1):Ok j i (T++A1)/\O0 F H (T++A) j i (T++A1):=by
 have a:∀ b,T.count b≠0->∃ u,H b=some u/\A.count b=0:=λ b h=>by
   obtain⟨u,e,_⟩:=c b (qa8.mpr h)
   have:=o.sep b
   rw[zA0] at this;exact⟨u,e,by lia⟩
 refine⟨⟨λ b=>?_,λ b f=>?_,d.ex⟩,λ b u e q=>?_,λ b u e q=>?_,s.mono,λ b u e q f=>?_⟩
 . rw[zA0]
   by_cases h:T.count b=0
   . have:=d.sep b;lia
   obtain⟨u,e,q⟩:=a b h;have g:=s.sub b u e q
   have:=o.sep b
   rw[zA0] at this;lia
 . rw[zA0,d.fro b f]
   by_cases h:T.count b=0
   . lia
   obtain⟨u,e,q⟩:=a b h
   have:=o.fro b (s.fnew b u e q f)
   rw[zA0] at this;lia
 . rw[zA0] at q;exact s.fr b u e (by lia)
 . rw[zA0] at q ⊢;have:=s.sub b u e (by lia);lia
 rw[zA0] at q;exact s.fnew b u e (by lia) f
theorem O0.count(s:O0 F H A j i A1)(h:∀ b,A2.count b<=A1.count b):O0 F H A j i A2:=⟨s.fr,λ b o e q=>by have:=s.sub b o e q;have:=h b;lia,s.mono,s.fnew⟩
theorem O0.pre(s:O0 F H A j i A1)(h:∀ b,A.count b=A2.count b):O0 F H A2 j i A1:=⟨λ b o e q=>s.fr b o e (by rw[h];exact q),λ b o e q=>s.sub b o e (by rw[h];exact q),s.mono,λ b o e q f=>s.fnew b o e (by rw[h];exact q) f⟩
end
structure New(H:Hp)(B:List γ):Prop where
 one:∀ b,B.count b<=1
 new:∀ b o,H b=some o->B.count b=0
section
variable{F:γ->Prop}{H H':Hp}{A B:List γ}
theorem New.nil:New H []:=⟨λ b=>by simp,λ b o _=>by simp⟩
theorem New.ok(n:New H B)(o:Ok F H A)(c:∀ b∈A,∃ o,H b=some o/\D8 o=true)(s:Same H H'):Ok F H' (B++A):=by
 refine⟨λ b=>?_,λ b f=>?_,λ b f=>?_⟩
 . rw[zA0]
   have a:=n.one b;have d:=o.sep b;by_cases h:A.count b=0
   . lia
   obtain⟨u,e,_⟩:=c b (qa8.mpr h)
   have:=n.new b u e
   lia
 . rw[zA0,o.fro b f]
   obtain⟨u,e⟩:=o.ex b f;rw[n.new b u e]
 obtain⟨u,e⟩:=o.ex b f;exact⟨u,s b u e⟩
theorem New.append{H1:Hp}{B1:List γ}(n:New H B)(s:Same H H1)(c:∀ b∈B,∃ o,H1 b=some o/\D8 o=true)(a:New H1 B1):New H (B++B1):=by
 refine⟨λ b=>?_,λ b o e=>?_⟩
 . rw[zA0]
   have d:=n.one b;have f:=a.one b;by_cases h:B.count b=0
   . lia
   obtain⟨u,e,_⟩:=c b (qa8.mpr h)
   have:=a.new b u e
   lia
 rw[zA0,n.new b o e,a.new b o (s b o e)]
theorem Ok.same(o:Ok F H A)(s:Same H H'):Ok F H' A:=⟨o.sep,o.fro,λ b f=>let ⟨u,e⟩:=o.ex b f;⟨u,s b u e⟩⟩
theorem New.stp(n:New H B)(s:Same H H'):O0 F H A F H' (B++A):=⟨λ b o e _=>s b o e,λ b o e q=>by rw[zA0,n.new b o e,q],λ _ f=>f,λ _ _ _ _ f=>f⟩
end
structure Exn where
 C:γ
 fs:List (Str×D)
def RepX(F:γ->Prop)(H:Hp)(e:γ)(x:Exn):Prop :=
 ∃ b,H e=some (Ie e x.C b false)/\(x.fs=[]∨∃ dx a,b=some dx/\H dx=some (XD dx a)/\a.map (·.1)=x.fs.map (·.1)/\Os F H (a.map (·.2)) (x.fs.map (·.2)) [])
abbrev Ds:=List D
abbrev DK:=D->Ds->Prop
abbrev XKd:=Exn->Ds->Prop
abbrev VT:=Ds->DK->XKd->Prop
abbrev VTT:=Ds->(Bool->Ds->Prop)->XKd->Prop
abbrev VTA:=Ds->(Ds->Ds->Prop)->XKd->Prop
abbrev FV:=Ds->Option D
structure Vc where
 E:St->XK
 W:Nat->Bool
 av:List (Option V)
 gv:List (Option V)
structure O1(c:Vc)(F:γ->Prop)(H:Hp)(a:St)(ds:Ds)(A:List γ):Prop where
 loc:Locs F H (a++c.gv) ds A
 ok:Ok F H A
 len:c.av.length=(a++c.gv).length
 ag:∀ i,c.W i=true->(a++c.gv)[i]? = c.av[i]?
theorem O1.same{c:Vc}{F:γ->Prop}{H H':Hp}{a:St}{ds:Ds}{A:List γ}(S:O1 c F H a ds A)(s:Same H H'):O1 c F H' a ds A:=⟨S.loc.same s,S.ok.same s,S.len,S.ag⟩
def Xc(c:Vc)(xe:XKd)(F:γ->Prop)(H:Hp)(A:List γ):Prop :=
 ∀ x a b' e H' F' A',xe x a->RepX F' H' e x->O1 c F' H' b' a A'->O0 F H A F' H' A'->c.E b' (.ref e) none H'
theorem Xc.step{c:Vc}{xe:XKd}{F F1:γ->Prop}{H H1:Hp}{A A1:List γ}(x:Xc c xe F H A)(s:O0 F H A F1 H1 A1):Xc c xe F1 H1 A1:=λ y a b' e H' F' A' h r S t=>x y a b' e H' F' A' h r S (s.trans t)
def kE(c:Vc)(b:St)(F:γ->Prop)(H:Hp)(A:List γ)(Q:VK):DK:=λ d a=>∀ v H' F' T A',Oy F' H' v d T->O1 c F' H' b a A'->Ok F' H' (T++A')->O0 F H A F' H' (T++A')->Q v H'
inductive LiftE(c:Vc)(t:VT)(a:St)(H:Hp)(Q:VK):Prop
 | mk (F:γ->Prop) (ds:Ds) (A:List γ) (xe:XKd) (S:O1 c F H a ds A) (x:Xc c xe F H A) (q:t ds (kE c a F H A Q) xe):LiftE c t a H Q
def Bh(c:Vc)(t:VT):TE:=LiftE c t
inductive LiftV(c:Vc)(own:Bool)(f:FV)(a:St)(H:Hp)(Q:VK):Prop
 | mk (F:γ->Prop) (ds:Ds) (A:List γ) (d:D) (S:O1 c F H a ds A) (e:f ds=some d) (q:∀ v H' B,Oy F H' v d B->Same H H'->(own=true->New H B)->Q v H'):LiftV c own f a H Q
def liftV(c:Vc)(own:Bool)(f:FV):TE:=LiftV c own f
inductive qaQ9(c:Vc)(own:Bool)(f:Ds->Option Ds)(a:St)(H:Hp)(Q:List V->Hp->Prop):Prop
 | mk (F:γ->Prop) (ds:Ds) (A:List γ) (xs:Ds) (S:O1 c F H a ds A) (e:f ds=some xs) (q:∀ vs H' B,Os F H' vs xs B->Same H H'->(own=true->New H B)->Q vs H'):qaQ9 c own f a H Q
def qaM4(c:Vc)(own:Bool)(f:Ds->Option Ds):TA:=qaQ9 c own f
inductive qaR1(c:Vc)(t:VTA)(a:St)(H:Hp)(Q:List V->Hp->Prop):Prop
 | mk (F:γ->Prop) (ds:Ds) (A:List γ) (xe:XKd) (S:O1 c F H a ds A) (x:Xc c xe F H A) (q:t ds (λ xs ds'=>∀ vs H' F' T A',Os F' H' vs xs T->O1 c F' H' a ds' A'->O0 F H A F' H' A'->Q vs H') xe):qaR1 c t a H Q
def qaD4(c:Vc)(t:VTA):TA:=qaR1 c t
inductive LiftT(c:Vc)(t:VTT)(a:St)(H:Hp)(Q:Bool->Hp->Prop):Prop
 | mk (F:γ->Prop) (ds:Ds) (A:List γ) (xe:XKd) (S:O1 c F H a ds A) (x:Xc c xe F H A) (q:t ds (λ b ds'=>∀ H' F' A',O1 c F' H' a ds' A'->O0 F H A F' H' A'->Q b H') xe):LiftT c t a H Q
def Dq(c:Vc)(t:VTT):TT:=LiftT c t
structure VE(c:Vc)(X:Cx)(e:Kj)(t:VT):Prop where
 h:PE X e (Bh c t)
 m:∀ ds (Q Q':DK) (xe xe':XKd),(∀ d ds',Q d ds'->Q' d ds')->(∀ x ds',xe x ds'->xe' x ds')->t ds Q xe->t ds Q' xe'
structure VV(c:Vc)(X:Cx)(e:Kj)(own:Bool)(f:FV):Prop where
 h:PE X e (liftV c own f)
structure VVs(c:Vc)(X:Cx)(es:List Kj)(own:Bool)(f:Ds->Option Ds):Prop where
 h:PA X es (qaM4 c own f)
structure VOs(c:Vc)(X:Cx)(es:List Kj)(t:VTA):Prop where
 h:PA X es (qaD4 c t)
 m:∀ ds (Q Q':Ds->Ds->Prop) (xe xe':XKd),(∀ d ds',Q d ds'->Q' d ds')->(∀ x ds',xe x ds'->xe' x ds')->t ds Q xe->t ds Q' xe'
structure VTe(c:Vc)(X:Cx)(e:Kj)(t:VTT):Prop where
 h:PT X e (Dq c t)
 m:∀ ds (Q Q':Bool->Ds->Prop) (xe xe':XKd),(∀ d ds',Q d ds'->Q' d ds')->(∀ x ds',xe x ds'->xe' x ds')->t ds Q xe->t ds Q' xe'
theorem PE.mono{X:Cx}{e:Kj}{t t':TE}(h:PE X e t)(i:∀ a H Q,t' a H Q->t a H Q):PE X e t':=λ D6 s a H Q I q=>h D6 s a H Q I (i a H Q q)
theorem PT.mono{X:Cx}{e:Kj}{t t':TT}(h:PT X e t)(i:∀ a H Q,t' a H Q->t a H Q):PT X e t':=λ D6 s a H Q I q=>h D6 s a H Q I (i a H Q q)
theorem PW.mono{X:Cx}{e:Kj}{t t':TT}(h:PW X e t)(i:∀ a H Q,t' a H Q->t a H Q):PW X e t':=λ w D6 s a H Q I q=>h w D6 s a H Q I (i a H Q q)
theorem PA.mono{X:Cx}{es:List Kj}{t t':TA}(h:PA X es t)(i:∀ a H Q,t' a H Q->t a H Q):PA X es t':=λ p D6 s a H Q I q=>h p D6 s a H Q I (i a H Q q)
theorem PS.mono{X:Cx}{st:Kk}{t t':TS}(h:PS X st t)(i:∀ D a H,t' D a H->t D a H):PS X st t':=λ D6 s a H D I q=>h D6 s a H D I (i D a H q)
theorem PSs.mono{X:Cx}{st:List Kk}{t t':TS}(h:PSs X st t)(i:∀ D a H,t' D a H->t D a H):PSs X st t':=λ D6 s a H D I q=>h D6 s a H D I (i D a H q)
def orF{α:Type}(o:Option α)(k:α->Prop):Prop:=match o with | some a=>k a | none=>False
theorem qa5{o:Option α}{k b:α->Prop}(h:∀ a,k a->b a):orF o k->orF o b:=by
 cases o with
 | none=>exact id
 | some a=>exact h a
theorem qa7{o:Option α}{k:α->Prop}:orF o k↔∃ a,o=some a/\k a:=by
 cases o with
 | none=>exact⟨λ h=>h.elim,λ ⟨_,e,_⟩=>by cases e⟩
 | some a=>exact⟨λ h=>⟨a,rfl,h⟩,λ ⟨b,e,h⟩=>by cases e;exact h⟩
section
variable{c:Vc}{X:Cx}{e:Kj}{F:γ->Prop}{H H':Hp}{t:St}{ds:Ds}{A:List γ}
theorem O1.new{B:List γ}(S:O1 c F H t ds A)(n:New H B)(s:Same H H'):Ok F H' (B++A):=n.ok S.ok S.loc.cells s
def B7(f:FV):VT:=λ ds Q _=>orF (f ds) λ d=>Q d ds
def Db(f:FV):VT:=λ ds Q _=>orF (f ds) λ d=>d.imm=true/\Q d ds
theorem qa4{f:FV}(h:VV c X e true f):VE c X e (B7 f):=by
 refine⟨PE.mono h.h λ t H Q a=>?_,λ b Q Q' g i j _=>qa5 λ d=>j d b⟩;obtain⟨F,b,A,g,S,x,q⟩:=a;obtain⟨d,e,q⟩:=qa7.mp q;exact⟨F,b,A,d,S,e,λ v H' B r s n=>q v H' F B A r (S.same s) (S.new (n rfl) s) ((n rfl).stp s)⟩
theorem qb5{own:Bool}{f:FV}(h:VV c X e own f):VE c X e (Db f):=by
 refine⟨PE.mono h.h λ t H Q a=>?_,λ b Q Q' g i j _=>qa5 λ d=>Nl (j d b)⟩;obtain⟨F,b,A,g,S,x,q⟩:=a;obtain⟨d,e,k,q⟩:=qa7.mp q;refine⟨F,b,A,d,S,e,λ v H' B r s _=>?_⟩
 have:=r.imm k
 subst this;exact q v H' F [] A r (S.same s) (S.ok.same s) (.same s)
theorem F5{d:D}(h:PE X e (tC v))(r:∀ F H,Oy F H v d []):VV c X e true (λ _=>some d) :=
 ⟨PE.mono h λ t H Q ⟨F,a,A,b,S,e,q⟩=>by cases e;exact q v H [] (r F H) (λ _ _ z=>z) λ _=>New.nil⟩
noncomputable def D.known:D->Bool
 | .u=>false
 | .hole _=>false
 | _=>true
def rdN(i:Nat):FV:=λ ds=>match ds[i]? with
 | some d=>if d.known=true then some d else none
 | none=>none
theorem ql8{d:D}:rdN i ds=some d↔ds[i]? = some d/\d.known=true:=by
 unfold rdN;cases h:ds[i]? with
 | none=>simp
 | some x =>
   dsimp only;split
   . rename_i hk;constructor
     . intro e;cases e;exact⟨rfl,hk⟩
     rintro⟨e,_⟩;exact e
   rename_i hk;constructor
   . intro e;cases e
   rintro⟨e,a⟩;cases e;exact absurd a hk
theorem O1.at{d:D}(S:O1 c F H t ds A)(hi:i < t.length)(h:ds[i]? = some d)(a:d.known=true):∃ v B,t[i]? = some (some v)/\Oy F H v d B/\∀ b,B.count b<=A.count b:=by
 obtain⟨σ1,o,σ2,e,f,A1,B,A2,g,e2,j,m,k,n,l,p⟩:=S.loc.split h;cases l with
 | no=>cases a
 | @so v _ _ r =>
   refine⟨v,B,?_,r,λ b=>by rw[k];simp only[zA0];lia⟩
   have:(t++c.gv)[i]? = some (some v):=by rw[g];exact qA0 j
   rwa[zAp hi] at this
theorem qaG4{x:Str}{pos:Pos}(h:PE X (.Name x pos) (E5 i))(hi:∀ D6 t H s,Oz X D6 t H s->i < t.length):VV c X (.Name x pos) false (rdN i):=by
 refine⟨λ D6 s t H Q I a=>?_⟩;obtain⟨F,g,A,d,S,e,q⟩:=a;refine h D6 s t H Q I ?_;obtain⟨e,b⟩:=ql8.mp e;obtain⟨v,B,f,r,_⟩:=S.at (hi D6 t H s I) e b;exact⟨v,f,q v H B r (λ _ _ z=>z) λ z=>by cases z⟩
theorem qn9{X:Cx}{x:Str}(a:X.N[i]? = some x):∀ D6 t H s,Oz X D6 t H s->i < t.length:=λ D6 t H s I=>by
 rw[I.len];exact(zA4.mp a).1
end
def Sub(H:Hp)(B B':List γ):Prop:=∀ b,B'.count b<=B.count b∨(B'.count b<=1/\H b=none)
theorem Sub.new{H H1:Hp}{B B':List γ}(s:Sub H1 B B')(n:New H B)(q:Same H H1):New H B':=by
 refine⟨λ b=>?_,λ b o e=>?_⟩
 . rcases s b with h | ⟨h,_⟩
   . have:=n.one b;lia
   exact h
 rcases s b with h | ⟨_,h⟩
 . have:=n.new b o e;lia
 rw[q b o e] at h;cases h
def OpS(nw:Bool)(r:List V->Hp->VK->Prop)(g:Ds->Option D):Prop:=∀ F H vs xs B d (Q:VK),Os F H vs xs B->g xs=some d ->
 (∀ v H' B',Oy F H' v d B'->Same H H'->(if nw=true then New H B' else Sub H B B')->Q v H')->r vs H Q
def A8(nw:Bool)(r:R2)(g:D->D->Option D):Prop:=∀ F H v w x y B d (Q:VK),Os F H [v,w] [x,y] B->g x y=some d ->
 (∀ v H' B',Oy F H' v d B'->Same H H'->(if nw=true then New H B' else Sub H B B')->Q v H')->r v w H Q
noncomputable def f2(g:D->D->Option D)(fa fb:FV):FV:=λ ds=>(fa ds).bind λ x=>(fb ds).bind λ y=>g x y
theorem qaE7{g:D->D->Option D}{fa fb:FV}{ds:Ds}{d:D}:f2 g fa fb ds=some d↔∃ x y,fa ds=some x/\fb ds=some y/\g x y=some d:=by
 unfold f2;cases a:fa ds with
 | none=>simp
 | some x=>cases b:fb ds with
   | none=>simp
   | some y=>simp
noncomputable def f1(g:D->Option D)(fa:FV):FV:=λ ds=>(fa ds).bind g
theorem qaE8{g:D->Option D}{fa:FV}{ds:Ds}{d:D}:f1 g fa ds=some d↔∃ x,fa ds=some x/\g x=some d:=by
 unfold f1;cases a:fa ds with
 | none=>simp
 | some x=>simp
theorem E9{F:γ->Prop}{H:Hp}{d e:D}{A B:List γ}(r:Oy F H v d A)(s:Oy F H w e B):Os F H [v,w] [d,e] (A++(B++[])):=.cons r (.cons s .nil)
section
variable{c:Vc}{X:Cx}{a b:Kj}{U Y nw:Bool}{fa fb:FV}{r:R2}{g:D->D->Option D}{O R:VT}
theorem op_vv(h:A8 nw r g):∀ N H Q,liftV c (nw||(U&&Y)) (f2 g fa fb) N H Q->tOp r (liftV c U fa) (liftV c Y fb) N H Q:=by
 rintro N H Q ⟨F,k,A,d,S,e,q⟩;obtain⟨x,y,m,n,p⟩:=qaE7.mp e;refine⟨F,k,A,x,S,m,λ v H1 B1 l a s=>⟨F,k,A,y,S.same a,n,λ w H2 B2 t i z=>?_⟩⟩;refine h F H2 v w x y _ d Q (E9 (l.same i) t) p λ u H3 B3 B C f=>?_
 refine q u H3 B3 B ((a.trans i).trans C) λ j=>?_
 cases nw with
 | true=>rw[if_pos rfl] at f;exact⟨f.one,λ b o e=>f.new b o (i b o (a b o e))⟩
 | false =>
   rw[if_neg (by decide)] at f;have j:=zAh.mp j
   have:=(s j.1).append a l.cells (z j.2)
   exact f.new (by rw[zAd];exact this) (a.trans i)
def t2(g:D->D->Option D)(O R:VT):VT:=λ ds Q xe=>O ds (λ x ds1=>R ds1 (λ y a=>orF (g x y) λ d=>Q d a) xe) xe
theorem qat8(j:VE c X a O)(k:VE c X b R):∀ ds (Q Q':DK) (xe f:XKd),(∀ d e,Q d e->Q' d e)->(∀ x e,xe x e->f x e)->t2 g O R ds Q xe->t2 g O R ds Q' f :=
 λ ds Q Q' xe f l i=>j.m _ _ _ _ _ (λ d n=>k.m _ _ _ _ _ (λ d h=>qa5 λ z=>l z h) i) i
theorem op_ee(s:VE c X a O)(i:VE c X b R)(h:A8 true r g):∀ N H Q,Bh c (t2 g O R) N H Q->tOp r (Bh c O) (Bh c R) N H Q:=by
 rintro N H Q ⟨F,t,A,o,S,x,q⟩;refine⟨F,t,A,o,S,x,s.m _ _ _ _ _ (λ p j q v H1 F1 T A1 y S1 B C=>?_) (λ _ _ z=>z) q⟩;have e:O0 F H A F1 H1 A1:=C.count λ b=>by rw[zA0];lia
 refine⟨F1,j,A1,o,S1,x.step e,i.m _ _ _ _ _ (λ D E q w H2 F2 T2 A2 G S2 L I=>?_) (λ _ _ z=>z) q⟩;obtain⟨d,J,q⟩:=qa7.mp q;have f:O0 F1 H1 A1 F2 H2 A2:=I.count λ b=>by rw[zA0];lia
 have k:Oy F2 H2 v p T:=y.keep (f.kp S1.ok S1.loc.cells) λ b i M=>by
   have:=B.sep b
   rw[zA0] at this
   have:=qa8.mp i
   lia
 refine h F2 H2 v w p D _ d Q (E9 k G) J λ u H3 B3 K l n=>?_
 rw[if_pos rfl] at n;exact q u H3 F2 B3 A2 K (S2.same l) (S2.new n l) ((e.trans f).trans (n.stp l))
def t2v(g:D->D->Option D)(O:VT)(fb:FV):VT:=λ ds Q xe=>O ds (λ x ds1=>orF ((fb ds1).bind (g x)) λ d=>Q d ds1) xe
theorem qaz1(h:VE c X a O):∀ ds (Q Q':DK) (xe e:XKd),(∀ d b,Q d b->Q' d b)->(∀ x b,xe x b->e x b)->t2v g O fb ds Q xe->t2v g O fb ds Q' e :=
 λ ds Q Q' xe e i j=>h.m _ _ _ _ _ (λ d f=>qa5 λ z=>i z f) j
theorem op_ev(s:VE c X a O)(h:A8 true r g):∀ N H Q,Bh c (t2v g O fb) N H Q->tOp r (Bh c O) (liftV c Y fb) N H Q:=by
 rintro N H Q ⟨F,t,A,B,S,x,q⟩;refine⟨F,t,A,B,S,x,s.m _ _ _ _ _ (λ C j q v H1 F1 T A1 D S1 L E=>?_) (λ _ _ z=>z) q⟩;have k:O0 F H A F1 H1 A1:=E.count λ b=>by rw[zA0];lia
 obtain⟨d,l,q⟩:=qa7.mp q;obtain⟨y,G,l⟩:=zA1.mp l;refine⟨F1,j,A1,y,S1,G,λ w H2 B2 I n _=>?_⟩;refine h F1 H2 v w C y _ d Q (E9 (D.same n) I) l λ u H3 B3 J K p=>?_
 rw[if_pos rfl] at p;have f:=n.trans K;have i:New H1 B3:=⟨p.one,λ b o e=>p.new b o (n b o e)⟩
 exact q u H3 F1 B3 A1 J (S1.same f) (S1.new i f) (k.trans (i.stp f))
def OpS1(nw:Bool)(r:V->Hp->VK->Prop)(g:D->Option D):Prop:=∀ F H v x B d (Q:VK),Oy F H v x B->g x=some d ->
 (∀ v H' B',Oy F H' v d B'->Same H H'->(if nw=true then New H B' else Sub H B B')->Q v H')->r v H Q
def t1(g:D->Option D)(O:VT):VT:=λ ds Q xe=>O ds (λ x ds1=>orF (g x) λ d=>Q d ds1) xe
variable{W:V->Hp->VK->Prop}{g1:D->Option D}
theorem op_v(h:OpS1 nw W g1):∀ N H Q,liftV c (nw||U) (f1 g1 fa) N H Q->liftV c U fa N H (λ x H1=>W x H1 Q):=by
 rintro N H Q ⟨F,g,A,d,S,e,q⟩;obtain⟨x,i,j⟩:=qaE8.mp e;refine⟨F,g,A,x,S,i,λ v H1 B1 W f k=>?_⟩;refine h F H1 v x _ d Q W j λ u H3 B3 l m a=>?_
 refine q u H3 B3 l (f.trans m) λ n=>?_
 cases nw with
 | true=>rw[if_pos rfl] at a;exact⟨a.one,λ b o e=>a.new b o (f b o e)⟩
 | false=>rw[if_neg (by decide)] at a;exact a.new (k n) f
end
theorem qU6{F F1:γ->Prop}{H H1 H3:Hp}{A A1 T B:List γ}(d:Ok F1 H1 (T++A1))(c:O0 F H A F1 H1 (T++A1))(j:∀ b∈A1,∃ o,H1 b=some o/\D8 o=true)(i:Same H1 H3)(g:Sub H1 T B):Ok F1 H3 (B++A1)/\O0 F H A F1 H3 (B++A1):=by
 refine⟨⟨λ b=>?_,λ b f=>?_,λ b f=>let ⟨u,e⟩:=d.ex b f;⟨u,i b u e⟩⟩,λ b o e q=>i b o (c.fr b o e q),λ b o e q=>?_,c.mono,c.fnew⟩
 . have:=d.sep b
   rw[zA0] at this ⊢;rcases g b with h | ⟨h,a⟩
   . lia
   by_cases k:A1.count b=0
   . lia
   obtain⟨o,e,_⟩:=j b (qa8.mpr k);rw[e] at a;cases a
 . have:=d.fro b f
   rw[zA0] at this ⊢;rcases g b with h | ⟨h,a⟩
   . lia
   obtain⟨o,e⟩:=d.ex b f;rw[e] at a;cases a
 have:=c.sub b o e q
 rw[zA0] at this ⊢;rcases g b with h | ⟨h,a⟩
 . lia
 rw[c.fr b o e q] at a;cases a
section
variable{c:Vc}{X:Cx}{a b:Kj}{Z ob nw:Bool}{fa fb:FV}{r:R2}{g:D->D->Option D}{U Y:VT}
theorem qaU2(D:VE c X a U)(e:VE c X b Y)(h:A8 false r g):∀ R H Q,Bh c (t2 g U Y) R H Q->tOp r (Bh c U) (Bh c Y) R H Q:=by
 rintro R H Q ⟨F,E,A,l,S,x,q⟩;refine⟨F,E,A,l,S,x,D.m _ _ _ _ _ (λ n f q v H1 F1 T A1 o S1 p s=>?_) (λ _ _ z=>z) q⟩;have i:O0 F H A F1 H1 A1:=s.count λ b=>by rw[zA0];lia
 refine⟨F1,f,A1,l,S1,x.step i,e.m _ _ _ _ _ (λ G I q w H2 F2 T2 A2 J S2 K t=>?_) (λ _ _ z=>z) q⟩;obtain⟨d,L,q⟩:=qa7.mp q;have j:Oy F2 H2 v n T:=o.keep (t.kp S1.ok S1.loc.cells) λ b e P=>by
   have:=p.sep b
   rw[zA0] at this
   have:=qa8.mp e
   lia
 obtain⟨y,B⟩:=t.frame p o.cells K;refine h F2 H2 v w n G _ d Q (E9 j J) L λ u H3 B3 M C k=>?_
 rw[if_neg (by decide)] at k;rw[<- zAq] at y B;obtain⟨N,O⟩:=qU6 y (s.trans B) S2.loc.cells C (by rw[zAd] at k;exact k);exact q u H3 F2 B3 A2 M (S2.same C) N O
def Ik(g:D->D->Option D)(U:VT)(fb:FV):VT:=λ ds Q xe=>U ds (λ x ds1=>orF (fb ds1) λ y=>y.imm=true/\orF (g x y) λ d=>Q d ds1) xe
theorem qan1(h:VE c X a U):∀ ds (Q Q':DK) (xe e:XKd),(∀ d b,Q d b->Q' d b)->(∀ x b,xe x b->e x b)->Ik g U fb ds Q xe->Ik g U fb ds Q' e :=
 λ ds Q Q' xe e i j=>h.m _ _ _ _ _ (λ d f=>qa5 λ y=>Nl (qa5 λ z=>i z f)) j
theorem qaU1(p:VE c X a U)(h:A8 false r g):∀ R H Q,Bh c (Ik g U fb) R H Q->tOp r (Bh c U) (liftV c ob fb) R H Q:=by
 rintro R H Q ⟨F,s,A,t,S,x,q⟩;refine⟨F,s,A,t,S,x,p.m _ _ _ _ _ (λ B i q v H1 F1 T A1 C S1 D E=>?_) (λ _ _ z=>z) q⟩;obtain⟨y,G,I,q⟩:=qa7.mp q;obtain⟨d,J,q⟩:=qa7.mp q;refine⟨F1,i,A1,y,S1,G,λ w H2 B2 k j _=>?_⟩
 have:=k.imm I
 subst this;refine h F1 H2 v w B y _ d Q (E9 (C.same j) k) J λ u H3 B3 K L l=>?_
 rw[if_neg (by decide),zAd,zAd] at l;have f:=j.trans L;have M:Sub H1 T B3:=λ b=>(l b).imp id λ ⟨N,n⟩=>⟨N,by
   cases e:H1 b with
   | none=>rfl
   | some o=>rw[j b o e] at n;cases n⟩
 obtain⟨O,P⟩:=qU6 D E S1.loc.cells f M;exact q u H3 F1 B3 A1 K (S1.same f) O P
theorem qa6:VVs c X [] true (λ _=>some []):=⟨PA.mono ql9 λ R H Q ⟨F,a,A,b,S,e,q⟩=>by cases e;exact q [] H [] .nil (λ _ _ z=>z) λ _=>New.nil⟩
noncomputable def A6(fa:FV)(a:Ds->Option Ds):Ds->Option Ds:=λ ds=>(fa ds).bind λ x=>(a ds).bind λ xs=>some (x::xs)
theorem qar7{fa:FV}{a:Ds->Option Ds}{ds xs:Ds}:A6 fa a ds=some xs↔∃ x r,fa ds=some x/\a ds=some r/\xs=x::r:=by
 unfold A6;cases b:fa ds with
 | none=>simp
 | some x=>cases c:a ds with
   | none=>simp
   | some y=>simp[eq_comm]
theorem qa2{e:Kj}{es:List Kj}{own:Bool}{f:Ds->Option Ds}(k:VV c X e Z fa)(l:VVs c X es own f)(m:Jp (e::es) X.env=(false,eval e X.env)::Jp es X.env):VVs c X (e::es) (Z&&own) (A6 fa f):=by
 refine⟨PA.mono (qc5 k.h l.h m) λ R H Q b=>?_⟩;obtain⟨F,g,A,u,S,e,q⟩:=b;obtain⟨x,r,n,e2,rfl⟩:=qar7.mp e;refine⟨F,g,A,x,S,n,λ v H1 B1 i d o=>⟨F,g,A,r,S.same d,e2,λ p H2 B2 s j t=>?_⟩⟩;refine q (v::p) H2 (B1++B2) (.cons (i.same j) s) (d.trans j) λ a=>?_
 have a:=zAh.mp a;exact(o a.1).append d i.cells (t a.2)
variable{rc:List V->Hp->VK->Prop}{W:Ds->Option D}
theorem qaL1{own:Bool}{f:Ds->Option Ds}(h:OpS nw rc W):∀ R H Q,liftV c (nw||own) (λ ds=>(f ds).bind W) R H Q->tCB rc (qaM4 c own f) R H Q:=by
 rintro R H Q ⟨F,ds,A,d,S,e,q⟩;obtain⟨i,j,e2⟩:=zA1.mp e;refine⟨F,ds,A,i,S,j,λ k H1 B1 l g m=>h F H1 k i B1 d Q l e2 λ u H3 B3 n p a=>q u H3 B3 n (g.trans p) λ r=>?_⟩;cases nw with
 | true=>rw[if_pos rfl] at a;exact⟨a.one,λ b o e=>a.new b o (g b o e)⟩
 | false=>rw[if_neg (by decide)] at a;exact a.new (m r) g
def tcO(W:Ds->Option D)(t:VTA):VT:=λ ds Q xe=>t ds (λ xs ds1=>orF (W xs) λ d=>Q d ds1) xe
theorem qay9{es:List Kj}{t:VTA}(f:VOs c X es t):∀ ds (Q Q':DK) (xe b:XKd),(∀ d a,Q d a->Q' d a)->(∀ x a,xe x a->b x a)->tcO W t ds Q xe->tcO W t ds Q' b :=
 λ ds Q Q' xe b g h=>f.m _ _ _ _ _ (λ d e=>qa5 λ z=>g z e) h
theorem opc_o{es:List Kj}{t:VTA}(e:VOs c X es t)(h:OpS true rc W):∀ R H Q,Bh c (tcO W t) R H Q->tCB rc (qaD4 c t) R H Q:=by
 rintro R H Q ⟨F,f,A,g,S,x,q⟩;refine⟨F,f,A,g,S,x,e.m _ _ _ _ _ (λ i j q k H1 F1 T A1 l S1 n=>?_) (λ _ _ z=>z) q⟩;obtain⟨d,o,q⟩:=qa7.mp q;refine h F1 H1 k i T d Q l o λ u H3 B3 p a b=>?_
 rw[if_pos rfl] at b;exact q u H3 F1 B3 A1 p (S1.same a) (S1.new b a) (n.trans (b.stp a))
end
def D.kids:D->List D
 | .q ds=>ds
 | .l false ds=>ds
 | .dct false kvs=>kvs.map (·.2)
 | .ins false _ fs=>fs.map (·.2)
 | _=>[]
noncomputable def He{a:Type}:List (a×D)->Nat->D->List (a×D)
 | [],_,_=>[]
 | (k,_)::r,0,x=>(k,x)::r
 | p::r,n+1,x=>p::He r n x
theorem qP0{c:Type}:∀(l:List (c×D))(n:Nat)(x:D),(He l n x).map (·.1)=l.map (·.1)/\(He l n x).map (·.2)=(l.map (·.2)).set n x
 | [],_,_=>⟨rfl,rfl⟩
 | (k,_)::r,0,x=>⟨rfl,rfl⟩
 | p::r,n+1,x=>by
   obtain⟨a,b⟩:=qP0 r n x;simp only[He,zAy,a,b,List.set_cons_succ,and_self]
def D.setK:D->Nat->D->D
 | .q ds,n,x=>.q (ds.set n x)
 | .l z ds,n,x=>.l z (ds.set n x)
 | .dct z kvs,n,x=>.dct z (He kvs n x)
 | .ins z C fs,n,x=>.ins z C (He fs n x)
 | d,_,_=>d
def Lnk(H:Hp)(u:V)(n:Nat)(w:V):Prop:=∃ a,u=.ref a /\
 ((∃ vs,H a=some (.q vs)/\vs[n]? = some w)∨(∃ vs,H a=some (.l vs)/\vs[n]? = some w)∨(∃ kvs,H a=some (.dK kvs)/\(kvs.map (·.2))[n]? = some w)∨∃ C dx fs,H a=some (.ins C dx fs)/\(fs.map (·.2))[n]? = some w)
section
variable{F F':γ->Prop}{H H':Hp}
theorem Os.split:∀{ds:List D}{vs:List V}{A:List γ}{i:Nat}{d:D},Os F H vs ds A->ds[i]? = some d ->
   ∃ b v c ds1 a A1 B A2,vs=b++v::c/\ds=ds1++d::a/\b.length=i/\ds1.length=i/\A=A1++(B++A2)/\Os F H b ds1 A1/\Oy F H v d B/\Os F H c a A2:=by
 intro ds
 induction ds with
 | nil=>intro K A i d _ h;simp at h
 | cons e r f =>
   intro K A i d L h;cases i with
   | zero =>
     have:e=d:=by simpa using h
     subst this;cases L with
     | cons q t=>exact⟨[],_,_,[],_,[],_,_,rfl,rfl,rfl,rfl,rfl,.nil,q,t⟩
   | succ i =>
     have h:r[i]? = some d:=by simpa using h
     cases L with
     | @cons v _ B0 _ _ A0 q t =>
       obtain⟨σ1,o,σ2,ds1,a,A1,B,A2,g,e2,j,k,l,m,n,p⟩:=f t h;exact⟨v::σ1,o,σ2,_::ds1,a,B0++A1,B,A2,by rw[g];rfl,by rw[e2];rfl,by simp[j],by simp[k],by rw[l,zAq],.cons q m,n,p⟩
theorem Os.append{a:List V}{ds es:List D}{A B:List γ}(r:Os F H vs ds A)(t:Os F H a es B):Os F H (vs++a) (ds++es) (A++B):=by
 induction vs generalizing ds A with
 | nil=>cases r;exact t
 | cons v vs b =>
   cases r with
   | cons h c=>rw[zAq];exact .cons h (b c)
theorem Os.kid{ds:List D}{A:List γ}{d:D}(r:Os F H vs ds A)(h:ds[n]? = some d):∃(w:V)(B C:List γ),vs[n]? = some w/\Oy F H w d B/\(∀ b,A.count b=B.count b+C.count b) /\
   ∀{F':γ->Prop}{H':Hp}{W:γ->Prop}(d':D)(B':List γ),Kp F H W F' H'->(∀ b∈C,¬ W b)->Oy F' H' w d' B'->∃ A':List γ,Os F' H' vs (ds.set n d') A'/\∀ b,A'.count b=B'.count b+C.count b:=by
 obtain⟨f,v,g,i,j,A1,B,A2,c,e2,l,m,o,p,q,s⟩:=r.split h;refine⟨v,B,A1++A2,by rw[c];exact qA0 l,q,λ b=>by rw[o];simp only[zA0];lia,λ{F' H' W} d' B' k e t=>⟨A1++(B'++A2),?_,λ b=>by simp only[zA0];lia⟩⟩;rw[c,e2,qo0 m];exact(p.keep k λ b a=>e b (zA8.mpr (.inl a))).append (.cons t (s.keep k λ b a=>e b (zA8.mpr (.inr a))))
theorem Oy.kid{p:V}{d0 d:D}{A:List γ}(r:Oy F H p d0 A)(h:d0.kids[n]? = some d):∃(w:V)(B C:List γ),Lnk H p n w/\Oy F H w d B/\(∀ b,A.count b=B.count b+C.count b) /\
   ∀{F':γ->Prop}{H':Hp}{W:γ->Prop}(d':D)(B':List γ),Kp F H W F' H'->(∀ b∈C,¬ W b)->Oy F' H' w d' B'->∃ A':List γ,Oy F' H' p (d0.setK n d') A'/\∀ b,A'.count b=B'.count b+C.count b:=by
 cases r with
 | @q a vs ds _ e r =>
   obtain⟨w,B,C,f,g,i,j⟩:=r.kid (n:=n) h;refine⟨w,B,C,⟨a,rfl,.inl ⟨vs,e,f⟩⟩,g,i,λ{F' H' W} d' B' k c l=>?_⟩;obtain⟨A',m,q2⟩:=j d' B' k c l;exact⟨A',.q (k.q e) m,q2⟩
 | @l a vs ds A e r =>
   obtain⟨w,B,C,f,g,i,j⟩:=r.kid (n:=n) h;refine⟨w,B,a::C,⟨a,rfl,.inr (.inl ⟨vs,e,f⟩)⟩,g,λ b=>by rw[zAn,zAn,i];lia,λ{F' H' W} d' B' k c l=>?_⟩;obtain⟨A',m,q2⟩:=j d' B' k (λ b o=>c b (zA7 _ o)) l;exact⟨a::A',.l (k.fr a _ e (c a zAf)) m,λ b=>by rw[zAn,zAn,q2];lia⟩
 | @dct a kvs kds A e q r =>
   obtain⟨w,B,C,f,g,i,j⟩:=r.kid (n:=n) h;refine⟨w,B,a::C,⟨a,rfl,.inr (.inr (.inl ⟨kvs,e,f⟩))⟩,g,λ b=>by rw[zAn,zAn,i];lia,λ{F' H' W} d' B' k c l=>?_⟩;obtain⟨A',m,q2⟩:=j d' B' k (λ b o=>c b (zA7 _ o)) l;obtain⟨s,t⟩:=qP0 kds n d';exact⟨a::A',.dct (k.fr a _ e (c a zAf)) (q.trans s.symm) (by rw[t];exact m),λ b=>by rw[zAn,zAn,q2];lia⟩
 | @ins a C0 dx fvs fds A e q r =>
   obtain⟨w,B,C,f,g,i,j⟩:=r.kid (n:=n) h;refine⟨w,B,a::C,⟨a,rfl,.inr (.inr (.inr ⟨C0,dx,fvs,e,f⟩))⟩,g,λ b=>by rw[zAn,zAn,i];lia,λ{F' H' W} d' B' k c l=>?_⟩;obtain⟨A',m,q2⟩:=j d' B' k (λ b o=>c b (zA7 _ o)) l;obtain⟨s,t⟩:=qP0 fds n d';exact⟨a::A',.ins (k.fr a _ e (c a zAf)) (q.trans s.symm) (by rw[t];exact m),λ b=>by rw[zAn,zAn,q2];lia⟩
 | _=>cases (show (none:Option D)=some _ from h)
def D.getP:D->List Nat->Option D
 | d,[]=>some d
 | d,n::p=>match d.kids[n]? with
   | some e=>e.getP p
   | none=>none
def D.setP:D->List Nat->D->D
 | _,[],x=>x
 | d,n::p,x=>match d.kids[n]? with
   | some e=>d.setK n (e.setP p x)
   | none=>d
def Walk(H:Hp):V->List Nat->V->Prop
 | u,[],w=>u=w
 | u,n::p,w=>∃ v,Lnk H u n v/\Walk H v p w
theorem Oy.path:∀{p:List Nat}{a:V}{d0 d:D}{A:List γ},Oy F H a d0 A->d0.getP p=some d->∃(w:V)(B C:List γ),Walk H a p w/\Oy F H w d B/\(∀ b,A.count b=B.count b+C.count b) /\
   ∀{F':γ->Prop}{H':Hp}{W:γ->Prop}(d':D)(B':List γ),Kp F H W F' H'->(∀ b∈C,¬ W b)->Oy F' H' w d' B'->∃ A':List γ,Oy F' H' a (d0.setP p d') A'/\∀ b,A'.count b=B'.count b+C.count b:=by
 intro p
 induction p with
 | nil =>
   intro a d0 d A r h;cases h;exact⟨a,A,[],rfl,r,λ b=>by simp,λ{F' H' W} d' B' k f g=>⟨B',g,λ b=>by simp⟩⟩
 | cons n p j =>
   intro a d0 d A r h;unfold D.getP at h;cases c:d0.kids[n]? with
   | none=>rw[c] at h;cases h
   | some e =>
     rw[c] at h;obtain⟨l,B1,C1,m,o,q,s⟩:=r.kid c;obtain⟨w,B,C,t,u,v,x⟩:=j o h;refine⟨w,B,C++C1,⟨l,m,t⟩,u,λ b=>by rw[q,v,zA0];lia,λ{F' H' W} d' B' k f g=>?_⟩;obtain⟨A1,y,q2⟩:=x d' B' k (λ b i=>f b (zA8.mpr (.inl i))) g;obtain⟨A2,z,E⟩:=s (e.setP p d') A1 k (λ b i=>f b (zA8.mpr (.inr i))) y;refine⟨A2,?_,λ b=>by rw[E,q2,zA0];lia⟩;unfold D.setP;rw[c];exact z
def A9(ds:Ds)(i:Nat)(p:List Nat):Option D:=match ds[i]? with
 | some d=>d.getP p
 | none=>none
def Bf(ds:Ds)(i:Nat)(p:List Nat)(x:D):Ds:=match ds[i]? with
 | some d=>ds.set i (d.setP p x)
 | none=>ds
theorem qaj6{p:List Nat}{d:D}(h:D.getP .u p=some d):p=[]/\d=.u:=by
 cases p with
 | nil=>cases h;exact⟨rfl,rfl⟩
 | cons n p=>cases (show (none:Option D)=some _ from h)
theorem Locs.place{K:List (Option V)}{ds:Ds}{A:List γ}{p:List Nat}{d:D}(L:Locs F H K ds A)(h:A9 ds i p=some d)(g:d≠.u):∃(u w:V)(B C:List γ),K[i]? = some (some u)/\Walk H u p w/\Oy F H w d B/\(∀ b,A.count b=B.count b+C.count b) /\
   ∀{F':γ->Prop}{H':Hp}{W:γ->Prop}(d':D)(B':List γ),Kp F H W F' H'->(∀ b∈C,¬ W b)->Oy F' H' w d' B'->∃ A':List γ,Locs F' H' K (Bf ds i p d') A'/\∀ b,A'.count b=B'.count b+C.count b:=by
 unfold A9 at h;cases c:ds[i]? with
 | none=>rw[c] at h;cases h
 | some J =>
   rw[c] at h;obtain⟨σ1,o,σ2,j,l,A1,B0,A2,f,e2,m,n,q,s,t,v⟩:=L.split c;cases t with
   | no=>exact absurd (qaj6 h).2 g
   | @so u _ _ r =>
     obtain⟨w,B,C,x,y,z,E⟩:=r.path h;refine⟨u,w,B,A1++(C++A2),by rw[f];exact qA0 m,x,y,λ b=>by rw[q];simp only[zA0,z];lia,λ{F' H' W} d' B' k e G=>?_⟩;obtain⟨A',I,q2⟩:=E d' B' k (λ b a=>e b (zA8.mpr (.inr (zA8.mpr (.inl a))))) G;refine⟨A1++(A'++A2),?_,λ b=>by simp only[zA0,q2];lia⟩;unfold Bf;rw[c,f];dsimp only;rw[e2,qo0 n];exact(s.keep k λ b a=>e b (zA8.mpr (.inl a))).append (.so I (v.keep k λ b a=>e b (zA8.mpr (.inr (zA8.mpr (.inr a))))))
theorem Lnk.fn{u:V}(h:Lnk H u n v)(h':Lnk H u n w):v=w:=by
 obtain⟨a,rfl,h⟩:=h;obtain⟨b,e,h'⟩:=h';cases e;rcases h with⟨vs,e,h⟩ | ⟨vs,e,h⟩ | ⟨vs,e,h⟩ | ⟨C,dx,vs,e,h⟩<;>rcases h' with⟨vs',e',h'⟩ | ⟨vs',e',h'⟩ | ⟨vs',e',h'⟩ | ⟨C',dx',vs',e',h'⟩<;>rw[e] at e'<;>cases e'<;>rw[h] at h'<;>exact Nm h'
theorem Walk.fn:∀{p:List Nat}{u v w:V},Walk H u p v->Walk H u p w->v=w
 | [],_,_,_,h,h'=>h.symm.trans h'
 | n::p,_,_,_,⟨x,h1,h2⟩,⟨y,h3,h4⟩=>by
   cases h1.fn h3;exact Walk.fn h2 h4
theorem Lnk.same{u:V}(h:Lnk H u n v)(s:Same H H'):Lnk H' u n v:=by
 obtain⟨a,rfl,h⟩:=h;refine⟨a,rfl,?_⟩;rcases h with⟨vs,e,h⟩ | ⟨vs,e,h⟩ | ⟨vs,e,h⟩ | ⟨C,dx,vs,e,h⟩
 . exact .inl ⟨vs,s _ _ e,h⟩
 . exact .inr (.inl ⟨vs,s _ _ e,h⟩)
 . exact .inr (.inr (.inl ⟨vs,s _ _ e,h⟩))
 exact .inr (.inr (.inr ⟨C,dx,vs,s _ _ e,h⟩))
theorem Walk.same:∀{p:List Nat}{u v:V},Walk H u p v->Same H H'->Walk H' u p v
 | [],_,_,h,_=>h
 | n::p,_,_,⟨x,h1,h2⟩,s=>⟨x,h1.same s,h2.same s⟩
end
section
variable{c:Vc}{X:Cx}{b:Kj}{nw:Bool}{r:R2}{g:D->D->Option D}{U:VT}
def t2n(g:D->D->Option D)(i:Nat)(U:VT):VT:=λ ds Q xe=>(rdN i ds).isSome=true/\U ds (λ y ds1=>orF ((rdN i ds1).bind λ x=>g x y) λ d=>Q d ds1) xe
theorem qaz2(h:VE c X b U):∀ ds (Q Q':DK) (xe e:XKd),(∀ d a,Q d a->Q' d a)->(∀ x a,xe x a->e x a)->t2n g i U ds Q xe->t2n g i U ds Q' e :=
 λ ds Q Q' xe e j k=>Nl (h.m _ _ _ _ _ (λ d f=>qa5 λ z=>j z f) k)
theorem O1.name{F:γ->Prop}{H:Hp}{R:St}{ds:Ds}{A:List γ}{d:D}(S:O1 c F H R ds A)(hi:i < R.length)(h:rdN i ds=some d):∃ v B,R[i]? = some (some v)/\Oy F H v d B/\∀ b,B.count b<=A.count b :=
 let ⟨e,k⟩:=ql8.mp h
 S.at hi e k
theorem op_ne{R:St}{H:Hp}(o:VE c X b U)(h:A8 true r g)(hi:i < R.length)(q:Bh c (t2n g i U) R H Q):tOp r (E5 i) (Bh c U) R H Q:=by
 obtain⟨F,p,A,s,S,x,t,q⟩:=q;obtain⟨L,e⟩:=zB0.mp t;obtain⟨v,B0,n,_,_⟩:=S.name hi e;refine⟨v,n,F,p,A,s,S,x,o.m _ _ _ _ _ (λ C D q w H1 F1 T A1 E S1 M G=>?_) (λ _ _ z=>z) q⟩;have f:O0 F H A F1 H1 A1:=G.count λ b=>by rw[zA0];lia
 obtain⟨d,j,q⟩:=qa7.mp q;obtain⟨y,I,j⟩:=zA1.mp j;obtain⟨N,B,a,J,_⟩:=S1.name hi I;rw[n] at a;cases a;refine h F1 H1 v w y C _ d Q (E9 J E) j λ u H3 B3 K k l=>?_
 rw[if_pos rfl] at l;exact q u H3 F1 B3 A1 K (S1.same k) (S1.new l k) (f.trans (l.stp k))
def Il(g:D->D->Option D)(i:Nat)(U:VT):VT:=λ ds Q xe=>(rdN i ds).isSome=true/\U ds (λ y ds1=>orF ((rdN i ds1).bind λ x=>g x y) λ d=>d.imm=true/\Q d ds1) xe
theorem qan2(h:VE c X b U):∀ ds (Q Q':DK) (xe e:XKd),(∀ d a,Q d a->Q' d a)->(∀ x a,xe x a->e x a)->Il g i U ds Q xe->Il g i U ds Q' e :=
 λ ds Q Q' xe e j k=>Nl (h.m _ _ _ _ _ (λ d f=>qa5 λ z=>Nl (j z f)) k)
theorem qaT7{R:St}{H:Hp}(o:VE c X b U)(h:A8 nw r g)(hi:i < R.length)(q:Bh c (Il g i U) R H Q):tOp r (E5 i) (Bh c U) R H Q:=by
 obtain⟨F,p,A,s,S,x,t,q⟩:=q;obtain⟨L,e⟩:=zB0.mp t;obtain⟨v,B0,l,_,_⟩:=S.name hi e;refine⟨v,l,F,p,A,s,S,x,o.m _ _ _ _ _ (λ C D q w H1 F1 T A1 E S1 M G=>?_) (λ _ _ z=>z) q⟩;have f:O0 F H A F1 H1 A1:=G.count λ b=>by rw[zA0];lia
 obtain⟨d,j,I,q⟩:=qa7.mp q;obtain⟨y,J,j⟩:=zA1.mp j;obtain⟨N,B,a,K,_⟩:=S1.name hi J;rw[l] at a;cases a;refine h F1 H1 v w y C _ d Q (E9 K E) j λ u H3 B3 n k O=>?_
 have:=n.imm I
 subst this;exact q u H3 F1 [] A1 n (S1.same k) (S1.ok.same k) (f.trans (.same k))
end
section
variable{F:γ->Prop}{H:Hp}{K:No}
theorem Oy.lst_inv{ds:List D}{B:List γ}(r:Oy F H v (.l z ds) B):∃ a vs A,v=.ref a/\H a=some (.l vs)/\Os F H vs ds A/\∀ b,A.count b<=B.count b:=by
 cases r with
 | l h r=>exact⟨_,_,_,rfl,h,r,λ b=>by rw[zAn];lia⟩
 | lstZ h f r=>exact⟨_,_,_,rfl,h,r,λ b=>zA2 _⟩
theorem Oy.tup_inv{ds:List D}{B:List γ}(r:Oy F H v (.q ds) B):∃ a vs,v=.ref a/\H a=some (.q vs)/\Os F H vs ds B:=by
 cases r with
 | q h r=>exact⟨_,_,rfl,h,r⟩
theorem Oy.dct_inv{c:List (Key×D)}{B:List γ}(r:Oy F H v (.dct z c) B):∃ a kvs A,v=.ref a/\H a=some (.dK kvs)/\kvs.map (·.1)=c.map (·.1)/\Os F H (kvs.map (·.2)) (c.map (·.2)) A/\∀ b,A.count b<=B.count b:=by
 cases r with
 | dct h e r=>exact⟨_,_,_,rfl,h,e,r,λ b=>by rw[zAn];lia⟩
 | dctZ h f e r=>exact⟨_,_,_,rfl,h,e,r,λ b=>zA2 _⟩
theorem Oy.ins_inv{C:γ}{c:List (Str×D)}{B:List γ}(r:Oy F H v (.ins z C c) B):∃ a dx d A,v=.ref a/\H a=some (.ins C dx d)/\d.map (·.1)=c.map (·.1)/\Os F H (d.map (·.2)) (c.map (·.2)) A/\∀ b,A.count b<=B.count b:=by
 cases r with
 | ins h e r=>exact⟨_,_,_,_,rfl,h,e,r,λ b=>by rw[zAn];lia⟩
 | insZ h f e r=>exact⟨_,_,_,_,rfl,h,e,r,λ b=>zA2 _⟩
noncomputable def D.elems:D->Option Ds
 | .l _ ds=>some ds
 | .q ds=>some ds
 | _=>none
theorem Oy.elems{d:D}{ds:Ds}{B:List γ}(r:Oy F H v d B)(h:d.elems=some ds):∃ a vs A,v=.ref a/\(SqL K H a vs∨SqT K H a vs)/\Os F H vs ds A/\∀ b,A.count b<=B.count b:=by
 cases d with
 | l z c=>cases h;obtain⟨a,vs,A,e,h,r,q⟩:=r.lst_inv;exact⟨a,vs,A,e,.inl (.inl (.inl h)),r,q⟩
 | q c=>cases h;obtain⟨a,vs,e,h,r⟩:=r.tup_inv;exact⟨a,vs,_,e,.inr (.inl (.inl h)),r,λ _=>zA2 _⟩
 | _=>cases h
theorem Os.len{ds:List D}{A:List γ}(r:Os F H vs ds A):vs.length=ds.length:=by
 induction vs generalizing ds A with
 | nil=>cases r;rfl
 | cons v vs a=>cases r with | cons h t=>simp[a t]
theorem qh1{p:γ}(a:H p=none):New H [p]:=⟨λ b=>by rw[zAn];simp;split<;>lia,λ b o e=>by
 have:b≠p:=λ z=>by rw[z,a] at e;cases e
 simp[zAn,Ne.symm this]⟩
theorem qz4{p:γ}{ds:Ds}(a:H p=none)(r:Os F H vs ds []):Oy F (upd H p (.l vs)) (.ref p) (.l false ds) [p]:=.l qc1 (r.same (Same.new a))
theorem qag0{p:γ}{ds:Ds}{A:List γ}(a:H p=none)(r:Os F H vs ds A):Oy F (upd H p (.q vs)) (.ref p) (.q ds) A:=.q qc1 (r.same (Same.new a))
theorem Os.get{ds:List D}{A:List γ}{d:D}(r:Os F H vs ds A)(h:ds[n]? = some d):∃ w B,vs[n]? = some w/\Oy F H w d B/\∀ b,B.count b<=A.count b:=by
 obtain⟨w,B,C,a,c,e,_⟩:=r.kid h;exact⟨w,B,a,c,λ b=>by have:=e b;lia⟩
theorem Os.atI{ds:List D}{A:List γ}{i:Int}{d:D}(r:Os F H vs ds A)(h:L2.atI ds i=some d):∃ w B,L2.atI vs i=some w/\Oy F H w d B/\∀ b,B.count b<=A.count b:=by
 unfold L2.atI at h ⊢;rw[r.len];cases e:ixN ds.length i with
 | none=>rw[e] at h;cases h
 | some j =>
   rw[e] at h;exact r.get h
theorem Os.sub{ds:List D}{A:List γ}(r:Os F H vs ds A)(n m:Nat):∃ B,Os F H ((vs.drop n).take m) ((ds.drop n).take m) B/\∀ b,B.count b<=A.count b:=by
 induction n generalizing vs ds A with
 | zero =>
   induction m generalizing vs ds A with
   | zero=>exact⟨[],.nil,λ b=>by simp⟩
   | succ m a =>
     cases r with
     | nil=>exact⟨[],.nil,λ b=>by simp⟩
     | cons h t =>
       obtain⟨B,c,q2⟩:=a t;exact⟨_,.cons h (by simpa using c),λ b=>by simp only[zA0];have:=q2 b;lia⟩
 | succ n a =>
   cases r with
   | nil=>exact⟨[],by simpa using Os.nil,λ b=>by simp⟩
   | cons h t =>
     obtain⟨B,c,q2⟩:=a t;exact⟨B,by simpa using c,λ b=>by simp only[zA0];have:=q2 b;lia⟩
noncomputable def D.flat:D->Option V
 | .non=>some .non
 | .bl b=>some (.bl b)
 | .int i=>some (.int i)
 | .str x=>some (.str x)
 | _=>none
theorem Oy.flat{d:D}{B:List γ}(r:Oy F H v d B)(h:d.flat=some w):v=w/\flatV v=true:=by
 cases r<;>cases h<;>exact⟨rfl,rfl⟩
end
noncomputable def big:Nat:=1000000
theorem qi4:big<=Jq:=by decide
section
variable{F:γ->Prop}{H:Hp}
theorem Os.imms0{ds:Ds}{A:List γ}(r:Os F H vs ds A)(h:D.imms ds=true):Os F H vs ds []:=by
 have:=r.imms h
 subst this;exact r
theorem Os.rep{ds:Ds}(r:Os F H vs ds []):∀ k:Nat,Os F H (Ky k vs).flatten (Ky k ds).flatten []
 | 0=>.nil
 | k+1=>by
   rw[zBs,zBs,zCb,zCb];exact r.append (B:=[]) (r.rep k)
end
noncomputable def gd(p:Prop)[Decidable p](d:D):Option D:=if p then some d else none
theorem qu1{p:Prop}[Decidable p]{d e:D}(h:gd p d=some e):p/\d=e:=by
 unfold gd at h;split at h
 . rename_i hp;exact⟨hp,Nm h⟩
 cases h
theorem ql2{p:Prop}[Decidable p]{d:D}(h:p):gd p d=some d:=if_pos h
def Gc:D->D->Option D
 | .int i,.int j=>some (.int (i+j))
 | .str a,.str b=>gd (a.length+b.length<=big) (.str (a++b))
 | .l _ xs,.l _ ys=>gd (D.imms xs=true/\D.imms ys=true/\xs.length+ys.length<=big) (.l false (xs++ys))
 | _,_=>none
def rAddA:R2:=λ x y H Q=>rI0 (λ i j=>.int (i+j)) x y H Q∨(∃ i j,x=.str i/\y=.str j/\i.length+j.length<=Jq/\Q (.str (i++j)) H)∨rCat x y H Q
theorem qg4{X:Cx}:OpR X (Kb .Add) rAddA:=qaU4.or (qaf6.or qaU3)
theorem qg3:A8 true rAddA Gc:=by
 intro F H v w x y B d Q r h q;cases r with | @cons _ _ A _ _ _ e t=>cases t with | @cons _ _ A2 _ _ _ f _ =>
 cases x with
 | int i =>
   cases y with
   | int j=>cases h;cases e;cases f;exact .inl ⟨i,j,rfl,rfl,q _ H [] (.int _) (λ _ _ z=>z) New.nil⟩
   | _=>cases h
 | str a =>
   cases y with
   | str b =>
     obtain⟨c,rfl⟩:=qu1 h;cases e;cases f;exact .inr (.inl ⟨a,b,rfl,rfl,zAj c qi4,q _ H [] (.str _) (λ _ _ z=>z) New.nil⟩)
   | _=>cases h
 | l z s =>
   cases y with
   | l u C =>
     obtain⟨c,rfl⟩:=qu1 h;obtain⟨a,l,_,rfl,m,k,_⟩:=e.lst_inv;obtain⟨b,n,_,rfl,o,q2,_⟩:=f.lst_inv;refine .inr (.inr ⟨a,b,l,n,rfl,rfl,m,o,by rw[k.len,q2.len];exact zAj c.2.2 qi4,λ p g=>?_⟩);exact q _ _ [p] (qz4 g ((k.imms0 c.1).append (q2.imms0 c.2.1))) (Same.new g) (qh1 g)
   | _=>cases h
 | _=>cases h
noncomputable def small(i:Int):Bool:=decide (-(2 ^ 64) < i)&&decide (i < 2 ^ 64)
theorem qT3{i:Int}(h:small i=true):-(2 ^ 64) < i/\i < 2 ^ 64:=by
 have:=zAh.mp h
 exact⟨zAe this.1,zAe this.2⟩
def Hf:D->D->Option D
 | .int i,.int j=>gd ((small i||small j)=true) (.int (i * j))
 | .l _ xs,.int k=>gd (D.imms xs=true/\xs.length * k.toNat<=big/\k < 1000000/\-1000000 < k) (.l false (Ky k.toNat xs).flatten)
 | _,_=>none
def rMulA:R2:=λ x y H Q=>rI CMul (λ i j=>.int (i * j)) x y H Q∨rRep x y H Q
theorem qv6{X:Cx}:OpR X (Kb .Mult) rMulA:=qaT8.or qaT5
theorem qv5:A8 true rMulA Hf:=by
 intro F H v w x y B d Q r h q;cases r with | @cons _ _ A _ _ _ e t=>cases t with | @cons _ _ A2 _ _ _ f _ =>
 cases x with
 | int i =>
   cases y with
   | int j =>
     obtain⟨b,rfl⟩:=qu1 h;cases e;cases f;refine .inl ⟨i,j,rfl,rfl,?_,q _ H [] (.int _) (λ _ _ z=>z) New.nil⟩;rcases Bool.or_eq_true_iff.mp b with h | h
     . exact .inl (qT3 h)
     exact .inr (qT3 h)
   | _=>cases h
 | l z n =>
   cases y with
   | int k =>
     obtain⟨b,rfl⟩:=qu1 h;obtain⟨a,l,_,rfl,m,g,_⟩:=e.lst_inv;cases f;refine .inr ⟨a,k,l,rfl,rfl,m,by lia,by lia,by rw[g.len];exact zAj b.2.1 qi4,λ p c=>?_⟩;exact q _ _ [p] (qz4 c ((g.imms0 b.1).rep _)) (Same.new c) (qh1 c)
   | _=>cases h
 | _=>cases h
def gI(p:Int->Int->Bool)(f:Int->Int->D):D->D->Option D
 | .int i,.int j=>gd (p i j=true) (f i j)
 | _,_=>none
theorem os_I{C:Int->Int->Prop}{p:Int->Int->Bool}{f:Int->Int->D}{fv:Int->Int->V}(a:∀ i j,p i j=true->C i j)(b:∀ F H i j,Oy F H (fv i j) (f i j) []):A8 true (rI C fv) (gI p f):=by
 intro F H v w x y B d Q r h q;cases r with | @cons _ _ A _ _ _ c t=>cases t with | @cons _ _ A2 _ _ _ e _ =>
 cases x with
 | int i =>
   cases y with
   | int j =>
     obtain⟨g,rfl⟩:=qu1 h;cases c;cases e;exact⟨i,j,rfl,rfl,a i j g,q _ H [] (b F H i j) (λ _ _ z=>z) New.nil⟩
   | _=>cases h
 | _=>cases h
theorem F6{f:Int->Int->D}{fv:Int->Int->V}(a:∀ F H i j,Oy F H (fv i j) (f i j) []):A8 true (rI0 fv) (gI (λ _ _=>true) f):=by
 intro F H v w x y B d Q r h q;obtain⟨i,j,b,c,_,e⟩:=os_I (C:=λ _ _=>True) (fv:=fv) (λ _ _ _=>trivial) a F H v w x y B d Q r h q;exact⟨i,j,b,c,e⟩
def gSub:=gI (λ _ _=>true) λ i j=>.int (i - j)
def gDiv:=gI (λ _ j=>decide (0 < j)&&decide (j < 2 ^ 200)) λ i j=>.int (i / j)
def Hg:=gI (λ _ j=>decide (0 < j)) λ i j=>.int (i % j)
def gLt:=gI (λ _ _=>true) λ i j=>.bl (decide (i < j))
def gLe:=gI (λ _ _=>true) λ i j=>.bl (decide (i<=j))
def gGt:=gI (λ _ _=>true) λ i j=>.bl (decide (j < i))
def gGe:=gI (λ _ _=>true) λ i j=>.bl (decide (j<=i))
theorem qv4:A8 true (rI0 λ i j=>.int (i - j)) gSub:=F6 λ _ _ _ _=>.int _
theorem qaB9:A8 true (rI CDivB λ i j=>.int (i / j)) gDiv:=os_I (λ i j h=>by
 have:=zAh.mp h
 exact⟨zAe this.1,zAe this.2⟩) λ _ _ _ _=>.int _
theorem qp2:A8 true (rI (λ _ j=>0 < j) λ i j=>.int (i % j)) Hg:=os_I (λ i j h=>zAe h) λ _ _ _ _=>.int _
theorem Im:A8 true (rI0 λ i j=>.bl (decide (i < j))) gLt:=F6 λ _ _ _ _=>.bl _
theorem os_le:A8 true (rI0 λ i j=>.bl (decide (i<=j))) gLe:=F6 λ _ _ _ _=>.bl _
theorem Dc:A8 true (rI0 λ i j=>.bl (decide (j < i))) gGt:=F6 λ _ _ _ _=>.bl _
theorem Iq:A8 true (rI0 λ i j=>.bl (decide (j<=i))) gGe:=F6 λ _ _ _ _=>.bl _
noncomputable def D.isN:D->Option Bool
 | .non=>some true
 | .u=>none
 | .hole _=>none
 | _=>some false
theorem Oy.isN{F:γ->Prop}{H:Hp}{d:D}{B:List γ}{b:Bool}(r:Oy F H v d B)(h:d.isN=some b):decide (v=.non)=b:=by
 cases r<;>cases h<;>rfl
def gIs:D->D->Option D
 | x,.non=>x.isN.map .bl
 | .bl a,.bl b=>some (.bl (a == b))
 | _,_=>none
def rIs:R2:=λ x y H Q=>(y=.non/\Q (.bl (decide (x=.non))) H)∨(∃ b c,x=.bl b/\y=.bl c/\Q (.bl (b == c)) H)
theorem Eh:A8 true rIs gIs:=by
 intro F H v w x y B d Q r h q;cases r with | @cons _ _ A _ _ _ c t=>cases t with | @cons _ _ A2 _ _ _ f _ =>
 cases y with
 | non =>
   cases f;have h:x.isN.map D.bl=some d:=by cases x<;>exact h
   cases e:x.isN with
   | none=>rw[e] at h;cases h
   | some b =>
     rw[e] at h;cases h;refine .inl ⟨rfl,?_⟩;rw[c.isN e];exact q _ H [] (.bl _) (λ _ _ z=>z) New.nil
 | bl b =>
   cases x with
   | bl a=>cases h;cases c;cases f;exact .inr ⟨a,b,rfl,rfl,q _ H [] (.bl _) (λ _ _ z=>z) New.nil⟩
   | _=>cases h
 | _=>cases x<;>cases h
theorem Ei{X:Cx}:OpR X (Jr .Is) rIs:=qaT9.or qaU0
theorem qaL3{X:Cx}:OpR X (Jr .IsNot) (λ x y H Q=>∃ b c,x=.bl b/\y=.bl c/\Q (.bl (b != c)) H):=by
 intro D6 s f H x y v u Q I a d ⟨b,c,e,e2,q⟩;subst e;subst e2;cases a;cases d;exact PyProof.Rows.isnot_bool ⟨.bl (b != c),H,I,rfl,q⟩
def gIsn:D->D->Option D
 | x,.non=>x.isN.map λ b=>.bl (!b)
 | .bl a,.bl b=>some (.bl (a != b))
 | _,_=>none
def rIsn:R2:=λ x y H Q=>(y=.non/\Q (.bl (!decide (x=.non))) H)∨(∃ b c,x=.bl b/\y=.bl c/\Q (.bl (b != c)) H)
theorem qn4:A8 true rIsn gIsn:=by
 intro F H v w x y B d Q r h q;cases r with | @cons _ _ A _ _ _ c t=>cases t with | @cons _ _ A2 _ _ _ f _ =>
 cases y with
 | non =>
   cases f;have h:x.isN.map (λ b=>D.bl (!b))=some d:=by cases x<;>exact h
   cases e:x.isN with
   | none=>rw[e] at h;cases h
   | some b =>
     rw[e] at h;cases h;refine .inl ⟨rfl,?_⟩;rw[c.isN e];exact q _ H [] (.bl _) (λ _ _ z=>z) New.nil
 | bl b =>
   cases x with
   | bl a=>cases h;cases c;cases f;exact .inr ⟨a,b,rfl,rfl,q _ H [] (.bl _) (λ _ _ z=>z) New.nil⟩
   | _=>cases h
 | _=>cases x<;>cases h
theorem qi8{X:Cx}:OpR X (Jr .IsNot) rIsn:=qaL2.or qaL3
noncomputable def De(f:D->D->Option Bool):List D->List D->Option Bool
 | [],[]=>some true
 | x::xs,y::ys=>(f x y).bind λ a=>(De f xs ys).bind λ b=>some (a&&b)
 | _,_=>some false
def eqF(x y:D):Option Bool:=match x.flat,y.flat with
 | some v,some w=>some (eqV v w)
 | _,_=>none
noncomputable def D.d0:D->Bool
 | .dct _ []=>true
 | _=>false
def eqZ(x y:D):Option Bool:=if (x.d0&&y.d0)=true then some true else eqF x y
def eqN:Nat->D->D->Option Bool
 | n+1,.l _ xs,.l _ ys=>De (eqN n) xs ys
 | n+1,.q xs,.q ys=>De (eqN n) xs ys
 | _,x,y=>eqZ x y
theorem qA4{f:D->D->Option Bool}:∀{xs ys:List D}{b:Bool},De f xs ys=some b->∃ e:Nat->Bool,(∀ i x y,xs[i]? = some x->ys[i]? = some y->f x y=some (e i))/\b=((Kz (min xs.length ys.length)).all e&&xs.length == ys.length)
 | [],[],b,h=>by cases h;exact⟨λ _=>true,λ i x y h=>by simp at h,by simp⟩
 | [],y::ys,b,h=>by cases h;exact⟨λ _=>true,λ i x y h=>by simp at h,by simp⟩
 | x::xs,[],b,h=>by cases h;exact⟨λ _=>true,λ i x y _ h=>by simp at h,by simp⟩
 | x::xs,y::ys,b,h=>by
   obtain⟨a,k,h⟩:=zA1.mp h;obtain⟨o,l,h⟩:=zA1.mp h;cases h;obtain⟨e,m,q2⟩:=qA4 l;refine⟨λ i=>match i with | 0=>a | i+1=>e i,λ i c d g j=>?_,?_⟩
   . cases i with
     | zero =>
       have n:x=c:=by simpa using g
       have e2:y=d:=by simpa using j
       subst n;subst e2;exact k
     | succ i=>exact m i c d (by simpa using g) (by simpa using j)
   rw[q2,zAk,zAk,Nat.add_min_add_right,List.range_succ_eq_map,K9,M9];show _=(_&&_&&_)
   have:(xs.length+1 == ys.length+1)=(xs.length == ys.length):=by
     by_cases h:xs.length=ys.length
     . simp[h]
     simp[h]
   rw[this,<- Bool.and_assoc];rfl
section
variable{F:γ->Prop}{H:Hp}
theorem Oy.eqF{x y:D}{A B:List γ}{b:Bool}(r1:Oy F H v x A)(c:Oy F H w y B)(h:LV.eqF x y=some b):flatV v=true/\flatV w=true/\eqV v w=b:=by
 unfold LV.eqF at h;cases a:x.flat with
 | none=>rw[a] at h;cases h
 | some d =>
   cases e2:y.flat with
   | none=>rw[a,e2] at h;cases h
   | some e =>
     rw[a,e2] at h;obtain⟨rfl,f1⟩:=r1.flat a;obtain⟨rfl,f2⟩:=c.flat e2;exact⟨f1,f2,Nm h⟩
theorem Oy.d0{x:D}{A:List γ}(r:Oy F H v x A)(h:x.d0=true):∃ a,v=.ref a/\H a=some (.dK []):=by
 cases x with
 | dct z b =>
   cases b with
   | nil =>
     cases r with
     | dct e q _=>exact⟨_,rfl,by rw[e,List.map_eq_nil_iff.mp q]⟩
     | dctZ e _ q _=>exact⟨_,rfl,by rw[e,List.map_eq_nil_iff.mp q]⟩
   | cons=>cases h
 | _=>cases h
theorem Oy.eqZ{x y:D}{A B:List γ}{b:Bool}(r1:Oy F H v x A)(d:Oy F H w y B)(h:LV.eqZ x y=some b):(flatV v=true/\flatV w=true/\eqV v w=b)∨(b=true/\∃ a c,v=.ref a/\w=.ref c/\H a=some (.dK [])/\H c=some (.dK [])):=by
 unfold LV.eqZ at h;split at h
 . rename_i hd
   obtain⟨e,f⟩:=zAh.mp hd;obtain⟨a,g,i⟩:=r1.d0 e;obtain⟨c,e2,q2⟩:=d.d0 f;cases h;exact .inr ⟨rfl,a,c,g,e2,i,q2⟩
 exact .inl (r1.eqF d h)
theorem qW8(n:Nat)(x y:D):(eqN (n+1) x y=LV.eqZ x y)∨(∃ z xs z' ys,x=.l z xs/\y=.l z' ys)∨∃ xs ys,x=.q xs/\y=.q ys:=by
 cases x with
 | l z xs=>cases y with
   | l z' ys=>exact .inr (.inl ⟨_,_,_,_,rfl,rfl⟩)
   | _=>exact .inl rfl
 | q xs=>cases y with
   | q ys=>exact .inr (.inr ⟨_,_,rfl,rfl⟩)
   | _=>exact .inl rfl
 | _=>exact .inl rfl
theorem qR9(x y:D):eqN 0 x y=LV.eqZ x y:=by cases x<;>cases y<;>rfl
theorem qW9(f:∀{v:V}{x y:D}{A B:List γ}{b:Bool},Oy F H v x A->Oy F H v y B->eqN n x y=some b->b=true):∀{vs:List V}{xs ys:List D}{A B:List γ}{b:Bool},Os F H vs xs A->Os F H vs ys B->De (eqN n) xs ys=some b->b=true:=by
 intro vs
 induction vs with
 | nil=>intro xs ys A B b c d h;cases c;cases d;cases h;rfl
 | cons v vs e =>
   intro xs ys A B b c d h;cases c with | cons p1 t1=>cases d with | cons g t2 =>
   obtain⟨a,i,h⟩:=zA1.mp h;obtain⟨k,j,h⟩:=zA1.mp h;cases h;rw[f p1 g i,e t1 t2 j];rfl
theorem qak4:∀{n:Nat}{v:V}{x y:D}{A B:List γ}{b:Bool},Oy F H v x A->Oy F H v y B->eqN n x y=some b->b=true:=by
 intro n
 induction n with
 | zero =>
   intro v x y A B b c d h;rw[qR9] at h;rcases c.eqZ d h with⟨f1,f2,rfl⟩ | ⟨rfl,_⟩
   . exact qA2 f1
   rfl
 | succ n k =>
   intro v x y A B b c d h;rcases qW8 n x y with e | ⟨z,l,q,m,rfl,rfl⟩ | ⟨l,m,rfl,rfl⟩
   . rw[e] at h
     rcases c.eqZ d h with⟨f1,f2,rfl⟩ | ⟨rfl,_⟩
     . exact qA2 f1
     rfl
   . obtain⟨a,o,_,rfl,g,i,_⟩:=c.lst_inv
     obtain⟨p,j,_,e,f,q2,_⟩:=d.lst_inv;cases e;rw[g] at f;cases f;exact qW9 k i q2 h
   obtain⟨a,o,rfl,g,i⟩:=c.tup_inv;obtain⟨p,j,e,f,q2⟩:=d.tup_inv;cases e;rw[g] at f;cases f;exact qW9 k i q2 h
theorem Os.getV{ds:List D}{A:List γ}(r:Os F H vs ds A)(h:vs[n]? = some w):∃ d B,ds[n]? = some d/\Oy F H w d B:=by
 have c:=r.len;have e:n < vs.length:=(zA4.mp h).1;obtain⟨f,B,a,b,_⟩:=r.get (n:=n) (d:=ds[n]'(by lia)) (by simp);rw[h] at a;cases a;exact⟨_,B,by simp,b⟩
theorem qW6{x y:D}{A B:List γ}{b:Bool}(r1:Oy F H v x A)(d:Oy F H w y B)(h:LV.eqZ x y=some b):EqD H n v w b:=by
 rcases r1.eqZ d h with⟨f1,f2,rfl⟩ | ⟨rfl,a,a',rfl,rfl,q1,q2⟩
 . exact .flat f1 f2
 by_cases c:a=a'
 . subst c;exact .same a
 exact .dcts c q1 q2
theorem qW7:∀{n:Nat}{v w:V}{x y:D}{A B:List γ}{b:Bool},Oy F H v x A->Oy F H w y B->eqN n x y=some b->EqD H n v w b:=by
 intro n
 induction n with
 | zero =>
   intro v w x y A B b c d h;rw[qR9] at h;exact qW6 c d h
 | succ n I =>
   intro v w x y A B b c d h;rcases qW8 n x y with e | ⟨z,J,L,K,rfl,rfl⟩ | ⟨J,K,rfl,rfl⟩
   . rw[e] at h
     exact qW6 c d h
   . obtain⟨a,m,_,rfl,k,g,_⟩:=c.lst_inv
     obtain⟨o,r,_,rfl,l,q2,_⟩:=d.lst_inv;by_cases f:a=o
     . subst f
       cases qak4 (n:=n+1) c d h;exact .same a
     obtain⟨e,s,rfl⟩:=qA4 h;rw[<- g.len,<- q2.len];by_cases j:m.length=r.length
     . rw[j,Nat.min_self,zBd,Bool.and_true,<- j]
       refine .lsts f k l j λ i p q t e2=>?_
       obtain⟨x,_,u,C⟩:=g.getV t;obtain⟨y,_,E,G⟩:=q2.getV e2;exact I C G (s i x y u E)
     have:(m.length == r.length)=false:=by simpa using j
     rw[this,Bool.and_false];exact .lens f k l j
   obtain⟨a,m,rfl,k,g⟩:=c.tup_inv;obtain⟨o,r,rfl,l,q2⟩:=d.tup_inv;by_cases f:a=o
   . subst f
     cases qak4 (n:=n+1) c d h;exact .same a
   obtain⟨e,s,rfl⟩:=qA4 h;rw[<- g.len,<- q2.len];refine .tups f k l λ i p q t e2=>?_
   obtain⟨x,_,u,C⟩:=g.getV t;obtain⟨y,_,E,G⟩:=q2.getV e2;exact I C G (s i x y u E)
end
def eqT:D->D->Option Bool
 | .l _ xs,.l _ ys=>De (eqN 20) xs ys
 | .q xs,.q ys=>De (eqN 20) xs ys
 | .l _ _,.q _=>some false
 | .q _,.l _ _=>some false
 | .l _ _,y=>y.flat.map λ _=>false
 | .q _,y=>y.flat.map λ _=>false
 | x,.l _ _=>x.flat.map λ _=>false
 | .dct _ _,.q _=>some false
 | x,.q _=>x.flat.map λ _=>false
 | x,y=>eqZ x y
theorem Oy.flatV{F:γ->Prop}{H:Hp}{d:D}{B:List γ}{b:Bool}(r:Oy F H v d B)(h:(d.flat.map λ _=>false)=some b):L2.flatV v=true/\b=false:=by
 cases e:d.flat with
 | none=>rw[e] at h;cases h
 | some w=>rw[e] at h;cases h;exact⟨(r.flat e).2,rfl⟩
theorem Oy.rc{F:γ->Prop}{H:Hp}{x y:D}{A B:List γ}{b:Bool}(r1:Oy F H v x A)(d:Oy F H w y B)(h:eqT x y=some b):RcD H v w b:=by
 have flat:LV.eqZ x y=some b->RcD H v w b:=λ h=>by
   rcases r1.eqZ d h with⟨f1,f2,rfl⟩ | ⟨rfl,a,k,rfl,rfl,l,q2⟩
   . exact .flat f1 f2
   exact .dcts l q2
 cases x with
 | l z G =>
   obtain⟨a,o,_,rfl,g,l,_⟩:=r1.lst_inv;cases y with
   | l J m =>
     obtain⟨k,j,_,rfl,c,q2,_⟩:=d.lst_inv;obtain⟨e,r,rfl⟩:=qA4 h;rw[<- l.len,<- q2.len];by_cases n:o.length=j.length
     . rw[n,Nat.min_self,zBd,Bool.and_true,<- n]
       refine .lsts g c n λ i p q s e2=>?_
       obtain⟨x,_,t,u⟩:=l.getV s;obtain⟨y,_,C,E⟩:=q2.getV e2;exact qW7 u E (r i x y t C)
     have:(o.length == j.length)=false:=by simpa using n
     rw[this,Bool.and_false];exact .lens g c n
   | q m=>obtain⟨k,j,rfl,c,q2⟩:=d.tup_inv;cases h;exact .lt g c
   | _=>obtain⟨f,rfl⟩:=d.flatV h;exact .lf g f
 | q G =>
   obtain⟨a,o,rfl,g,l⟩:=r1.tup_inv;cases y with
   | q m =>
     obtain⟨k,j,rfl,c,q2⟩:=d.tup_inv;obtain⟨e,r,rfl⟩:=qA4 h;rw[<- l.len,<- q2.len];refine .tups g c λ i p q s e2=>?_
     obtain⟨x,_,t,u⟩:=l.getV s;obtain⟨y,_,C,E⟩:=q2.getV e2;exact qW7 u E (r i x y t C)
   | l z m=>obtain⟨k,j,_,rfl,c,q2,_⟩:=d.lst_inv;cases h;exact .tl g c
   | _=>obtain⟨f,rfl⟩:=d.flatV h;exact .tf g f
 | dct z I =>
   cases y with
   | l z m=>cases h
   | q m =>
     obtain⟨k,j,rfl,c,q2⟩:=d.tup_inv;cases h;cases r1 with
     | dct e _ _=>exact .dt e c
     | dctZ e _ _ _=>exact .dt e c
   | _=>exact flat h
 | _ =>
   cases y with
   | l z m=>obtain⟨k,j,_,rfl,c,q2,_⟩:=d.lst_inv;obtain⟨f,rfl⟩:=r1.flatV h;exact .fl c f
   | q m=>obtain⟨k,j,rfl,c,q2⟩:=d.tup_inv;obtain⟨f,rfl⟩:=r1.flatV h;exact .ft c f
   | _=>exact flat h
def gEq(x y:D):Option D:=(eqT x y).map .bl
def gNe(x y:D):Option D:=(eqT x y).map λ b=>.bl (!b)
theorem Bm:A8 true rEqD gEq:=by
 intro F H v w x y B d Q r h q;cases r with | @cons _ _ A _ _ _ a t=>cases t with | @cons _ _ A2 _ _ _ c _ =>
 obtain⟨b,e,rfl⟩:=zA9.mp h;exact⟨b,a.rc c e,q _ H [] (.bl _) (λ _ _ z=>z) New.nil⟩
theorem Dr:A8 true rNeD gNe:=by
 intro F H v w x y B d Q r h q;cases r with | @cons _ _ A _ _ _ a t=>cases t with | @cons _ _ A2 _ _ _ c _ =>
 obtain⟨b,e,rfl⟩:=zA9.mp h;exact⟨b,a.rc c e,q _ H [] (.bl _) (λ _ _ z=>z) New.nil⟩
def flats:List D->Option (List V)
 | []=>some []
 | d::r=>d.flat.bind λ v=>(flats r).bind λ vs=>some (v::vs)
theorem Os.flats{F:γ->Prop}{H:Hp}:∀{vs a:List V}{ds:List D}{A:List γ},Os F H vs ds A->LV.flats ds=some a->vs=a/\vs.all L2.flatV=true
 | _,_,_,_,.nil,h=>by cases h;exact⟨rfl,rfl⟩
 | _,_,_,_,.cons r t,h=>by
   obtain⟨v,b,h⟩:=zA1.mp h;obtain⟨vs,c,h⟩:=zA1.mp h;cases h;obtain⟨rfl,f⟩:=r.flat b;obtain⟨rfl,g⟩:=t.flats c;exact⟨rfl,by rw[K9,f,g];rfl⟩
def Gd(neg:Bool)(x y:D):Option D:=x.flat.bind λ v=>y.elems.bind λ ys=>(flats ys).bind λ a=>some (.bl (if neg then !inV v a else inV v a))
theorem Ej{K:No}{neg:Bool}:A8 true (rIn K neg) (Gd neg):=by
 intro F H v w x y B d Q r h q;cases r with | @cons _ _ A _ _ _ b t=>cases t with | @cons _ _ A2 _ _ _ c _ =>
 obtain⟨n,e,h⟩:=zA1.mp h;obtain⟨o,i,h⟩:=zA1.mp h;obtain⟨p,j,h⟩:=zA1.mp h;cases h;obtain⟨rfl,f⟩:=b.flat e;obtain⟨a,k,A3,rfl,l,m,_⟩:=c.elems (K:=K) i;obtain⟨rfl,g⟩:=m.flats j;exact⟨a,k,rfl,l,f,g,q _ H [] (.bl _) (λ _ _ z=>z) New.nil⟩
def gIx(x y:D):Option D:=match y with
 | .int i=>x.elems.bind λ ys=>atI ys i
 | _=>none
theorem An{K:No}:A8 false (rIx K) gIx:=by
 intro F H v w x y B d Q r h q;cases r with | @cons _ _ A _ _ _ l t=>cases t with | @cons _ _ A2 _ _ _ m _ =>
 cases y with
 | int i =>
   obtain⟨u,n,h⟩:=zA1.mp h;cases m;obtain⟨a,j,A3,rfl,c,o,p⟩:=l.elems (K:=K) n;obtain⟨f,B',k,g,s⟩:=o.atI h;have e:=q f H B' g (λ _ _ z=>z) (by
     rw[if_neg (by decide)];exact λ b=>.inl (by rw[zA0];have:=s b;have:=p b;lia))
   rcases c with c | c
   . exact .inl ⟨a,j,i,f,rfl,rfl,c,k,e⟩
   exact .inr (.inl ⟨a,j,i,f,rfl,rfl,c,k,e⟩)
 | _=>cases h
section
variable{F:γ->Prop}{H:Hp}
theorem Os.one_inv{x:D}{B:List γ}(r:Os F H vs [x] B):∃ v,vs=[v]/\Oy F H v x B:=by
 cases r with | cons h t=>cases t;exact⟨_,rfl,by rw[zAd];exact h⟩
theorem Os.two_inv{x y:D}{B:List γ}(r:Os F H vs [x,y] B):∃ v w A C,vs=[v,w]/\Oy F H v x A/\Oy F H w y C/\∀ b,B.count b=A.count b+C.count b:=by
 cases r with | cons h t=>cases t with | cons a t=>cases t;exact⟨_,_,_,_,rfl,h,a,λ b=>by simp[zA0]⟩
end
noncomputable def fx1(g:D->Option D):Ds->Option D
 | [x]=>g x
 | _=>none
noncomputable def fx2(g:D->D->Option D):Ds->Option D
 | [x,y]=>g x y
 | _=>none
def CS1(nw:Bool)(r:List V->Hp->VK->Prop)(g:D->Option D):Prop:=∀ F H v x B d (Q:VK),Oy F H v x B->g x=some d ->
 (∀ v H' B',Oy F H' v d B'->Same H H'->(if nw=true then New H B' else Sub H B B')->Q v H')->r [v] H Q
theorem CS1.ops{nw:Bool}{r:List V->Hp->VK->Prop}{g:D->Option D}(h:CS1 nw r g):OpS nw r (fx1 g):=by
 intro F H c a B d Q r e q
 match a,e with
 | [x],e =>
   obtain⟨v,rfl,b⟩:=r.one_inv;exact h F H v x B d Q b e q
def Fa(x:D):Option D:=match x with
 | .str z=>gd (z.length<=big) (.int z.length)
 | .dct _ kvs=>some (.int kvs.length)
 | x=>x.elems.map λ ys=>.int ys.length
def Ir(K:No):List V->Hp->VK->Prop:=λ xs H Q=>(∃ p ys,xs=[.ref p]/\(SqL K H p ys∨SqT K H p ys)/\Q (.int ys.length) H)∨(∃ z,xs=[.str z]/\z.length<=Jq/\Q (.int z.length) H)∨(∃ a kvs,xs=[V.ref a]/\H a=some (.dK kvs)/\Q (.int kvs.length) H)
theorem ql4{X:Cx}:CallR X (.builtin "len") (Ir X.K):=qS4.or (qS3.or qat1)
theorem ql3{K:No}:CS1 true (Ir K) Fa:=by
 intro F H v x B d Q r h q;have seq:∀ b,x.elems=some b->d=.int b.length->Ir K [v] H Q:=λ b e j=>by
   subst j;obtain⟨a,k,A,rfl,f,i,_⟩:=r.elems (K:=K) e;refine .inl ⟨a,k,rfl,f,?_⟩;rw[i.len];exact q _ H [] (.int _) (λ _ _ z=>z) New.nil
 cases x with
 | str z=>obtain⟨l,rfl⟩:=qu1 h;cases r;exact .inr (.inl ⟨z,rfl,zAj l qi4,q _ H [] (.int _) (λ _ _ z=>z) New.nil⟩)
 | dct z g =>
   cases h;obtain⟨a,c,A,rfl,f,e,i,_⟩:=r.dct_inv;refine .inr (.inr ⟨a,c,rfl,f,?_⟩)
   have:c.length=g.length:=by have:=congrArg K5 e;simpa using this
   rw[this];exact q _ H [] (.int _) (λ _ _ z=>z) New.nil
 | l z b=>cases h;exact seq b rfl rfl
 | q b=>cases h;exact seq b rfl rfl
 | _=>cases h
noncomputable def gAbs:D->Option D
 | .int i=>some (.int (if i < 0 then -i else i))
 | _=>none
noncomputable def gInt:D->Option D
 | .int i=>some (.int i)
 | .bl b=>some (.int (if b then 1 else 0))
 | _=>none
theorem qaP8:CS1 true (λ xs H Q=>(∃ i,xs=[.int i]/\Q (.int i) H)∨∃ k,xs=[.bl k]/\Q (.int (if k then 1 else 0)) H) gInt:=by
 intro F H v x B d Q r h q;cases x with
 | int i=>cases h;cases r;exact .inl ⟨i,rfl,q _ H [] (.int _) (λ _ _ z=>z) New.nil⟩
 | bl i=>cases h;cases r;exact .inr ⟨i,rfl,q _ H [] (.int _) (λ _ _ z=>z) New.nil⟩
 | _=>cases h
def Iu(x:D):Option D:=x.elems.bind λ ys=>gd (D.imms ys=true) (.l false ys)
theorem qM3{K:No}:CS1 true (λ xs H Q=>∃ p ys,xs=[.ref p]/\(SqL K H p ys∨SqT K H p ys)/\∀ l,H l=none->Q (.ref l) (upd H l (.l ys))) Iu:=by
 intro F H v x B d Q r h q;obtain⟨ys,e,h⟩:=zA1.mp h;obtain⟨c,rfl⟩:=qu1 h;obtain⟨a,f,A,rfl,g,i,_⟩:=r.elems (K:=K) e;exact⟨a,f,rfl,g,λ p b=>q _ _ [p] (qz4 b (i.imms0 c)) (Same.new b) (qh1 b)⟩
noncomputable def D.intO:D->Option Int
 | .int k=>some k
 | _=>none
def pairK:D->Option (Key×D)
 | .q [a,x]=>a.intO.bind λ k=>if x.imm=true then some (.inl k,x) else none
 | _=>none
def qZ7:List D->Option (List (Key×D))
 | []=>some []
 | d::r=>(pairK d).bind λ p=>(qZ7 r).bind λ ps=>some (p::ps)
noncomputable def Eu(kvs:List (Key×D))(k:Key)(v:D):List (Key×D) :=
 if (kvs.any λ a=>decide (a.1=k))=true then kvs.map (λ a=>if a.1=k then (a.1,v) else a) else kvs++[(k,v)]
def qu5(kvs more:List (Key×D)):List (Key×D):=more.foldl (λ acc a=>Eu acc a.1 a.2) kvs
abbrev KP(F:γ->Prop)(H:Hp)(kvs:List (Key×V))(a:List (Key×D)):Prop:=Paired (λ(p:Key×V)(q:Key×D)=>p.1=q.1/\Oy F H p.2 q.2 []) kvs a
section
variable{F:γ->Prop}{H:Hp}
theorem KP.maps{b:List (Key×D)}(h:KP F H kvs b):kvs.map (·.1)=b.map (·.1)/\Os F H (kvs.map (·.2)) (b.map (·.2)) []:=by
 induction h with
 | nil=>exact⟨rfl,.nil⟩
 | cons a _ c=>exact⟨by rw[zAy,zAy,a.1,c.1],.cons (A:=[]) (B:=[]) a.2 c.2⟩
theorem KP.any{b:List (Key×D)}(h:KP F H kvs b)(k:Key):(kvs.any λ c=>decide (c.1=k))=b.any λ c=>decide (c.1=k):=by
 induction h with
 | nil=>rfl
 | cons a _ d=>rw[zCd,zCd,a.1,d]
theorem KP.append{kvs':List (Key×V)}{b kds':List (Key×D)}(h:KP F H kvs b)(h':KP F H kvs' kds'):KP F H (kvs++kvs') (b++kds'):=by
 induction h with
 | nil=>exact h'
 | cons a _ c=>exact .cons a c
theorem KP.mapk{c:List (Key×D)}(h:KP F H kvs c){k:Key}{d:D}(r:Oy F H v d []):KP F H (kvs.map λ b=>if b.1=k then (b.1,v) else b) (c.map λ b=>if b.1=k then (b.1,d) else b):=by
 induction h with
 | nil=>exact .nil
 | @cons p q _ _ a _ ih =>
   refine .cons ?_ ih;show (if p.1=k then (p.1,v) else p).1=(if q.1=k then (q.1,d) else q).1/\Oy F H (if p.1=k then (p.1,v) else p).2 (if q.1=k then (q.1,d) else q).2 [];rw[<- a.1];split
   . exact⟨rfl,r⟩
   exact a
theorem KP.put{kvs:List (Key×V)}{a:List (Key×D)}(h:KP F H kvs a){k:Key}{v:V}{d:D}(r:Oy F H v d []):KP F H (putK kvs k v) (Eu a k d):=by
 unfold putK Eu;rw[h.any k];split
 . exact h.mapk r
 exact h.append (.cons ⟨rfl,r⟩ .nil)
theorem KP.merge{more:List (Key×V)}{mored:List (Key×D)}(h:KP F H more mored):∀{kvs:List (Key×V)}{b:List (Key×D)},KP F H kvs b->KP F H (qC1 kvs more) (qu5 b mored):=by
 induction h with
 | nil=>exact λ h=>h
 | @cons p q _ _ a _ ih =>
   intro kvs b h
   have:=ih (h.put (k:=p.1) a.2)
   rw[a.1] at this;show KP F H (qC1 (putK kvs p.1 p.2) _) (qu5 (Eu b q.1 q.2) _);rw[a.1];exact this
theorem qaB6{ds:Ds}{A:List γ}{ps:List (Key×D)}(r:Os F H vs ds A)(h:qZ7 ds=some ps):∃ kvs,qay3 H vs kvs/\KP F H kvs ps:=by
 induction ds generalizing vs A ps with
 | nil=>cases r;cases h;exact⟨[],.nil,.nil⟩
 | cons d ds l =>
   cases r with
   | cons m t =>
     obtain⟨p,b,h⟩:=zA1.mp h;obtain⟨ps,n,h⟩:=zA1.mp h;cases h;obtain⟨kvs,o,q2⟩:=l t n;unfold pairK at b;split at b
     . rename_i k x
       obtain⟨i,g,b⟩:=zA1.mp b;split at b
       . rename_i hm
         cases b;obtain⟨a,u,rfl,q,e⟩:=m.tup_inv;obtain⟨v,s,A1,A2,rfl,f,c,_⟩:=e.two_inv;cases k with
         | int j =>
           cases g;cases f
           have:=c.imm hm
           subst this;exact⟨(.inl i,s)::kvs,.cons ⟨a,rfl,q⟩ o,.cons ⟨rfl,c⟩ q2⟩
         | _=>cases g
       cases b
     cases b
theorem qaL9{p:γ}{a:List (Key×D)}(b:H p=none)(r:KP F H kvs a):Oy F (upd H p (.dK kvs)) (.ref p) (.dct false a) [p]:=.dct qc1 r.maps.1 (r.maps.2.same (Same.new b))
end
def G0(x:D):Option D:=match x with
 | .l _ ys=>(qZ7 ys).map λ ps=>.dct false (qu5 [] ps)
 | _=>none
theorem qax5:CS1 true qaI6 G0:=by
 intro F H v x B d Q r h q;cases x with
 | l z k =>
   obtain⟨l,e,rfl⟩:=zA9.mp h;obtain⟨a,f,A,rfl,g,i,_⟩:=r.lst_inv;obtain⟨b,j,q2⟩:=qaB6 i e;exact⟨a,f,b,rfl,g,j,λ p c=>q _ _ [p] (qaL9 c (q2.merge .nil)) (Same.new c) (qh1 c)⟩
 | _=>cases h
noncomputable def D.kind:D->Option String
 | .non=>some "NoneType" | .bl _=>some "bool" | .int _=>some "int" | .str _=>some "str" | .l _ _=>some "list" | .q _=>some "tuple" | .dct _ _=>some "dict"
 | _=>none
theorem Oy.kind{F:γ->Prop}{H:Hp}{d:D}{B:List γ}{t:String}(r:Oy F H v d B)(h:d.kind=some t):Bk H v=some t:=by
 cases r with
 | q e _=>cases h;exact qaD7 e
 | l e _=>cases h;exact qai0 e
 | lstZ e _ _=>cases h;exact qai0 e
 | dct e _ _=>cases h;exact qaw6 e
 | dctZ e _ _ _=>cases h;exact qaw6 e
 | _=>cases h<;>rfl
noncomputable def Hh(n:String):Bool:=n == "bool" || n == "int" || n == "str" || n == "list" || n == "tuple" || n == "dict"
def gIsi(x y:D):Option D:=match y with
 | .ty n=>if Hh n=true then x.kind.map λ t=>.bl (E6 t n) else none
 | _=>none
def CS2(nw:Bool)(r:List V->Hp->VK->Prop)(g:D->D->Option D):Prop:=∀ F H v w x y A B d (Q:VK),Oy F H v x A->Oy F H w y B->g x y=some d ->
 (∀ v H' B',Oy F H' v d B'->Same H H'->(if nw=true then New H B' else Sub H (A++B) B')->Q v H')->r [v,w] H Q
theorem CS2.ops{nw:Bool}{r:List V->Hp->VK->Prop}{g:D->D->Option D}(h:CS2 nw r g):OpS nw r (fx2 g):=by
 intro F H l c B d Q r e q
 match c,e with
 | [x,y],e =>
   obtain⟨v,w,A,C,rfl,f,i,j⟩:=r.two_inv;refine h F H v w x y A C d Q f i e λ u H' B' k s a=>q u H' B' k s ?_
   cases nw with
   | true=>exact a
   | false =>
     rw[if_neg (by decide)] at a ⊢;exact λ b=>(a b).imp (λ z=>by rw[zA0] at z;have:=j b;lia) id
theorem qH5:CS2 true rIsi gIsi:=by
 intro F H v w x y A B d Q b c e q;cases y with
 | ty n =>
   cases c;have e:(if Hh n=true then x.kind.map λ t=>D.bl (E6 t n) else none)=some d:=e;by_cases a:Hh n=true
   . rw[if_pos a] at e
     obtain⟨t,f,rfl⟩:=zA9.mp e;refine⟨v,n,t,rfl,b.kind f,?_,q _ H [] (.bl _) (λ _ _ z=>z) New.nil⟩;simp only[Hh,Bool.or_eq_true,zBt] at a;simp only[zAo,zC4,or_false];rcases a with ((((h | h) | h) | h) | h) | h
     . exact .inl h
     . exact .inr (.inl h)
     . exact .inr (.inr (.inl h))
     . exact .inr (.inr (.inr (.inl h)))
     . exact .inr (.inr (.inr (.inr (.inl h))))
     exact .inr (.inr (.inr (.inr (.inr h))))
   rw[if_neg a] at e;cases e
 | _=>cases e
def D.isC(C:γ)(x:D):Option D:=match x with
 | .ins _ C' _=>if C'=C then some (.bl true) else none
 | x=>x.kind.map λ _=>.bl false
def gIsO(C:γ)(x y:D):Option D:=match y with
 | .adr a=>if a=C then x.isC C else none
 | _=>none
theorem qaY5{C:γ}:CS2 true (rIsO C) (gIsO C):=by
 intro F H v w x y A B d Q f g e q;cases y with
 | adr a =>
   cases g;have e:(if a=C then x.isC C else none)=some d:=e;by_cases b:a=C
   . rw[if_pos b] at e
     subst b;have kind:(x.kind.map λ _=>D.bl false)=some d->rIsO a [v,.ref a] H Q:=λ e=>by
       obtain⟨t,i,rfl⟩:=zA9.mp e;exact⟨_,rfl,.inr ⟨t,f.kind i,q _ H [] (.bl _) (λ _ _ z=>z) New.nil⟩⟩
     cases x with
     | ins z C' k =>
       have e2:(if C'=a then some (D.bl true) else none)=some d:=e;by_cases b:C'=a
       . rw[if_pos b] at e2
         cases e2;subst b;obtain⟨p,j,c,_,rfl,h,_,_,_⟩:=f.ins_inv;exact⟨_,rfl,.inl ⟨p,j,c,rfl,h,q _ H [] (.bl _) (λ _ _ z=>z) New.nil⟩⟩
       rw[if_neg b] at e2;cases e2
     | _=>exact kind e
   rw[if_neg b] at e;cases e
 | _=>cases e
noncomputable def gMax2:D->D->Option D
 | .int i,.int j=>some (.int (if j > i then j else i))
 | _,_=>none
noncomputable def gMin2:D->D->Option D
 | .int i,.int j=>some (.int (if j < i then j else i))
 | _,_=>none
theorem qax4:CS2 true (λ xs H Q=>∃ i j,xs=[.int i,.int j]/\Q (.int (if j > i then j else i)) H) gMax2:=by
 intro F H v w x y A B d Q a b e q;cases x with
 | int i=>cases y with
   | int j=>cases e;cases a;cases b;exact⟨i,j,rfl,q _ H [] (.int _) (λ _ _ z=>z) New.nil⟩
   | _=>cases e
 | _=>cases e
theorem qak5:CS2 true (λ xs H Q=>∃ i j,xs=[.int i,.int j]/\Q (.int (if j < i then j else i)) H) gMin2:=by
 intro F H v w x y A B d Q a b e q;cases x with
 | int i=>cases y with
   | int j=>cases e;cases a;cases b;exact⟨i,j,rfl,q _ H [] (.int _) (λ _ _ z=>z) New.nil⟩
   | _=>cases e
 | _=>cases e
noncomputable def bools:List D->Option (List Bool)
 | []=>some []
 | .bl b::r=>(bools r).map λ bs=>b::bs
 | _=>none
theorem Os.bools{F:γ->Prop}{H:Hp}:∀{vs:List V}{ds:List D}{A:List γ}{bs:List Bool},Os F H vs ds A->LV.bools ds=some bs->vs=bs.map V.bl:=by
 intro vs ds
 induction ds generalizing vs with
 | nil=>intro A bs r h;cases r;cases h;rfl
 | cons d ds a =>
   intro A bs r h;cases r with
   | cons c t =>
     cases d with
     | bl b =>
       obtain⟨e,f,rfl⟩:=zA9.mp h;cases c;rw[a t f];rfl
     | _=>cases h
def gAll(x:D):Option D:=match x with
 | .l _ ys=>(bools ys).map λ bs=>.bl (bs.all id)
 | _=>none
theorem qaP9{K:No}:CS1 true (λ xs H Q=>∃(a:γ)(bs:List Bool),xs=[.ref a]/\SqL K H a (bs.map V.bl)/\Q (.bl (bs.all id)) H) gAll:=by
 intro F H v x B d Q r h q;cases x with
 | l z f =>
   obtain⟨bs,b,rfl⟩:=zA9.mp h;obtain⟨a,g,A,rfl,c,e,_⟩:=r.lst_inv;cases e.bools b;exact⟨a,bs,rfl,.inl (.inl c),q _ H [] (.bl _) (λ _ _ z=>z) New.nil⟩
 | _=>cases h
noncomputable def intsD:List D->Option (List Int)
 | []=>some []
 | .int i::r=>(intsD r).map λ is=>i::is
 | _=>none
theorem Os.intsD{F:γ->Prop}{H:Hp}:∀{vs:List V}{ds:List D}{A:List γ}{bs:List Int},Os F H vs ds A->LV.intsD ds=some bs->vs=bs.map V.int:=by
 intro vs ds
 induction ds generalizing vs with
 | nil=>intro A bs r h;cases r;cases h;rfl
 | cons d ds a =>
   intro A bs r h;cases r with
   | cons c t =>
     cases d with
     | int b =>
       obtain⟨e,f,rfl⟩:=zA9.mp h;cases c;rw[a t f];rfl
     | _=>cases h
def Dl(xs:List D)(lo hi:Option Int):List D:=(xs.drop (HT.sIx xs.length 0 lo)).take (HT.sIx xs.length xs.length hi - HT.sIx xs.length 0 lo)
def gSl(x:D)(lo hi:Option Int):Option D:=match x with
 | .l _ ys=>gd (D.imms (Dl ys lo hi)=true) (.l false (Dl ys lo hi))
 | .scr ns=>some (.l false ((ns.drop (HT.sIx ns.length 0 lo)).take (HT.sIx ns.length ns.length hi - HT.sIx ns.length 0 lo) |>.map .int))
 | .q ys=>gd (D.imms (Dl ys lo hi)=true/\(Dl ys lo hi).length < ys.length) (.q (Dl ys lo hi))
 | _=>none
theorem qF7{F:γ->Prop}{H:Hp}:∀ ns:List Int,Os F H (ns.map V.int) (ns.map D.int) []
 | []=>.nil
 | n::r=>.cons (A:=[]) (B:=[]) (.int n) (qF7 r)
theorem os_sl{K:No}{F:γ->Prop}{H:Hp}{x d:D}{lo hi:Option Int}{B:List γ}(r:Oy F H v x B)(h:gSl x lo hi=some d)(f:∀ ys,x≠.q ys)(q:∀ v H' B',Oy F H' v d B'->Same H H'->New H B'->Q v H'):rSlL K v lo hi H Q:=by
 cases x with
 | l z ys =>
   obtain⟨g,rfl⟩:=qu1 h;obtain⟨a,i,A,rfl,j,c,_⟩:=r.lst_inv;refine⟨a,i,rfl,.inl (.inl j),λ p b=>q _ _ [p] (qz4 b ?_) (Same.new b) (qh1 b)⟩;obtain⟨B',k,l⟩:=c.sub (HT.sIx ys.length 0 lo) (HT.sIx ys.length ys.length hi - HT.sIx ys.length 0 lo);unfold Fy;rw[c.len];exact k.imms0 g
 | scr m =>
   cases h;cases r with
   | scr e =>
     refine⟨_,_,rfl,.inl (.inr ⟨_,e⟩),λ p b=>q _ _ [p] (qz4 b ?_) (Same.new b) (qh1 b)⟩;unfold Fy;rw[<- Mi,<- La,zAg];exact qF7 _
 | q ys=>exact absurd rfl (f ys)
 | _=>cases h
def D.fld(C:γ)(f:Str):D->Option D
 | .ins _ C' fs=>if C'=C then fs.lookup f else none
 | _=>none
theorem qah4{F:γ->Prop}{H:Hp}:∀{c:List (Str×V)}{a:List (Str×D)}{A:List γ}{f:Str}{d:D},c.map (·.1)=a.map (·.1)->Os F H (c.map (·.2)) (a.map (·.2)) A->a.lookup f=some d->∃ v B,c.lookup f=some v/\Oy F H v d B/\∀ b,B.count b<=A.count b:=by
 intro c
 induction c with
 | nil=>intro a A f d e r h;cases a with
   | nil=>cases h
   | cons _ _=>simp at e
 | cons p c i =>
   intro a A f d e r h;cases a with
   | nil=>simp at e
   | cons q a =>
     obtain⟨k,v⟩:=p;obtain⟨j,s⟩:=q;have l:k=j:=by simp at e;exact e.1
     have e2:c.map (·.1)=a.map (·.1):=by simp at e;simpa using e.2
     subst l;cases r with
     | @cons _ _ A1 _ _ A2 r1 t =>
       rw[zAv] at h ⊢;cases g:f == k with
       | true=>rw[g] at h;cases h;exact⟨v,A1,rfl,r1,λ b=>by rw[zA0];lia⟩
       | false =>
         rw[g] at h;obtain⟨w,B,m,n,o⟩:=i e2 t h;exact⟨w,B,m,n,λ b=>by rw[zA0];have:=o b;lia⟩
theorem qaK9{K:No}{C:γ}{f:Str}(c:Cls K C)(n:qg1 K C f):OpS1 false (λ x H Q=>∃ a C dx fs v,x=.ref a/\H a=some (.ins C dx fs)/\Cls K C/\qg1 K C f/\fs.lookup f=some v/\Q v H) (D.fld C f):=by
 intro F H v x B d Q r h q;cases x with
 | ins z C' fs =>
   have i:(if C'=C then fs.lookup f else none)=some d:=h;by_cases j:C'=C
   . rw[if_pos j] at i
     subst j;obtain⟨a,dx,k,A,rfl,l,e,m,g⟩:=r.ins_inv;obtain⟨w,B',o,p,s⟩:=qah4 e m i;refine⟨a,C',dx,k,w,rfl,l,c,n,o,q w H B' p (λ _ _ z=>z) ?_⟩;rw[if_neg (by decide)];exact λ b=>.inl (by have:=s b;have:=g b;lia)
   rw[if_neg j] at i;cases i
 | _=>cases h
noncomputable def D.key:D->Option Key
 | .int i=>some (.inl i)
 | .str x=>some (.inr x)
 | _=>none
noncomputable def Dm(a:List (Key×D))(k:Key):Option D:=(a.find? λ b=>decide (b.1=k)).map (·.2)
theorem Oy.key{F:γ->Prop}{H:Hp}{x:D}{B:List γ}{k:Key}(r:Oy F H v x B)(h:x.key=some k):v=kV k:=by
 cases r<;>cases h<;>rfl
theorem qaG6{F:γ->Prop}{H:Hp}:∀{kvs:List (Key×V)}{a:List (Key×D)}{A:List γ}(k:Key),kvs.map (·.1)=a.map (·.1)->Os F H (kvs.map (·.2)) (a.map (·.2)) A ->
   (Dm a k=none/\Eo kvs k=none)∨∃ v d B,Dm a k=some d/\Eo kvs k=some v/\Oy F H v d B/\∀ b,B.count b<=A.count b:=by
 intro kvs
 induction kvs with
 | nil=>intro a A k e r;cases a with
   | nil=>exact .inl ⟨rfl,rfl⟩
   | cons _ _=>simp at e
 | cons p kvs g =>
   intro a A k e r;cases a with
   | nil=>simp at e
   | cons q a =>
     obtain⟨c,v⟩:=p;obtain⟨i,d⟩:=q;have j:c=i:=by simp at e;exact e.1
     have e2:kvs.map (·.1)=a.map (·.1):=by simp at e;simpa using e.2
     subst j;cases r with
     | @cons _ _ A1 _ _ A2 r1 t =>
       by_cases f:c=k
       . exact .inr ⟨v,d,A1,by simp[Dm,f],qN5 f,r1,λ b=>by rw[zA0];lia⟩
       have l:Dm ((c,d)::a) k=Dm a k:=by simp[Dm,zBy,f]
       rw[l,qN6 (p:=(c,v)) f];rcases g k e2 t with h | ⟨w,m,B,n,o,s,u⟩
       . exact .inl h
       exact .inr ⟨w,m,B,n,o,s,λ b=>by rw[zA0];have:=u b;lia⟩
section
variable{c:Vc}{X:Cx}{a b e:Kj}{L J own nw:Bool}{fa fb f:FV}{r:R2}{g:D->D->Option D}{w y t:VT}{pos:Pos}
theorem vnm(i:Nat){x:Str}(b:X.N[i]? = some x:=by rfl)(d:Vis X.env.scope x:=by first | exact Oo rfl | exact On (Oo rfl) | exact On (On rfl))(e:N' x:=by decide)(a:(x == ("__classdict__" : Str))=false:=by decide) :
   VV c X (.Name x pos) false (rdN i):=qaG4 (qn3 b d e a) (qn9 b)
noncomputable def kC(d:D):FV:=λ _=>some d
theorem Af{i:Int}:VV c X (.Constant (.int i) j pos) true (kC (.int i)):=F5 qJ7 λ _ _=>.int _
theorem vbl{i:Bool}:VV c X (.Constant (.bool i) j pos) true (kC (.bl i)):=F5 pe_bl λ _ _=>.bl _
theorem Bb:VV c X (.Constant .none j pos) true (kC .non):=F5 qaK3 λ _ _=>.non
theorem Dt{i:Str}:VV c X (.Constant (.str i) j pos) true (kC (.str i)):=F5 qaS9 λ _ _=>.str _
theorem vgi{x:Str}{n:Int}{k:Tok}(hm:X.mg x=some (.int n k))(a:Gl X x:=by rfl)(b:N' x:=by decide):VV c X (.Name x pos) true (kC (.int n)):=F5 (qav6 hm a b) λ _ _=>.int _
theorem vcls{x:Str}(C:γ)(hm:X.mg x=some (.ref C))(a:Gl X x:=by rfl)(b:N' x:=by decide):VV c X (.Name x pos) true (kC (.adr C)):=F5 (qaT0 C hm a b) λ _ _=>.adr _
theorem vty{x:Str}(n:String)(hm:X.mg x=none)(a:Gl X x:=by rfl)(b:Ju x=some (.type n):=by rfl)(d:x ≠ "__name__" := by decide)(e:N' x:=by decide):VV c X (.Name x pos) true (kC (.ty n)):=F5 (qaB4 n hm a b d e) λ _ _=>.ty _
theorem vpow{i j:Int}(k:Int){m:Nat}{p q:Pos}(a:i ^ j.toNat=k:=by decide)(b:0<=j:=by decide)(h1:j<=1000000:=by decide)(h2:i.natAbs < 2 ^ 64:=by decide):VV c X (.BinOp (.Constant (.int i) m p) .Pow (.Constant (.int j) n q) pos) true (kC (.int k)):=F5 (qaK1 k a b h1 h2) λ _ _=>.int _
def P2(X:Cx)(e a b:Kj)(r:R2):Prop:=∀ w y,PE X a w->PE X b y->PE X e (tOp r w y)
def T2(X:Cx)(e a b:Kj)(r:R2):Prop:=∀ w y,PE X a w->PE X b y->PT X e (tTest (tOp r w y))
theorem Ak{op:Operator}(c:OpR X (Kb op) r):P2 X (.BinOp a op b pos) a b r:=λ _ _ d e=>pe_op c d e
theorem A4(c:OpR X (Jr op) r)(hm:behindInMarks op b=false):P2 X (.Compare a [op] [b] pos) a b r:=λ _ _ d e=>qaK4 c d e hm
theorem Am(c:OpR X (Jr op) r)(hm:behindInMarks op b=false):T2 X (.Compare a [op] [b] pos) a b r:=λ _ _ d e=>qau9 c d e hm
theorem Aw(c:IxR X r)(d:qal9 b:=by exact λ _ _=>rfl):P2 X (.Subscript a b pos) a b r:=λ _ _ e f=>pe_ix c e f d
theorem v2(p:P2 X e a b r)(h:A8 nw r g)(d:VV c X a L fa)(f:VV c X b J fb):VV c X e (nw||(L&&J)) (f2 g fa fb):=⟨PE.mono (p _ _ d.h f.h) (op_vv h)⟩
theorem e2(p:P2 X e a b r)(h:A8 true r g)(d:VE c X a w)(f:VE c X b y):VE c X e (t2 g w y):=⟨PE.mono (p _ _ d.h f.h) (op_ee d f h),qat8 d f⟩
theorem e2v(p:P2 X e a b r)(h:A8 true r g)(d:VE c X a w)(f:VV c X b J fb):VE c X e (t2v g w fb):=⟨PE.mono (p _ _ d.h f.h) (op_ev d h),qaz1 d⟩
theorem e2P(p:P2 X e a b r)(h:A8 false r g)(d:VE c X a w)(f:VE c X b y):VE c X e (t2 g w y):=⟨PE.mono (p _ _ d.h f.h) (qaU2 d f h),qat8 d f⟩
theorem e2vP(p:P2 X e a b r)(h:A8 false r g)(d:VE c X a w)(f:VV c X b J fb):VE c X e (Ik g w fb):=⟨PE.mono (p _ _ d.h f.h) (qaU1 d h),qan1 d⟩
theorem e2n(i:Nat){x:Str}{p0:Pos}(p:P2 X e (.Name x p0) b r)(h:A8 true r g)(a:VE c X b y)(f:X.N[i]? = some x:=by rfl)(j:Vis X.env.scope x:=by first | exact Oo rfl | exact On (Oo rfl) | exact On (On rfl))(k:N' x:=by decide)(d:(x == ("__classdict__" : Str))=false:=by decide) :
   VE c X e (t2n g i y):=⟨λ D6 s o H Q I q=>p _ _ (qn3 f j k d) a.h D6 s o H Q I (op_ne a h (qn9 f D6 o H s I) q),qaz2 a⟩
theorem e2nP(i:Nat){x:Str}{p0:Pos}(p:P2 X e (.Name x p0) b r)(h:A8 nw r g)(a:VE c X b y)(f:X.N[i]? = some x:=by rfl)(j:Vis X.env.scope x:=by first | exact Oo rfl | exact On (Oo rfl) | exact On (On rfl))(k:N' x:=by decide)(d:(x == ("__classdict__" : Str))=false:=by decide) :
   VE c X e (Il g i y):=⟨λ D6 s o H Q I q=>p _ _ (qn3 f j k d) a.h D6 s o H Q I (qaT7 a h (qn9 f D6 o H s I) q),qan2 a⟩
noncomputable def D.asB:D->Option Bool
 | .bl b=>some b
 | _=>none
theorem Oy.asB{F:γ->Prop}{H:Hp}{d:D}{B:List γ}{k:Bool}(r:Oy F H v d B)(h:d.asB=some k):v=.bl k:=by
 cases r<;>cases h<;>rfl
def ttV(f:FV):VTT:=λ ds Q _=>orF ((f ds).bind D.asB) λ b=>Q b ds
def ttE(t:VT):VTT:=λ ds Q xe=>t ds (λ d a=>orF d.asB λ b=>Q b a) xe
theorem qaH1:∀ o H Q,Dq c (ttV f) o H Q->liftV c own f o H (λ x H'=>∃ k,x=.bl k/\Q k H'):=by
 rintro o H Q ⟨F,a,A,h,S,x,q⟩;obtain⟨b,e,q⟩:=qa7.mp q;obtain⟨d,g,e2⟩:=zA1.mp e;exact⟨F,a,A,d,S,g,λ v H' B r s _=>⟨b,r.asB e2,q H' F A (S.same s) (.same s)⟩⟩
theorem qay8(h:VE c X e t):∀ o H Q,Dq c (ttE t) o H Q->Bh c t o H (λ x H'=>∃ k,x=.bl k/\Q k H'):=by
 rintro o H Q ⟨F,a,A,f,S,x,q⟩;refine⟨F,a,A,f,S,x,h.m _ _ _ _ _ (λ d g q v H1 F1 T A1 i S1 l j=>?_) (λ _ _ z=>z) q⟩;obtain⟨b,e,q⟩:=qa7.mp q;exact⟨b,i.asB e,q H1 F1 A1 S1 (j.count λ b=>by rw[zA0];lia)⟩
theorem qab7:∀ ds (Q Q':Bool->Ds->Prop) (xe b:XKd),(∀ d a,Q d a->Q' d a)->(∀ x a,xe x a->b x a)->ttV f ds Q xe->ttV f ds Q' b:=λ ds Q Q' xe b c _=>qa5 λ d=>c d ds
theorem qN7(h:VE c X e t):∀ ds (Q Q':Bool->Ds->Prop) (xe b:XKd),(∀ d a,Q d a->Q' d a)->(∀ x a,xe x a->b x a)->ttE t ds Q xe->ttE t ds Q' b:=λ ds Q Q' xe b f g=>h.m _ _ _ _ _ (λ d a=>qa5 λ z=>f z a) g
theorem tv(h:VV c X e own f)(a:∀ whole,isTrue e X.env whole=(do let v <- whole;standAt e.pos;holding [v] (truthy v)):=by intro _;rfl):VTe c X e (ttV f):=⟨PT.mono (qaA4 h.h a) qaH1,qab7⟩
theorem te(h:VE c X e t)(a:∀ whole,isTrue e X.env whole=(do let v <- whole;standAt e.pos;holding [v] (truthy v)):=by intro _;rfl):VTe c X e (ttE t):=⟨PT.mono (qaA4 h.h a) (qay8 h),qN7 h⟩
theorem q2(p:T2 X e a b r)(h:A8 nw r g)(d:VV c X a L fa)(f:VV c X b J fb):VTe c X e (ttV (f2 g fa fb)):=⟨PT.mono (p _ _ d.h f.h) λ o H Q q=>op_vv h o H _ (qaH1 o H Q q),qab7⟩
theorem q2e(p:P2 X e a b r)(i:T2 X e a b r)(h:A8 true r g)(d:VE c X a w)(f:VE c X b y):VTe c X e (ttE (t2 g w y)):=⟨PT.mono (i _ _ d.h f.h) λ o H Q q=>op_ee d f h o H _ (qay8 (e2 p h d f) o H Q q),qN7 (e2 p h d f)⟩
theorem q2v(p:P2 X e a b r)(i:T2 X e a b r)(h:A8 true r g)(d:VE c X a w)(f:VV c X b J fb):VTe c X e (ttE (t2v g w fb)):=⟨PT.mono (i _ _ d.h f.h) λ o H Q q=>op_ev d h o H _ (qay8 (e2v p h d f) o H Q q),qN7 (e2v p h d f)⟩
variable{E G:VTT}{rest:List Kj}
def D9(t:VTT):VTT:=λ ds Q xe=>t ds (λ b a=>Q (!b) a) xe
theorem Br(h:VTe c X a E):VTe c X (.UnaryOp .Not a pos) (D9 E):=by
 refine⟨PT.mono (qaJ0 h.h) λ o H Q ⟨F,e,A,f,S,x,q⟩=>⟨F,e,A,f,S,x,q⟩,λ e Q Q' f g i j=>h.m _ _ _ _ _ (λ b d=>i _ d) j⟩
structure VTw(c:Vc)(X:Cx)(e:Kj)(t:VTT):Prop where
 h:PW X e (Dq c t)
 m:∀ ds (Q Q':Bool->Ds->Prop) (xe xe':XKd),(∀ d ds',Q d ds'->Q' d ds')->(∀ x ds',xe x ds'->xe' x ds')->t ds Q xe->t ds Q' xe'
theorem VTw.te(h:VTw c X e E):VTe c X e E:=⟨h.h.pt,h.m⟩
theorem Fg(h:VTe c X a E):VTw c X (.BoolOp .And [a] pos) E:=⟨qaI9 h.h,h.m⟩
theorem Hi(h:VTe c X a E):VTw c X (.BoolOp .Or [a] pos) E:=⟨qaS2 h.h,h.m⟩
def ttAnd(t u:VTT):VTT:=λ ds Q xe=>t ds (λ k ds1=>if k=true then u ds1 Q xe else Q false ds1) xe
def ttOr(t u:VTT):VTT:=λ ds Q xe=>t ds (λ k ds1=>if k=true then Q true ds1 else u ds1 Q xe) xe
theorem qU4{k:Bool->St->Hp->(Bool->Hp->Prop)->Prop}{K:Bool->Ds->(Bool->Ds->Prop)->XKd->Prop}(h:VTe c X a E)(i:∀(b:Bool) F ds A xe o H (Q:Bool->Hp->Prop),O1 c F H o ds A->Xc c xe F H A->K b ds (λ f e=>∀ H' F' A',O1 c F' H' o e A'->O0 F H A F' H' A'->Q f H') xe->k b o H Q)(hm:∀(b:Bool) ds (Q Q':Bool->Ds->Prop) (xe:XKd),(∀ d e,Q d e->Q' d e)->K b ds Q xe->K b ds Q' xe):∀ o H Q,Dq c (λ ds Q xe=>E ds (λ b ds1=>K b ds1 Q xe) xe) o H Q->Dq c E o H (λ b H1=>k b o H1 Q):=by
 rintro o H Q ⟨F,ds,A,xe,S,x,q⟩;refine⟨F,ds,A,xe,S,x,h.m _ _ _ _ _ (λ b ds1 q H1 F1 A1 S1 g=>?_) (λ _ _ z=>z) q⟩;exact i b F1 ds1 A1 xe o H1 Q S1 (x.step g) (hm b ds1 _ _ xe (λ f e q H' F' A' S' j=>q H' F' A' S' (g.trans j)) q)
theorem Hj(g:VTe c X a E)(i:VTw c X (.BoolOp .And (b::rest) pos) G):VTw c X (.BoolOp .And (a::b::rest) pos) (ttAnd E G):=by
 refine⟨PW.mono (qaS3 g.h i.h) ?_,λ d Q Q' e l f j=>g.m _ _ _ _ _ (λ k n q=>?_) j⟩
 . refine qU4 (k:=λ b o H Q=>if b=true then Dq c G o H Q else Q false H) (K:=λ b d Q e=>if b=true then G d Q e else Q false d) g ?_ ?_
   . intro b F d A e o H Q S x q
     cases b with
     | true=>rw[if_pos rfl] at q ⊢;exact⟨F,d,A,e,S,x,q⟩
     | false=>rw[if_neg (by decide)] at q ⊢;exact q H F A S O0.refl
   intro b d Q Q' e f;cases b with
   | true=>rw[if_pos rfl,if_pos rfl];exact i.m _ _ _ _ _ f λ _ _ z=>z
   | false=>rw[if_neg (by decide),if_neg (by decide)];exact f _ _
 cases k with
 | true=>rw[if_pos rfl] at q ⊢;exact i.m _ _ _ _ _ f j q
 | false=>rw[if_neg (by decide)] at q ⊢;exact f _ _ q
theorem tor(g:VTe c X a E)(i:VTw c X (.BoolOp .Or (b::rest) pos) G):VTw c X (.BoolOp .Or (a::b::rest) pos) (ttOr E G):=by
 refine⟨PW.mono (pw_or g.h i.h) ?_,λ d Q Q' e l f j=>g.m _ _ _ _ _ (λ k n q=>?_) j⟩
 . refine qU4 (k:=λ b o H Q=>if b=true then Q true H else Dq c G o H Q) (K:=λ b d Q e=>if b=true then Q true d else G d Q e) g ?_ ?_
   . intro b F d A e o H Q S x q
     cases b with
     | false=>rw[if_neg (by decide)] at q ⊢;exact⟨F,d,A,e,S,x,q⟩
     | true=>rw[if_pos rfl] at q ⊢;exact q H F A S O0.refl
   intro b d Q Q' e f;cases b with
   | false=>rw[if_neg (by decide),if_neg (by decide)];exact i.m _ _ _ _ _ f λ _ _ z=>z
   | true=>rw[if_pos rfl,if_pos rfl];exact f _ _
 cases k with
 | false=>rw[if_neg (by decide)] at q ⊢;exact i.m _ _ _ _ _ f j q
 | true=>rw[if_pos rfl] at q ⊢;exact f _ _ q
end
section
variable{c:Vc}{X:Cx}{a b e:Kj}{oa ob own nw:Bool}{fa fb f:FV}{ta Z t:VT}{Y:Pos}{rest:List Kj}
def Iv(ta:VT)(k:D->VT):VT:=λ ds Q xe=>ta ds (λ x ds1=>k x ds1 Q xe) xe
theorem qah5{k:V->St->Hp->VK->Prop}{K:D->VT}(i:VE c X a ta)(hm:∀ x ds (Q Q':DK) (xe f:XKd),(∀ d e,Q d e->Q' d e)->(∀ x e,xe x e->f x e)->K x ds Q xe->K x ds Q' f)(j:∀ F H W v x T,Oy F H v x T->∀ Q,(∃ ds A xe,O1 c F H W ds A/\Xc c xe F H A/\K x ds (λ d e=>∀ v H' F' T A',Oy F' H' v d T->O1 c F' H' W e A'->Ok F' H' (T++A')->O0 F H A F' H' (T++A')->Q v H') xe)->k v W H Q) :
   ∀ W H Q,Bh c (Iv ta K) W H Q->Bh c ta W H (λ x H1=>k x W H1 Q):=by
 rintro W H Q ⟨F,ds,A,xe,S,x,q⟩;refine⟨F,ds,A,xe,S,x,i.m _ _ _ _ _ (λ d g q v H1 F1 T A1 l S1 p n=>?_) (λ _ _ z=>z) q⟩;have h:O0 F H A F1 H1 A1:=n.count λ b=>by rw[zA0];lia
 exact j F1 H1 W v d T l Q ⟨g,A1,xe,S1,x.step h,hm d g _ _ _ _ (λ t e q w H' F' T' A' r S' o s=>q w H' F' T' A' r S' o (h.trans s)) (λ _ _ z=>z) q⟩
def G1(ta Z:VT):VT:=Iv ta λ x ds Q xe=>orF x.asB λ k=>if k=true then Z ds Q xe else Q (.bl false) ds
def tOrE(ta Z:VT):VT:=Iv ta λ x ds Q xe=>orF x.asB λ k=>if k=true then Q (.bl true) ds else Z ds Q xe
theorem qE0{k:Bool}{p q a b:Prop}(h1:p->a)(h2:q->b):(if k=true then p else q)->(if k=true then a else b):=by
 cases k with
 | true=>rw[if_pos rfl,if_pos rfl];exact h1
 | false=>rw[if_neg (by decide),if_neg (by decide)];exact h2
theorem qal7(g:VE c X e Z):∀(x:D) ds (Q Q':DK) (xe b:XKd),(∀ d a,Q d a->Q' d a)->(∀ x a,xe x a->b x a)->(orF x.asB λ k=>if k=true then Z ds Q xe else Q (.bl false) ds)->(orF x.asB λ k=>if k=true then Z ds Q' b else Q' (.bl false) ds) :=
 λ x ds Q Q' xe b f h=>qa5 λ k=>qE0 (g.m _ _ _ _ _ f h) (f _ _)
theorem qav8(g:VE c X e Z):∀(x:D) ds (Q Q':DK) (xe b:XKd),(∀ d a,Q d a->Q' d a)->(∀ x a,xe x a->b x a)->(orF x.asB λ k=>if k=true then Q (.bl true) ds else Z ds Q xe)->(orF x.asB λ k=>if k=true then Q' (.bl true) ds else Z ds Q' b) :=
 λ x ds Q Q' xe b f h=>qa5 λ k=>qE0 (f _ _) (g.m _ _ _ _ _ f h)
theorem F7{op:PySem.BoolOp}(h:VE c X a ta):VE c X (.BoolOp op [a] Y) ta:=⟨qao7 h.h,h.m⟩
theorem Ev(e:VE c X a ta)(f:VE c X (.BoolOp .And (b::rest) Y) Z):VE c X (.BoolOp .And (a::b::rest) Y) (G1 ta Z):=by
 refine⟨PE.mono (qap0 e.h f.h) ?_,λ l Q Q' g i p n=>e.m _ _ _ _ _ (λ d j=>qal7 f d j Q Q' g i p n) n⟩;refine qah5 (k:=λ v W H Q=>∃ o,v=.bl o/\if o=true then Bh c Z W H Q else Q (.bl false) H) e (qal7 f) ?_;rintro F H W v x T r Q ⟨l,A,g,S,s,q⟩;obtain⟨k,t,q⟩:=qa7.mp q;refine⟨k,r.asB t,?_⟩;cases k with
 | true=>rw[if_pos rfl] at q ⊢;exact⟨F,l,A,g,S,s,q⟩
 | false=>rw[if_neg (by decide)] at q ⊢;exact q _ H F [] A (.bl _) S S.ok O0.refl
theorem eor(e:VE c X a ta)(f:VE c X (.BoolOp .Or (b::rest) Y) Z):VE c X (.BoolOp .Or (a::b::rest) Y) (tOrE ta Z):=by
 refine⟨PE.mono (pe_or e.h f.h) ?_,λ l Q Q' g i p n=>e.m _ _ _ _ _ (λ d j=>qav8 f d j Q Q' g i p n) n⟩;refine qah5 (k:=λ v W H Q=>∃ o,v=.bl o/\if o=true then Q (.bl true) H else Bh c Z W H Q) e (qav8 f) ?_;rintro F H W v x T r Q ⟨l,A,g,S,s,q⟩;obtain⟨k,t,q⟩:=qa7.mp q;refine⟨k,r.asB t,?_⟩;cases k with
 | false=>rw[if_neg (by decide)] at q ⊢;exact⟨F,l,A,g,S,s,q⟩
 | true=>rw[if_pos rfl] at q ⊢;exact q _ H F [] A (.bl _) S S.ok O0.refl
variable{qc:VTT}
def tIfE(qc:VTT)(ta Z:VT):VT:=λ ds Q xe=>qc ds (λ k ds1=>if k=true then ta ds1 Q xe else Z ds1 Q xe) xe
theorem eif(i:VTe c X cd qc)(j:VE c X a ta)(l:VE c X b Z):VE c X (.IfExp cd a b Y) (tIfE qc ta Z):=by
 refine⟨PE.mono (qae9 i.h j.h l.h) ?_,λ t Q Q' f w u n=>i.m _ _ _ _ _ (λ k e=>qE0 (j.m _ _ _ _ _ u n) (l.m _ _ _ _ _ u n)) n⟩;rintro W H Q ⟨F,t,A,f,S,x,q⟩;refine⟨F,t,A,f,S,x,i.m _ _ _ _ _ (λ k e q H1 F1 A1 S1 g=>?_) (λ _ _ z=>z) q⟩;cases k with
 | true=>rw[if_pos rfl] at q ⊢;exact⟨F1,e,A1,f,S1,x.step g,j.m _ _ _ _ _ (λ d p q v H' F' T A' r S' o s=>q v H' F' T A' r S' o (g.trans s)) (λ _ _ z=>z) q⟩
 | false=>rw[if_neg (by decide)] at q ⊢;exact⟨F1,e,A1,f,S1,x.step g,l.m _ _ _ _ _ (λ d p q v H' F' T A' r S' o s=>q v H' F' T A' r S' o (g.trans s)) (λ _ _ z=>z) q⟩
def fAnd(fa fb:FV):FV:=λ ds=>(fa ds).bind λ x=>x.asB.bind λ k=>if k=true then fb ds else some (.bl false)
def fOr(fa fb:FV):FV:=λ ds=>(fa ds).bind λ x=>x.asB.bind λ k=>if k=true then some (.bl true) else fb ds
def fNot(fa:FV):FV:=λ ds=>(fa ds).bind λ x=>x.asB.map λ k=>.bl (!k)
theorem Iw{op:PySem.BoolOp}(h:VV c X a oa fa):VV c X (.BoolOp op [a] Y) oa fa:=⟨qao7 h.h⟩
theorem vand(m:VV c X a oa fa)(n:VV c X (.BoolOp .And (b::rest) Y) ob fb):VV c X (.BoolOp .And (a::b::rest) Y) ob (fAnd fa fb):=by
 refine⟨PE.mono (qap0 m.h n.h) λ W H Q g=>?_⟩;obtain⟨F,i,A,d,S,e,q⟩:=g;obtain⟨x,p,e⟩:=zA1.mp e;obtain⟨k,r,e⟩:=zA1.mp e;refine⟨F,i,A,x,S,p,λ v H1 B1 s f y=>⟨k,s.asB r,?_⟩⟩;cases k with
 | true=>rw[if_pos rfl] at e ⊢;exact⟨F,i,A,d,S.same f,e,λ w H2 B2 t u j=>q w H2 B2 t (f.trans u) λ l=>⟨(j l).one,λ b o e=>(j l).new b o (f b o e)⟩⟩
 | false=>rw[if_neg (by decide)] at e ⊢;cases e;exact q _ H1 [] (.bl _) f λ _=>New.nil
theorem vor(m:VV c X a oa fa)(n:VV c X (.BoolOp .Or (b::rest) Y) ob fb):VV c X (.BoolOp .Or (a::b::rest) Y) ob (fOr fa fb):=by
 refine⟨PE.mono (pe_or m.h n.h) λ W H Q g=>?_⟩;obtain⟨F,i,A,d,S,e,q⟩:=g;obtain⟨x,p,e⟩:=zA1.mp e;obtain⟨k,r,e⟩:=zA1.mp e;refine⟨F,i,A,x,S,p,λ v H1 B1 s f y=>⟨k,s.asB r,?_⟩⟩;cases k with
 | false=>rw[if_neg (by decide)] at e ⊢;exact⟨F,i,A,d,S.same f,e,λ w H2 B2 t u j=>q w H2 B2 t (f.trans u) λ l=>⟨(j l).one,λ b o e=>(j l).new b o (f b o e)⟩⟩
 | true=>rw[if_pos rfl] at e ⊢;cases e;exact q _ H1 [] (.bl _) f λ _=>New.nil
theorem vnot(f:VV c X a oa fa):VV c X (.UnaryOp .Not a Y) true (fNot fa):=by
 refine⟨PE.mono (qaK2 f.h) λ W H Q b=>?_⟩;obtain⟨F,g,A,d,S,e,q⟩:=b;obtain⟨x,i,e⟩:=zA1.mp e;obtain⟨k,j,rfl⟩:=zA9.mp e;exact⟨F,g,A,x,S,i,λ v H1 B1 l m n=>⟨k,l.asB j,q _ H1 [] (.bl _) m λ _=>New.nil⟩⟩
noncomputable def gNeg:D->Option D
 | .int i=>some (.int (-i))
 | _=>none
theorem qaT2:OpS1 true (rU λ i=>.int (-i)) gNeg:=by
 intro F H v x B d Q r h q;cases x with
 | int i=>cases h;cases r;exact⟨i,rfl,q _ H [] (.int _) (λ _ _ z=>z) New.nil⟩
 | _=>cases h
theorem vneg(b:VV c X a oa fa):VV c X (.UnaryOp .USub a Y) true (f1 gNeg fa):=⟨PE.mono (pe_un qaR4 b.h) (op_v (nw:=true) qaT2)⟩
theorem Bj{f:Str}{C:γ}{K:No}(b:X.K=K)(d:VV c X a oa fa)(e:Cls K C)(n:qg1 K C f)(g:Jw a f X.env (eval a X.env)=eval a X.env:=by rfl):VV c X (.Attribute a f Y) oa (f1 (D.fld C f) fa):=by
 subst b;exact⟨PE.mono (qao8 d.h g) (op_v (nw:=false) (qaK9 e n))⟩
variable{rc:List V->Hp->VK->Prop}{gc:Ds->Option D}{x:Str}{p:Pos}{es:List Kj}{fs:Ds->Option Ds}{tos:VTA}
def Ba(gc:Ds->Option D)(fs:Ds->Option Ds):FV:=λ ds=>(fs ds).bind gc
theorem vbi{id:String}(d:CallR X (.builtin id) rc)(h:OpS nw rc gc)(hm:X.mg x=none)(f:VVs c X (e::es) own fs)(g:Gl X x:=by rfl)(i:Ju x=some (.builtin id):=by rfl)(j:x ≠ "__name__" := by decide)(a:N' x:=by decide)(k:Jp (e::es) X.env=(false,eval e X.env)::Jp es X.env:=by rfl)(b:((backTo Y (Jp es X.env)).any λ x=>x.1)=false:=by rfl) :
   VV c X (.Call (.Name x p) (e::es) [] Y) (nw||own) (Ba gc fs):=⟨PE.mono (cbi d hm f.h g i j a k b) (qaL1 h)⟩
theorem Fv{id:String}(d:CallR X (.type id) rc)(h:OpS nw rc gc)(hm:X.mg x=none)(f:VVs c X (e::es) own fs)(g:Gl X x:=by rfl)(i:Ju x=some (.type id):=by rfl)(j:x ≠ "__name__" := by decide)(a:N' x:=by decide)(k:Jp (e::es) X.env=(false,eval e X.env)::Jp es X.env:=by rfl)(b:((backTo Y (Jp es X.env)).any λ x=>x.1)=false:=by rfl) :
   VV c X (.Call (.Name x p) (e::es) [] Y) (nw||own) (Ba gc fs):=⟨PE.mono (cty d hm f.h g i j a k b) (qaL1 h)⟩
theorem ebi{id:String}(f:CallR X (.builtin id) rc)(h:OpS true rc gc)(hm:X.mg x=none)(a:VOs c X (e::es) tos)(g:Gl X x:=by rfl)(i:Ju x=some (.builtin id):=by rfl)(j:x ≠ "__name__" := by decide)(b:N' x:=by decide)(k:Jp (e::es) X.env=(false,eval e X.env)::Jp es X.env:=by rfl)(d:((backTo Y (Jp es X.env)).any λ x=>x.1)=false:=by rfl) :
   VE c X (.Call (.Name x p) (e::es) [] Y) (tcO gc tos):=⟨PE.mono (cbi f hm a.h g i j b k d) (opc_o a h),qay9 a⟩
def gLst(xs:Ds):Option D:=gd (D.imms xs=true/\xs.length<=big) (.l false xs)
def gTup(xs:Ds):Option D:=gd (D.imms xs=true/\xs.length<=big) (.q xs)
theorem Bl(k:VVs c X es own fs):VV c X (.List es Y) true (Ba gLst fs):=by
 refine⟨PE.mono (qaB2 k.h) λ W H Q f=>?_⟩;obtain⟨F,l,A,d,S,e,q⟩:=f;obtain⟨m,n,e2⟩:=zA1.mp e;obtain⟨g,rfl⟩:=qu1 e2;refine⟨F,l,A,m,S,n,λ r H1 B1 i j s=>⟨by rw[i.len];exact zAj g.2 qi4,λ p a=>?_⟩⟩;exact q _ _ [p] (qz4 a (i.imms0 g.1)) (j.trans (Same.new a)) λ _=>⟨(qh1 a).one,λ b o e=>(qh1 a).new b o (j b o e)⟩
theorem Es{k:Nat}(i:VVs c X es own fs):VV c X (.Tuple es k Y) true (Ba gTup fs):=by
 refine⟨PE.mono (qaK0 i.h) λ W H Q a=>?_⟩;obtain⟨F,j,A,d,S,e,q⟩:=a;obtain⟨l,m,e2⟩:=zA1.mp e;obtain⟨b,rfl⟩:=qu1 e2;refine⟨F,j,A,l,S,m,λ o H1 B1 f n r=>⟨by rw[f.len];exact zAj b.2 qi4,λ p g=>?_⟩⟩;exact q _ _ [] (qag0 g (f.imms0 b.1)) (n.trans (Same.new g)) λ _=>New.nil
def FO:=Ds->Option (Option Int)
inductive qaR0(c:Vc)(f:FO)(W:St)(H:Hp)(Q:Option Int->Hp->Prop):Prop
 | mk (F:γ->Prop) (ds:Ds) (A:List γ) (i:Option Int) (S:O1 c F H W ds A) (e:f ds=some i) (q:∀ H',Same H H'->Q i H'):qaR0 c f W H Q
def qaV4(c:Vc)(f:FO):TO:=qaR0 c f
structure VPO(c:Vc)(X:Cx)(e:Option Kj)(f:FO):Prop where
 h:PO X e (qaV4 c f)
theorem PO.mono{X:Cx}{e:Option Kj}{t t':TO}(h:PO X e t)(i:∀ W H Q,t' W H Q->t W H Q):PO X e t':=λ D6 s W H Q I q=>h D6 s W H Q I (i W H Q q)
noncomputable def foN:FO:=λ _=>some none
noncomputable def D.asI:D->Option Int
 | .int i=>some i
 | _=>none
theorem Oy.asI{F:γ->Prop}{H:Hp}{d:D}{B:List γ}{k:Int}(r:Oy F H v d B)(h:d.asI=some k):v=.int k:=by
 cases r<;>cases h<;>rfl
def foS(f:FV):FO:=λ ds=>(f ds).bind λ d=>d.asI.map some
theorem vpo_n:VPO c X none foN:=⟨PO.mono qae5 λ W H Q ⟨F,a,A,i,S,e,q⟩=>by cases e;exact q H λ _ _ z=>z⟩
theorem vpo_s(h:VV c X e own f):VPO c X (some e) (foS f):=by
 refine⟨PO.mono (qae4 h.h) λ W H Q a=>?_⟩;obtain⟨F,b,A,i,S,e,q⟩:=a;obtain⟨d,g,e2⟩:=zA1.mp e;obtain⟨j,k,rfl⟩:=zA9.mp e2;exact⟨F,b,A,d,S,g,λ v H' B r s _=>⟨j,r.asI k,q H' s⟩⟩
noncomputable def noT:D->Bool
 | .q _=>false
 | _=>true
def fsl(fa:FV)(lo hi:FO):FV:=λ ds=>(fa ds).bind λ x=>(lo ds).bind λ l=>(hi ds).bind λ h=>if noT x=true then gSl x l h else none
theorem vsl{lo hi:Option Kj}{n p:FO}{p2:Pos}(t:VV c X a oa fa)(u:VPO c X lo n)(y:VPO c X hi p):VV c X (.Subscript a (.Slice lo hi none p2) Y) true (fsl fa n p):=by
 refine⟨PE.mono (qQ2 qac7 t.h u.h y.h) λ W H Q g=>?_⟩;obtain⟨F,i,A,d,S,e,q⟩:=g;obtain⟨x,B,e⟩:=zA1.mp e;obtain⟨l,e2,e⟩:=zA1.mp e;obtain⟨h,C,e⟩:=zA1.mp e;by_cases j:noT x=true
 . rw[if_pos j] at e
   refine⟨F,i,A,x,S,B,λ v H1 B1 D k _=>⟨F,i,A,l,S.same k,e2,λ H2 m=>⟨F,i,A,h,(S.same k).same m,C,λ H3 r=>?_⟩⟩⟩;have f:=(k.trans m).trans r;refine os_sl ((D.same m).same r) e (λ I z=>by subst z;cases j) λ w H' B' E G s=>q w H' B' E (f.trans G) λ _=>⟨s.one,λ b o e=>s.new b o (f b o e)⟩
 rw[if_neg j] at e;cases e
def fget(fa a b:FV):FV:=λ ds=>(fa ds).bind λ x=>(a ds).bind λ y=>(b ds).bind λ z=>match x with
 | .dct _ kvs=>y.key.bind λ k=>gd (((Dm kvs k).getD z).imm=true) ((Dm kvs k).getD z)
 | _=>none
theorem vget{k z:Kj}{D E:Bool}{s t:FV}{apos cpos:Pos}(G:X.A.units+1 < cLine)(I:VV c X a oa fa)(J:VV c X k D s)(K:VV c X z E t)(m:M2 X a "get" apos k z cpos):VV c X (.Call (.Attribute a "get" apos) [k,z] [] cpos) true (fget fa s t):=by
 refine⟨PE.mono (qaB3 G I.h J.h K.h m) λ W H Q j=>?_⟩;obtain⟨F,l,A,d,S,e,q⟩:=j;obtain⟨x,L,e⟩:=zA1.mp e;obtain⟨y,e2,e⟩:=zA1.mp e;obtain⟨w,M,e⟩:=zA1.mp e;cases x with
 | dct z N =>
   obtain⟨n,O,e⟩:=zA1.mp e;obtain⟨g,rfl⟩:=qu1 e;refine⟨F,l,A,_,S,L,λ v H1 B1 P o _=>?_⟩;obtain⟨a,b,A2,rfl,B,R,T,_⟩:=P.dct_inv;refine⟨a,rfl,.inl ⟨b,.inl B⟩,F,l,A,y,S.same o,e2,λ u H2 B2 U i _=>⟨F,l,A,w,(S.same o).same i,M,λ V H3 B3 C p _=>?_⟩⟩;have r:=p _ _ (i _ _ B);refine⟨Eo b n,.inl ⟨b,n,.inl r,(U.key O),rfl⟩,?_⟩;have f:=(o.trans i).trans p;rcases qaG6 n R T with⟨n1,n2⟩ | ⟨vv,dd,BB,n1,n2,n3,n4⟩
   . rw[n1] at g q;rw[n2]
     have:=C.imm g
     subst this;exact q _ H3 [] C f λ _=>New.nil
   rw[n1] at g q;rw[n2]
   have:=n3.imm g
   subst this;exact q _ H3 [] ((n3.same i).same p) f λ _=>New.nil
 | _=>cases e
end
section
variable{c:Vc}{X:Cx}{a b e:Kj}{pos:Pos}{F F':γ->Prop}{H H':Hp}{σ:St}{ds:Ds}{A:List γ}
theorem O1.put1{d:D}(S:O1 c F H σ ds A)(h:ds[i]? = some d)(e:d≠.u):∃(v:V)(B C:List γ),(σ++c.gv)[i]? = some (some v)/\Oy F H v d B/\(∀ b,A.count b=B.count b+C.count b) /\
   ∀{F':γ->Prop}{H':Hp}{W:γ->Prop}(d':D)(B':List γ),Kp F H W F' H'->(∀ b∈C,¬ W b)->Oy F' H' v d' B'->∃ A':List γ,Locs F' H' (σ++c.gv) (ds.set i d') A'/\∀ b,A'.count b=B'.count b+C.count b:=by
 have f:A9 ds i []=some d:=by unfold A9;rw[h];rfl
 obtain⟨u,w,B,C,g,j,l,m,n⟩:=S.loc.place f e;cases j;refine⟨u,B,C,g,l,m,λ{F' H' W} d' B' k o r=>?_⟩;obtain⟨A',a,q2⟩:=n d' B' k o r;refine⟨A',?_,q2⟩;unfold Bf at a;rw[h] at a;exact a
theorem qm2{d:D}(h:d.known=true):d≠.u:=λ z=>by subst z;cases h
def tMv(i:Nat):VT:=λ ds Q _=>orF (rdN i ds) λ d=>Q d (ds.set i .u)
theorem emv(i:Nat){x:Str}(k:X.N[i]? = some x:=by rfl)(m:Vis X.env.scope x:=by first | exact Oo rfl | exact On (Oo rfl) | exact On (On rfl))(n:N' x:=by decide)(a:(x == ("__classdict__" : Str))=false:=by decide) :
   VE c X (.Name x pos) (tMv i):=by
 refine⟨λ D6 s σ H Q I g=>?_,λ p Q Q' r t u _=>qa5 λ d=>u _ _⟩;obtain⟨F,p,A,r,S,x,q⟩:=g;refine qn3 k m n a D6 s σ H Q I ?_;obtain⟨d,h,q⟩:=qa7.mp q;obtain⟨h,w⟩:=ql8.mp h;obtain⟨v,B,C,l,y,j,D⟩:=S.put1 h (qm2 w);have E:=qn9 k D6 σ H s I;rw[zAp E] at l;obtain⟨A',G,q2⟩:=D .u [] (Kp.same (λ _ _ z=>z)) (λ _ _ z=>z) (.u v);refine⟨v,l,q v H F B A' y ⟨G,S.ok.count λ b=>by rw[q2,j];simp,S.len,S.ag⟩ (S.ok.count λ b=>by rw[zA0,q2,j];simp) ?_⟩;exact⟨λ _ _ e _=>e,λ b o e z=>by rw[zA0,q2];have:=j b;simp;lia,λ _ f=>f,λ _ _ _ _ f=>f⟩
def tFz(i:Nat):VT:=λ ds Q _=>orF (rdN i ds) λ d=>Q d.fz (ds.set i d.fz)
theorem share{B C:List γ}(o:Ok F H A)(a:∀ b,A.count b=B.count b+C.count b)(d:∀ b∈B,∃ o,H b=some o/\D8 o=true){A':List γ}(c:∀ b,A'.count b=C.count b) :
   Ok (λ b=>F b∨b∈B) H A'/\O0 F H A (λ b=>F b∨b∈B) H A':=by
 refine⟨⟨λ b=>by rw[c];have:=o.sep b;have:=a b;lia,λ b f=>?_,λ b f=>?_⟩,λ _ _ e _=>e,λ b o e z=>by rw[c];have:=a b;lia,λ b f=>.inl f,λ b u e z f=>?_⟩
 . rw[c]
   rcases f with f | f
   . have:=o.fro b f;have:=a b;lia
   have:=qa8.mp f;have:=o.sep b;have:=a b;lia
 . rcases f with f | f
   . exact o.ex b f
   exact let ⟨u,e,_⟩:=d b f;⟨u,e⟩
 rcases f with f | f
 . exact f
 have:=qa8.mp f;have:=a b;lia
theorem efz(i:Nat){x:Str}(h:X.N[i]? = some x:=by rfl)(n:Vis X.env.scope x:=by first | exact Oo rfl | exact On (Oo rfl) | exact On (On rfl))(o:N' x:=by decide)(a:(x == ("__classdict__" : Str))=false:=by decide) :
   VE c X (.Name x pos) (tFz i):=by
 refine⟨λ D6 s σ H Q I e=>?_,λ p Q Q' r t u _=>qa5 λ d=>u _ _⟩;obtain⟨F,p,A,r,S,x,q⟩:=e;refine qn3 h n o a D6 s σ H Q I ?_;obtain⟨d,g,q⟩:=qa7.mp q;obtain⟨g,w⟩:=ql8.mp g;obtain⟨v,B,C,j,k,y,D⟩:=S.put1 g (qm2 w);have E:=qn9 h D6 σ H s I;rw[zAp E] at j;have l:=k.fz (F':=λ b=>F b∨b∈B) (λ b f=>.inl f) λ b G=>.inr G
 obtain⟨A',J,q2⟩:=D d.fz [] (Kp.more (H:=H) λ b f=>Oo f) (λ _ _ z=>z) l;obtain⟨m,K⟩:=share S.ok y k.cells (A':=A') (λ b=>by rw[q2];simp);exact⟨v,j,q v H _ [] A' l ⟨J,m,S.len,S.ag⟩ m K⟩
abbrev PF:=Ds->Option (Nat×List Nat)
inductive LiftP(c:Vc)(pf:PF)(σ:St)(H:Hp)(Q:VK):Prop
 | mk (F:γ->Prop) (ds:Ds) (A:List γ) (i:Nat) (p:List Nat) (d:D) (S:O1 c F H σ ds A) (e:pf ds=some (i,p)) (g:A9 ds i p=some d) (n:d≠.u) (q:∀ u w H',(σ++c.gv)[i]? = some (some u)->Walk H' u p w->Same H H'->Q w H'):LiftP c pf σ H Q
def F8(c:Vc)(pf:PF):TE:=LiftP c pf
structure VP(c:Vc)(X:Cx)(e:Kj)(pf:PF):Prop where
 h:PE X e (F8 c pf)
theorem vpn(i:Nat){x:Str}(h:X.N[i]? = some x:=by rfl)(l:Vis X.env.scope x:=by first | exact Oo rfl | exact On (Oo rfl) | exact On (On rfl))(m:N' x:=by decide)(b:(x == ("__classdict__" : Str))=false:=by decide) :
   VP c X (.Name x pos) (λ _=>some (i,[])):=by
 refine⟨λ D6 s σ H Q I f=>?_⟩;obtain⟨F,t,A,j,p,d,S,e,n,g,q⟩:=f;refine qn3 h l m b D6 s σ H Q I ?_;cases e;obtain⟨u,w,B,C,k,o,v,y,D⟩:=S.loc.place n g;cases o;have r:=qn9 h D6 σ H s I;have a:=k;rw[zAp r] at a;exact⟨u,a,q u u H k rfl λ _ _ z=>z⟩
theorem qL7:∀{p:List Nat}{d x:D}{q:List Nat},d.getP (p++q)=some x->∃ e,d.getP p=some e/\e.getP q=some x
 | [],d,x,q,h=>⟨d,rfl,h⟩
 | n::p,d,x,q,h=>by
   have h:D.getP d (n::(p++q))=some x:=h;unfold D.getP at h;cases a:d.kids[n]? with
   | none=>rw[a] at h;cases h
   | some y =>
     rw[a] at h;obtain⟨e,b,c⟩:=qL7 (p:=p) h;exact⟨e,by unfold D.getP;rw[a];exact b,c⟩
theorem qL8{p q:List Nat}{x:D}(h:A9 ds i (p++q)=some x):∃ e,A9 ds i p=some e/\e.getP q=some x:=by
 unfold A9 at h ⊢;cases a:ds[i]? with
 | none=>rw[a] at h;cases h
 | some d=>rw[a] at h;exact qL7 h
theorem Walk.snoc:∀{p:List Nat}{u v w:V}{n:Nat},Walk H u p v->Lnk H v n w->Walk H u (p++[n]) w
 | [],_,_,w,n,h,l=>by cases h;exact⟨w,l,rfl⟩
 | m::p,_,_,_,_,⟨x,h1,h2⟩,l=>⟨x,h1,h2.snoc l⟩
theorem qaN2{d e:D}(h:d.getP [n]=some e):d≠.u:=λ z=>by subst z;cases (show (none:Option D)=some _ from h)
theorem O1.place{p:List Nat}{d:D}{u:V}(S:O1 c F H σ ds A)(h:A9 ds i p=some d)(e:d≠.u)(f:(σ++c.gv)[i]? = some (some u))(g:Walk H u p w):∃(B C:List γ),Oy F H w d B/\(∀ b,A.count b=B.count b+C.count b) /\
   ∀{F':γ->Prop}{H':Hp}{W:γ->Prop}(d':D)(B':List γ),Kp F H W F' H'->(∀ b∈C,¬ W b)->Oy F' H' w d' B'->∃ A':List γ,Locs F' H' (σ++c.gv) (Bf ds i p d') A'/\∀ b,A'.count b=B'.count b+C.count b:=by
 obtain⟨n,o,B,C,a,j,k,l,m⟩:=S.loc.place h e;rw[f] at a;cases a;cases g.fn j;exact⟨B,C,k,l,m⟩
def D.fidx(C:γ)(f:Str):D->Option Nat
 | .ins _ C' fs=>if C'=C then fs.findIdx? (λ q=>f == q.1) else none
 | _=>none
theorem qE3{α:Type}:∀{fs:List (Str×α)}{f:Str}{n:Nat},fs.findIdx? (λ q=>f == q.1)=some n->∃ v,fs.lookup f=some v/\(fs.map (·.2))[n]? = some v
 | [],f,n,h=>by simp at h
 | (k,v)::r,f,n,h=>by
   rw[zCg] at h;rw[zAv];cases a:f == k with
   | true=>simp[a] at h;subst h;exact⟨v,rfl,rfl⟩
   | false =>
     simp[a] at h;obtain⟨m,b,rfl⟩:=h;obtain⟨w,c,d⟩:=qE3 (fs:=r) b;exact⟨w,c,by simpa using d⟩
theorem qW3{α β:Type}:∀{fs:List (Str×α)}{a:List (Str×β)}{f:Str},fs.map (·.1)=a.map (·.1)->fs.findIdx? (λ q=>f == q.1)=a.findIdx? (λ q=>f == q.1)
 | [],[],_,_=>rfl
 | [],_::_,_,h=>by simp at h
 | _::_,[],_,h=>by simp at h
 | (k,_)::r,(k',_)::r',f,h=>by
   have b:k=k':=by simp at h;exact h.1
   have c:r.map (·.1)=r'.map (·.1):=by simp at h;simpa using h.2
   subst b;rw[zCg,zCg,qW3 c]
def pfFld(C:γ)(f:Str)(pf:PF):PF:=λ ds=>(pf ds).bind λ q=>(A9 ds q.1 q.2).bind λ d=>(d.fidx C f).map λ n=>(q.1,q.2++[n])
theorem Ek{f:Str}{C:γ}{K:No}{pf:PF}(G:X.K=K)(l:VP c X a pf)(I:Cls K C)(J:qg1 K C f)(L:Jw a f X.env (eval a X.env)=eval a X.env:=by rfl):VP c X (.Attribute a f pos) (pfFld C f pf):=by
 subst G;refine⟨PE.mono (qao8 l.h L) λ σ H Q m=>?_⟩;obtain⟨F,M,A,i,p,d,S,e,N,Z,q⟩:=m;obtain⟨⟨j,O⟩,P,e⟩:=zA1.mp e;obtain⟨t,e2,e⟩:=zA1.mp e;obtain⟨n,x,e⟩:=zA9.mp e;cases e;obtain⟨R,g1,g2⟩:=qL8 N;rw[e2] at g1;cases g1;have b:=qaN2 g2;refine⟨F,M,A,j,O,t,S,P,e2,b,λ u w H' y D s=>?_⟩;obtain⟨B,C0,r,_,_⟩:=(S.same s).place e2 b y D;cases t with
 | ins z C' T =>
   have g:(if C'=C then T.findIdx? (λ q=>f == q.1) else none)=some n:=x;by_cases o:C'=C
   . rw[if_pos o] at g
     obtain⟨a,E,k,_,rfl,l,U,rs,_⟩:=r.ins_inv;rw[<- qW3 U] at g;obtain⟨v,V,Y⟩:=qE3 g;subst o;exact⟨a,C',E,k,v,rfl,l,I,J,V,q u v H' y (D.snoc ⟨a,rfl,.inr (.inr (.inr ⟨C',E,k,l,Y⟩))⟩) s⟩
   rw[if_neg o] at g;cases g
 | _=>cases x
def pfIx(pf:PF)(fb:FV):PF:=λ ds=>(pf ds).bind λ q=>(A9 ds q.1 q.2).bind λ d=>d.elems.bind λ ys=>(fb ds).bind λ y=>y.asI.bind λ k=>(ixN ys.length k).map λ n=>(q.1,q.2++[n])
theorem vpix{pf:PF}{ob:Bool}{fb:FV}(f:VP c X a pf)(N:VV c X b ob fb)(O:qal9 b:=by exact λ _ _=>rfl):VP c X (.Subscript a b pos) (pfIx pf fb):=by
 refine⟨PE.mono (pe_ix qb4 f.h N.h O) λ σ H Q C=>?_⟩;obtain⟨F,J,A,i,p,d,S,e,P,hd,q⟩:=C;obtain⟨⟨j,R⟩,T,e⟩:=zA1.mp e;obtain⟨K,e2,e⟩:=zA1.mp e;obtain⟨U,D,e⟩:=zA1.mp e;obtain⟨y,V,e⟩:=zA1.mp e;obtain⟨k,W,e⟩:=zA1.mp e;obtain⟨n,E,e⟩:=zA9.mp e;cases e;obtain⟨Y,g1,g2⟩:=qL8 P;rw[e2] at g1;cases g1;have o:=qaN2 g2;refine⟨F,J,A,j,R,K,S,T,e2,o,λ u w H1 G Z s=>?_⟩;refine⟨F,J,A,y,S.same s,V,λ v2 H2 B2 r2 L _=>?_⟩;have g:=s.trans L;have l:=Z.same L;obtain⟨B,C0,r,_,_⟩:=(S.same g).place e2 o G l;cases r2.asI W;have M:n < U.length:=(qU9 E).2.1;cases K with
 | l z I =>
   cases D;obtain⟨a,m,A3,rfl,f,t,_⟩:=r.lst_inv;obtain⟨vn,v⟩:∃ x,m[n]? = some x:=⟨_,zAw (by rw[t.len];exact M)⟩
   refine .inl ⟨a,m,k,_,rfl,rfl,.inl (.inl f),?_,q u _ H2 G (l.snoc ⟨a,rfl,.inr (.inl ⟨m,f,v⟩)⟩) g⟩;unfold atI;rw[t.len,E];exact v
 | q I =>
   cases D;obtain⟨a,m,rfl,f,t⟩:=r.tup_inv;obtain⟨vn,v⟩:∃ x,m[n]? = some x:=⟨_,zAw (by rw[t.len];exact M)⟩
   refine .inr (.inl ⟨a,m,k,_,rfl,rfl,.inl (.inl f),?_,q u _ H2 G (l.snoc ⟨a,rfl,.inl ⟨m,f,v⟩⟩) g⟩);unfold atI;rw[t.len,E];exact v
 | _=>cases D
end
inductive Pl where
 | no
 | sl (i:Nat)
 | pl (i:Nat) (p:List Nat) (w:V)
abbrev VTB:=Ds->(Ds->List Pl->Ds->Prop)->XKd->Prop
inductive Fb(a:List (Option V)):List V->List Pl->Prop
 | nil:Fb a [] []
 | no {v:V} {vs:List V} {ps:List Pl} (t:Fb a vs ps):Fb a (v::vs) (.no::ps)
 | sl {v:V} {vs:List V} {ps:List Pl} {i:Nat} (h:a[i]? = some (some v)) (t:Fb a vs ps):Fb a (v::vs) (.sl i::ps)
 | so {v:V} {vs:List V} {ps:List Pl} {i:Nat} {p:List Nat} (t:Fb a vs ps):Fb a (v::vs) (.pl i p v::ps)
inductive LiftA(c:Vc)(t:VTB)(a:St)(H:Hp)(Q:List V->Hp->Prop):Prop
 | mk (F:γ->Prop) (ds:Ds) (A:List γ) (xe:XKd) (S:O1 c F H a ds A) (x:Xc c xe F H A) (q:t ds (λ xs pls ds'=>∀ vs H' F' T A',Os F' H' vs xs T->Fb (a++c.gv) vs pls->O1 c F' H' a ds' A'->Ok F' H' (T++A')->O0 F H A F' H' (T++A')->Q vs H') xe):LiftA c t a H Q
def Ew(c:Vc)(t:VTB):TA:=LiftA c t
structure VAs(c:Vc)(X:Cx)(es:List Kj)(t:VTB):Prop where
 h:PA X es (Ew c t)
 m:∀ ds (Q Q':Ds->List Pl->Ds->Prop) (xe xe':XKd),(∀ d p ds',Q d p ds'->Q' d p ds')->(∀ x ds',xe x ds'->xe' x ds')->t ds Q xe->t ds Q' xe'
section
variable{c:Vc}{X:Cx}{e:Kj}{es:List Kj}{ta:VT}{tr:VTB}{pf:PF}{F F':γ->Prop}{H H':Hp}{σ:St}{ds:Ds}{A:List γ}
def Ax:VTB:=λ ds Q _=>Q [] [] ds
theorem Ad:VAs c X [] Ax:=⟨PA.mono ql9 λ σ H Q ⟨F,a,A,b,S,x,q⟩=>q [] H F [] A .nil .nil S S.ok O0.refl,λ a Q Q' b d e _=>e _ _ _⟩
def tbV(ta:VT)(tr:VTB):VTB:=λ ds Q xe=>ta ds (λ x ds1=>tr ds1 (λ xs ps a=>Q (x::xs) (.no::ps) a) xe) xe
theorem vaV(f:VE c X e ta)(g:VAs c X es tr)(w:Jp (e::es) X.env=(false,eval e X.env)::Jp es X.env:=by rfl):VAs c X (e::es) (tbV ta tr):=by
 refine⟨PA.mono (qc5 f.h g.h w) λ σ H Q i=>?_,λ o Q Q' j y B p=>f.m _ _ _ _ _ (λ d a=>g.m _ _ _ _ _ (λ C D k=>B _ _ _) p) p⟩;obtain⟨F,o,A,j,S,x,q⟩:=i;refine⟨F,o,A,j,S,x,f.m _ _ _ _ _ (λ E a q v H1 F1 T A1 r S1 s t=>?_) (λ _ _ z=>z) q⟩;have l:O0 F H A F1 H1 A1:=t.count λ b=>by rw[zA0];lia
 refine⟨F1,a,A1,j,S1,x.step l,g.m _ _ _ _ _ (λ C D k q G H2 F2 T2 A2 I J S2 K u=>?_) (λ _ _ z=>z) q⟩;have n:Oy F2 H2 v E T:=r.keep (u.kp S1.ok S1.loc.cells) λ b L O=>by
   have:=s.sep b
   rw[zA0] at this
   have:=qa8.mp L
   lia
 obtain⟨M,N⟩:=u.frame s r.cells K;exact q (v::G) H2 F2 (T++T2) A2 (.cons n I) (.no J) S2 (by rw[zAq];exact M) (by rw[zAq];exact t.trans N)
def tbB(pf:PF)(tr:VTB):VTB:=λ ds Q xe=>orF (pf ds) λ q=>orF (A9 ds q.1 q.2) λ d=>d.known=true/\∀ w,tr (Bf ds q.1 q.2 (.hole w)) (λ xs ps a=>Q (d::xs) (.pl q.1 q.2 w::ps) a) xe
theorem vaB(I:VP c X e pf)(a:VAs c X es tr)(J:Jp (e::es) X.env=(false,eval e X.env)::Jp es X.env:=by rfl):VAs c X (e::es) (tbB pf tr):=by
 refine⟨PA.mono (qc5 I.h a.h J) λ σ H Q g=>?_,λ j Q Q' v K L M=>qa5 λ z=>qa5 λ d=>Nl λ h w=>a.m _ _ _ _ _ (λ N O k=>L _ _ _) M (h w)⟩;obtain⟨F,j,A,v,S,x,q⟩:=g;obtain⟨⟨i,p⟩,P,q⟩:=qa7.mp q;obtain⟨d,e2,y,q⟩:=qa7.mp q;refine⟨F,j,A,i,p,d,S,P,e2,qm2 y,λ u w H1 R T s=>?_⟩;obtain⟨B,C,r,D,U⟩:=(S.same s).place e2 (qm2 y) R T;obtain⟨A1,V,q2⟩:=U (.hole w) [] (Kp.same (F:=F) λ _ _ z=>z) (λ _ _ z=>z) (.hole w);have l:Ok F H1 (B++A1):=(S.same s).ok.count λ b=>by rw[zA0,q2,D];simp
 have E:O0 F H A F H1 (B++A1):=⟨λ b o e _=>s b o e,λ b o e z=>by rw[zA0,q2];have:=D b;simp;lia,λ _ f=>f,λ _ _ _ _ f=>f⟩
 have S1:O1 c F H1 σ (Bf j i p (.hole w)) A1:=⟨V,l.right,S.len,S.ag⟩
 have n:O0 F H A F H1 A1:=E.count λ b=>by rw[zA0];lia
 refine⟨F,_,A1,v,S1,x.step n,a.m _ _ _ _ _ (λ N O k q W H2 F2 T2 A2 Y Z S2 o2 G=>?_) (λ _ _ z=>z) (q w)⟩;have t:Oy F2 H2 w d B:=r.keep (G.kp S1.ok S1.loc.cells) λ b hb hc=>by
   have:=l.sep b
   rw[zA0] at this
   have:=qa8.mp hb
   lia
 obtain⟨o3,s3⟩:=G.frame l r.cells o2;exact q (w::W) H2 F2 (B++T2) A2 (.cons t Y) (.so Z) S2 (by rw[zAq];exact o3) (by rw[zAq];exact E.trans s3)
def tbN(i:Nat)(tr:VTB):VTB:=λ ds Q xe=>(rdN i ds).isSome=true/\tr ds (λ xs ps ds1=>orF (rdN i ds1) λ d=>Q (d::xs) (.sl i::ps) (ds1.set i .u)) xe
theorem vaN(i:Nat){x:Str}{p:Pos}(e:VAs c X es tr)(E:Jp (.Name x p::es) X.env=(false,eval (.Name x p) X.env)::Jp es X.env:=by rfl)(t:X.N[i]? = some x:=by rfl)(G:Vis X.env.scope x:=by first | exact Oo rfl | exact On (Oo rfl) | exact On (On rfl))(J:N' x:=by decide)(f:(x == ("__classdict__" : Str))=false:=by decide) :
   VAs c X (.Name x p::es) (tbN i tr):=by
 refine⟨λ pos D6 s σ H Q I g=>?_,λ u Q Q' w K L M=>Nl (e.m _ _ _ _ _ (λ O P j=>qa5 λ d=>L _ _ _) M)⟩;obtain⟨F,u,A,w,S,x,k,q⟩:=g;refine qc5 (qn3 t G J f) e.h E pos D6 s σ H Q I ?_;have y:=qn9 t D6 σ H s I;obtain⟨d0,R⟩:=zB0.mp k;obtain⟨v,B0,a,_,_⟩:=S.name y R;refine⟨v,a,F,u,A,w,S,x,e.m _ _ _ _ _ (λ O P j q T H2 F2 T2 A2 U V S2 D W=>?_) (λ _ _ z=>z) q⟩;obtain⟨d,l,q⟩:=qa7.mp q;obtain⟨l,Y⟩:=ql8.mp l;obtain⟨v',B,C,n,Z,h3,h4⟩:=S2.put1 l (qm2 Y);have o:=n;rw[zAp y,a] at n;cases n;obtain⟨A3,q1,q2⟩:=h4 .u [] (Kp.same (F:=F2) λ _ _ z=>z) (λ _ _ z=>z) (.u v);have r:∀ b,((B++T2)++A3).count b<=(T2++A2).count b:=λ b=>by simp only[zA0,q2,h3];simp;lia
 exact q (v::T) H2 F2 (B++T2) A3 (.cons Z U) (.sl o V) ⟨q1,(D.count r).right,S.len,S.ag⟩ (D.count r) (W.count r)
def Ap:List Pl->Ds->Ds->Option Ds
 | [],_,ds=>some ds
 | .no::ps,_::ys,ds=>Ap ps ys ds
 | .sl i::ps,y::ys,ds=>Ap ps ys (ds.set i y)
 | .pl i p v::ps,y::ys,ds=>match A9 ds i p with
   | some (.hole w)=>if w=v then Ap ps ys (Bf ds i p y) else none
   | _=>none
 | _::_,[],_=>none
theorem qE8{τ:List (Option V)}{ds:Ds}{C B:List γ}{y:D}(L:Locs F H τ ds C)(hi:τ[i]? = some (some v))(r:Oy F H v y B):∃ A':List γ,Locs F H τ (ds.set i y) A'/\∀ b,A'.count b<=B.count b+C.count b:=by
 have s:=L.len;have g:i < τ.length:=(zA4.mp hi).1;obtain⟨d,h⟩:∃ d,ds[i]? = some d:=⟨_,zAw (by lia)⟩
 obtain⟨σ1,o,σ2,a,c,A1,B0,A2,e,e2,j,k,m,n,t,p⟩:=L.split h;have f:τ[i]? = some o:=by rw[e];exact qA0 j
 rw[hi] at f;cases f;have q:ds.set i y=a++y::c:=by
   have:=congrArg (λ l=>l.set i y) e2
   rw[this,qo0 k]
 exact⟨A1++(B++A2),by rw[e,q];exact n.append (.so r p),λ b=>by rw[m];simp only[zA0];lia⟩
theorem qu9{pls:List Pl}{ys ds a:Ds}{σ:List (Option V)}{B C:List γ}{more:List V}(e:Fb σ vs pls)(r:Os F H (vs++more) ys B)(L:Locs F H σ ds C)(h:Ap pls ys ds=some a):∃ A':List γ,Locs F H σ a A'/\∀ b,A'.count b<=B.count b+C.count b:=by
 induction e generalizing ys ds B C with
 | nil =>
   have h:some ds=some a:=by cases ys<;>exact h
   cases h;exact⟨C,L,λ b=>by lia⟩
 | no e c =>
   cases r with
   | @cons _ _ A1 _ _ B1 r1 t =>
     obtain⟨A',d,q2⟩:=c t L h;exact⟨A',d,λ b=>by rw[zA0];have:=q2 b;lia⟩
 | sl k e c =>
   cases r with
   | @cons _ _ A1 _ _ B1 r1 t =>
     obtain⟨A2,d,q2⟩:=qE8 L k r1;obtain⟨A',f,g⟩:=c t d h;exact⟨A',f,λ b=>by rw[zA0];have:=g b;have:=q2 b;lia⟩
 | @so v _ _ i p e c =>
   cases r with
   | @cons _ y A1 _ _ B1 r1 t =>
     unfold Ap at h;split at h
     . rename_i w hg
       by_cases j:w=v
       . rw[if_pos j] at h
         subst j;obtain⟨u,o,B2,C2,q,s,l,m,n⟩:=L.place hg (by intro z;cases z);cases l;obtain⟨A2,d,q2⟩:=n y A1 (Kp.same (F:=F) λ _ _ z=>z) (λ _ _ z=>z) r1;obtain⟨A',f,g⟩:=c t d h;refine⟨A',f,λ b=>?_⟩
         have:=g b
         have:=q2 b
         have:=m b
         simp only[Lf,zA0] at *
         lia
       rw[if_neg j] at h;cases h
     cases h
abbrev VSp:=Ds->DK->XKd->Prop
inductive LiftF(s:VSp)(vs:List V)(H:Hp)(Q:VK)(E:XK):Prop
 | mk (F:γ->Prop) (ds:Ds) (A:List γ) (r:Os F H vs ds A) (o:Ok F H A) (q:s ds (λ d ys=>∀ v H' F' T A',Oy F' H' v d T->Os F' H' vs ys A'->Ok F' H' (T++A')->O0 F H A F' H' (T++A')->Q v H')
   (λ x ys=>∀ e H' F' A',RepX F' H' e x->Os F' H' vs ys A'->Ok F' H' A'->O0 F H A F' H' A'->E (.ref e) none H')):LiftF s vs H Q E
def Fh(s:VSp):Sp:=LiftF s
def Bn(s:VSp):Prop:=∀ ds (Q Q':DK) (xe xe':XKd),(∀ d a,Q d a->Q' d a)->(∀ x a,xe x a->xe' x a)->s ds Q xe->s ds Q' xe'
def qj3(s:VSp)(dv:Ds)(tr:VTB):VT:=λ ds Q xe=>tr ds (λ xs ps ds1=>s (xs++dv) (λ d ys=>orF (Ap ps ys ds1) λ a=>Q d a) (λ x ys=>orF (Ap ps ys ds1) λ a=>xe x a)) xe
theorem qas9{s:VSp}{dv:Ds}(f:Bn s)(g:VAs c X es tr):∀ ds (Q Q':DK) (xe b:XKd),(∀ d a,Q d a->Q' d a)->(∀ x a,xe x a->b x a)->qj3 s dv tr ds Q xe->qj3 s dv tr ds Q' b :=
 λ ds Q Q' xe b h e=>g.m _ _ _ _ _ (λ k l i=>f _ _ _ _ _ (λ d j=>qa5 λ z=>h _ _) (λ x j=>qa5 λ z=>e _ _)) e
def Ge(dvs:List V)(dv:Ds):Prop:=∀ F H,Os F H dvs dv []
theorem qu2:Ge [] []:=λ _ _=>.nil
theorem qas3:Ge [.non] [.non]:=λ _ _=>.cons (A:=[]) (B:=[]) .non .nil
theorem qaQ1{s:VSp}{dvs:List V}{dv:Ds}(G:Ge dvs dv)(I:Bn s)(J:VAs c X es tr):∀ σ H Q,Bh c (qj3 s dv tr) σ H Q->Hx (Fh s) dvs c.E (Ew c tr) σ H Q:=by
 rintro σ H Q ⟨F,K,A,L,S,x,q⟩;refine⟨F,K,A,L,S,x,J.m _ _ _ _ _ (λ B U h q M H1 F1 T A1 N C S1 a D=>?_) (λ _ _ z=>z) q⟩;have rall:Os F1 H1 (M++dvs) (B++dv) (T++[]):=N.append (G F1 H1);rw[zAd] at rall;refine⟨F1,B++dv,T,rall,a.left,I _ _ _ _ _ (λ d O q v H2 F2 T2 A2 P l n i=>?_) (λ y O q e H2 F2 A2 R l n i=>?_) q⟩
 . obtain⟨j,o,q⟩:=qa7.mp q
   have f:Ok F1 H1 (A1++T):=a.count λ b=>by simp only[zA0];lia
   obtain⟨p,r⟩:=i.frame f S1.loc.cells n;have L1:Locs F2 H2 (σ++c.gv) h A1:=S1.loc.keep (i.kp a.left rall.cells) λ b t g=>by
     have:=a.sep b
     rw[zA0] at this
     have:=qa8.mp t
     lia
   obtain⟨A3,u,q2⟩:=qu9 C l L1 o;have g:∀ b,(T2++A3).count b<=(A1++(T2++A2)).count b:=λ b=>by simp only[zA0];have:=q2 b;lia
   have k:Ok F2 H2 (T2++A3):=p.count g;have w:O0 F H A F2 H2 (T2++A3):=(D.trans (r.pre λ b=>by simp only[zA0];lia)).count g;exact q v H2 F2 T2 A3 P ⟨u,k.right,S.len,S.ag⟩ k w
 obtain⟨j,o,q⟩:=qa7.mp q;have f:Ok F1 H1 (A1++T):=a.count λ b=>by simp only[zA0];lia
 obtain⟨p,r⟩:=i.frame f S1.loc.cells n;have L1:Locs F2 H2 (σ++c.gv) h A1:=S1.loc.keep (i.kp a.left rall.cells) λ b t g=>by
   have:=a.sep b
   rw[zA0] at this
   have:=qa8.mp t
   lia
 obtain⟨A3,u,q2⟩:=qu9 C l L1 o;have g:∀ b,A3.count b<=(A1++A2).count b:=λ b=>by simp only[zA0];have:=q2 b;lia
 have k:Ok F2 H2 A3:=p.count g;have w:O0 F H A F2 H2 A3:=(D.trans (r.pre λ b=>by simp only[zA0];lia)).count g;exact x y j σ e H2 F2 A3 q R ⟨u,k,S.len,S.ag⟩ w
end
structure Ex(cm:Bool)(P:Ke)(w:Ki)(K:No)(mg:Str->Option V')(base:Heap)(k:Nat)(f:γ)(fd:ε)(ps:List Str)(s:VSp):Prop where
 ok:Dn cm P w K mg base (CX1 P w) k f fd ps (Fh s)
 m:Bn s
abbrev VFn:=Ex true
section
variable{c:Vc}{X:Cx}{a e o:Kj}{es:List Kj}{tr:VTB}{pf:PF}{F F1:γ->Prop}{H H1:Hp}{σ:St}{ds ds1:Ds}{A A1 T:List γ}{pos p apos:Pos}{x qual m:Str}{st:Kk}{f C:γ}{fd:ε}{ps:List Str}{k:Nat}{s:VSp}{dvs:List V}{dv:Ds}
theorem Ah(D:Df X.K X.mg x qual st f fd ps)(G:Ex cm X.prog X.w X.K X.mg X.base k f fd ps s)(i:Lands X c.E)(j:O2 cm k X.A)(a:VAs c X (e::es) tr)(l:Gl X x:=by rfl)(d:N' x:=by decide)(n:Jp (e::es) X.env=(false,eval e X.env)::Jp es X.env:=by rfl)(g:(backTo pos (Jp es X.env)).any (·.1)=false:=by rfl):VE c X (.Call (.Name x p) (e::es) [] pos) (qj3 s [] tr) :=
 ⟨PE.mono (qav7 G.ok j l D.m D.F.kp D.b .nil i.passes a.h d n g) (qaQ1 qu2 G.m a),qas9 G.m a⟩
theorem qay0{xs:Ds}{pls:List Pl}{xe:XKd}{K:DK}(B:Ge dvs dv)(C:Bn s)(S:O1 c F H σ ds A)(x:Xc c xe F H A)(r1:Os F1 H1 vs xs T)(w:Fb (σ++c.gv) vs pls)(S1:O1 c F1 H1 σ ds1 A1)(f:Ok F1 H1 (T++A1))(z:O0 F H A F1 H1 (T++A1))(D:∀ d i,K d i->∀ v H' F' T A',Oy F' H' v d T->O1 c F' H' σ i A'->Ok F' H' (T++A')->O0 F H A F' H' (T++A')->Q v H')(q:s (xs++dv) (λ d ys=>orF (Ap pls ys ds1) λ a=>K d a) (λ x ys=>orF (Ap pls ys ds1) λ a=>xe x a)):Fh s (vs++dvs) H1 Q (c.E σ):=by
 have rall:Os F1 H1 (vs++dvs) (xs++dv) (T++[]):=r1.append (B F1 H1);rw[zAd] at rall;refine⟨F1,xs++dv,T,rall,f.left,C _ _ _ _ _ (λ d ys q v H2 F2 T2 A2 G l m j=>?_) (λ y ys q e H2 F2 A2 I l m j=>?_) q⟩
 . obtain⟨a,n,q⟩:=qa7.mp q
   have g:Ok F1 H1 (A1++T):=f.count λ b=>by simp only[zA0];lia
   obtain⟨o,p⟩:=j.frame g S1.loc.cells m;have L1:Locs F2 H2 (σ++c.gv) ds1 A1:=S1.loc.keep (j.kp f.left rall.cells) λ b r h=>by
     have:=f.sep b
     rw[zA0] at this
     have:=qa8.mp r
     lia
   obtain⟨A3,t,q2⟩:=qu9 w l L1 n;have h:∀ b,(T2++A3).count b<=(A1++(T2++A2)).count b:=λ b=>by simp only[zA0];have:=q2 b;lia
   have k:Ok F2 H2 (T2++A3):=o.count h;have u:O0 F H A F2 H2 (T2++A3):=(z.trans (p.pre λ b=>by simp only[zA0];lia)).count h;exact D d a q v H2 F2 T2 A3 G ⟨t,k.right,S.len,S.ag⟩ k u
 obtain⟨a,n,q⟩:=qa7.mp q;have g:Ok F1 H1 (A1++T):=f.count λ b=>by simp only[zA0];lia
 obtain⟨o,p⟩:=j.frame g S1.loc.cells m;have L1:Locs F2 H2 (σ++c.gv) ds1 A1:=S1.loc.keep (j.kp f.left rall.cells) λ b r h=>by
   have:=f.sep b
   rw[zA0] at this
   have:=qa8.mp r
   lia
 obtain⟨A3,t,q2⟩:=qu9 w l L1 n;have h:∀ b,A3.count b<=(A1++A2).count b:=λ b=>by simp only[zA0];have:=q2 b;lia
 have k:Ok F2 H2 A3:=o.count h;have u:O0 F H A F2 H2 A3:=(z.trans (p.pre λ b=>by simp only[zA0];lia)).count h;exact x y a σ e H2 F2 A3 q I ⟨t,k,S.len,S.ag⟩ u
def D.isM(C:γ)(m:Str):D->Bool
 | .ins _ C' fs=>decide (C'=C)&&(fs.lookup m).isNone
 | _=>false
theorem qD6{α β:Type}:∀{fs:List (Str×α)}{a:List (Str×β)}{f:Str},fs.map (·.1)=a.map (·.1)->(fs.lookup f).isNone=(a.lookup f).isNone
 | [],[],_,_=>rfl
 | [],_::_,_,h=>by simp at h
 | _::_,[],_,h=>by simp at h
 | (k,_)::r,(k',_)::r',f,h=>by
   have b:k=k':=by simp at h;exact h.1
   have c:r.map (·.1)=r'.map (·.1):=by simp at h;simpa using h.2
   subst b;rw[zAv,zAv];cases f == k with
   | true=>rfl
   | false=>exact qD6 c
theorem Oy.isM{d:D}{B:List γ}(r:Oy F H v d B)(h:d.isM C m=true):∃ a dx fs,v=.ref a/\H a=some (.ins C dx fs)/\fs.lookup m=none:=by
 cases d with
 | ins z C' f =>
   have h:=zAh.mp h;obtain⟨a,dx,b,A,rfl,g,e,i,_⟩:=r.ins_inv
   have:=zAe h.1
   subst this;refine⟨a,dx,b,rfl,g,?_⟩;have c:=h.2;rw[<- qD6 e] at c;exact Option.isNone_iff_eq_none.mp c
 | _=>cases h
def qN9(C:γ)(m:Str)(s:VSp)(dv:Ds)(pf:PF)(tr:VTB):VT:=λ ds Q xe=>orF (pf ds) λ q=>orF (A9 ds q.1 q.2) λ d=>d.isM C m=true/\∀ w,tr (Bf ds q.1 q.2 (.hole w)) (λ xs ps ds1=>s (d::(xs++dv)) (λ r ys=>orF (Ap (Pl.pl q.1 q.2 w::ps) ys ds1) λ a=>Q r a) (λ x ys=>orF (Ap (Pl.pl q.1 q.2 w::ps) ys ds1) λ a=>xe x a)) xe
theorem qap8(f:Bn s)(g:VAs c X es tr):∀ ds (Q Q':DK) (xe b:XKd),(∀ d a,Q d a->Q' d a)->(∀ x a,xe x a->b x a)->qN9 C m s dv pf tr ds Q xe->qN9 C m s dv pf tr ds Q' b :=
 λ ds Q Q' xe b i e=>qa5 λ z=>qa5 λ d=>Nl λ h w=>g.m _ _ _ _ _ (λ l n j=>f _ _ _ _ _ (λ d k=>qa5 λ z=>i _ _) (λ x k=>qa5 λ z=>e _ _)) e (h w)
theorem qaM3(M:Ge dvs dv)(N:Bn s)(O:VAs c X es tr):∀ σ H Q,Bh c (qN9 C m s dv pf tr) σ H Q->Gu C m (Fh s) dvs c.E (F8 c pf) (Ew c tr) σ H Q:=by
 rintro σ H Q ⟨F,y,A,P,S,x,q⟩;obtain⟨⟨i,p⟩,R,q⟩:=qa7.mp q;obtain⟨d,e2,D,q⟩:=qa7.mp q;have g:d≠.u:=λ z=>by subst z;cases D
 refine⟨F,y,A,i,p,d,S,R,e2,g,λ u w H1 T U j=>?_⟩;obtain⟨B,C0,r,G,V⟩:=(S.same j).place e2 g T U;obtain⟨a,W,Y,rfl,k,l⟩:=r.isM D;refine⟨a,W,Y,rfl,k,l,?_⟩;obtain⟨A1,Z,q2⟩:=V (.hole (.ref a)) [] (Kp.same (F:=F) λ _ _ z=>z) (λ _ _ z=>z) (.hole _);have n:Ok F H1 (B++A1):=(S.same j).ok.count λ b=>by rw[zA0,q2,G];simp
 have I:O0 F H A F H1 (B++A1):=⟨λ b o e _=>j b o e,λ b o e z=>by rw[zA0,q2];have:=G b;simp;lia,λ _ f=>f,λ _ _ _ _ f=>f⟩
 have S1:O1 c F H1 σ (Bf y i p (.hole (.ref a))) A1:=⟨Z,n.right,S.len,S.ag⟩
 have t:O0 F H A F H1 A1:=I.count λ b=>by rw[zA0];lia
 refine⟨F,_,A1,P,S1,x.step t,O.m _ _ _ _ _ (λ J ps a0 q K H2 F2 T2 A2 r2 pk S2 o2 L=>?_) (λ _ _ z=>z) (q (.ref a))⟩;have v:Oy F2 H2 (.ref a) d B:=r.keep (L.kp S1.ok S1.loc.cells) λ b hb hc=>by
   have:=n.sep b
   rw[zA0] at this
   have:=qa8.mp hb
   lia
 obtain⟨o3,s3⟩:=L.frame n r.cells o2;exact qay0 (vs:=.ref a::K) (xs:=d::J) M N S x (.cons v r2) (.so pk) S2 (by rw[zAq];exact o3) (by rw[zAq];exact I.trans s3) (λ d a1 h=>h) q
def qw8(C:γ)(m:Str)(s:VSp)(dv:Ds)(i:Nat)(tr:VTB):VT:=λ ds Q xe=>(orF (rdN i ds) λ d=>d.isM C m=true)/\tr ds (λ xs ps ds1=>orF (rdN i ds1) λ d=>s (d::(xs++dv)) (λ r ys=>orF (Ap (.sl i::ps) ys (ds1.set i .u)) λ a=>Q r a) (λ x ys=>orF (Ap (.sl i::ps) ys (ds1.set i .u)) λ a=>xe x a)) xe
theorem qK6(f:Bn s)(g:VAs c X es tr):∀ ds (Q Q':DK) (xe b:XKd),(∀ d a,Q d a->Q' d a)->(∀ x a,xe x a->b x a)->qw8 C m s dv i tr ds Q xe->qw8 C m s dv i tr ds Q' b :=
 λ ds Q Q' xe b h e=>Nl (g.m _ _ _ _ _ (λ l n j=>qa5 λ d=>f _ _ _ _ _ (λ d k=>qa5 λ z=>h _ _) (λ x k=>qa5 λ z=>e _ _)) e)
theorem qag8{σ:St}{H:Hp}(w:Ge dvs dv)(y:Bn s)(D:VAs c X es tr)(hi:i < σ.length)(q:Bh c (qw8 C m s dv i tr) σ H Q):Gu C m (Fh s) dvs c.E (E5 i) (Ew c tr) σ H Q:=by
 obtain⟨F,G,A,I,S,x,f,q⟩:=q;obtain⟨Z,J,f⟩:=qa7.mp f;obtain⟨v,B0,e,K,_⟩:=S.name hi J;obtain⟨a,L,M,rfl,g,j⟩:=K.isM f;refine⟨.ref a,e,a,L,M,rfl,g,j,F,G,A,I,S,x,D.m _ _ _ _ _ (λ r ps N q t H2 F2 T2 A2 O P S2 u R=>?_) (λ _ _ z=>z) q⟩;obtain⟨d,k,q⟩:=qa7.mp q;obtain⟨k,l⟩:=ql8.mp k;obtain⟨v',B,C0,n,T,U,V⟩:=S2.put1 k (qm2 l);have o:=n;rw[zAp hi,e] at n;cases n;obtain⟨A3,W,q2⟩:=V .u [] (Kp.same (F:=F2) λ _ _ z=>z) (λ _ _ z=>z) (.u _);have p:∀ b,((B++T2)++A3).count b<=(T2++A2).count b:=λ b=>by simp only[zA0,q2,U];simp;lia
 exact qay0 (vs:=.ref a::t) (xs:=d::r) w y S x (.cons T O) (.sl o P) ⟨W,(u.count p).right,S.len,S.ag⟩ (u.count p) (R.count p) (λ d Y h=>h) q
theorem qm5(i:Nat){xn:Str}{p0:Pos}(D:Md X.K C m qual st f fd ps)(n:Cls X.K C)(G:Ex cm X.prog X.w X.K X.mg X.base k f fd ps s)(o:Lands X c.E)(p:O2 cm k X.A)(a:VAs c X (e::es) tr)(l:X.N[i]? = some xn:=by rfl)(r:Vis X.env.scope xn:=by first | exact Oo rfl | exact On (Oo rfl) | exact On (On rfl))(t:N' xn:=by decide)(d:(xn == ("__classdict__" : Str))=false:=by decide)(g:Jp (e::es) X.env=(false,eval e X.env)::Jp es X.env:=by rfl)(j:(backTo pos (Jp es X.env)).any (·.1)=false:=by rfl)(u:eval (.Call (.Attribute (.Name xn p0) m apos) (e::es) [] pos) X.env=(do
     let ov <- eval (.Name xn p0) X.env
     standAt apos.atName
     let (f,first) <- holding [ov] (getMethod ov m pl)
     callWith pos f first (backTo pos (Jp (e::es) X.env)) (backToKw pos (J0 [] X.env))):=by rfl):VE c X (.Call (.Attribute (.Name xn p0) m apos) (e::es) [] pos) (qw8 C m s [] i tr) :=
 ⟨λ D6 s σ H Q I q=>qav4 (qn3 l r t d) n D.me G.ok p D.b .nil o.passes a.h g j u D6 s σ H Q I (qag8 qu2 G.m a (qn9 l D6 σ H s I) q),qK6 G.m a⟩
theorem qk9(i:Nat){xn:Str}{p0:Pos}(D:Md X.K C m qual st f fd ps)(j:Cls X.K C)(G:Ex cm X.prog X.w X.K X.mg X.base k f fd ps s)(l:Lands X c.E)(n:O2 cm k X.A)(g:X.N[i]? = some xn:=by rfl)(d:Vis X.env.scope xn:=by first | exact Oo rfl | exact On (Oo rfl) | exact On (On rfl))(o:N' xn:=by decide)(e:(xn == ("__classdict__" : Str))=false:=by decide)(p:eval (.Call (.Attribute (.Name xn p0) m apos) [] [] pos) X.env=(do
     let ov <- eval (.Name xn p0) X.env
     standAt apos.atName
     let (f,first) <- holding [ov] (getMethod ov m pl)
     callWith pos f first (backTo pos (Jp [] X.env)) (backToKw pos (J0 [] X.env))):=by rfl):VE c X (.Call (.Attribute (.Name xn p0) m apos) [] [] pos) (qw8 C m s [] i Ax) :=
 ⟨λ D6 h σ H Q I q=>qae7 (qn3 g d o e) j D.me G.ok n D.b .nil l.passes p D6 h σ H Q I (by
   obtain⟨v,d,a,r,t,u,x,y,F2,z,A2,B,S2,F,q2⟩:=qag8 (c:=c) (X:=X) qu2 G.m Ad (qn9 g D6 σ H h I) q;exact⟨v,d,a,r,t,u,x,y,q2 [] H F2 [] A2 .nil .nil S2 S2.ok O0.refl⟩),qK6 (c:=c) G.m (X:=X) Ad⟩
theorem qaP6(D:Md X.K C m qual st f fd ps)(g:Cls X.K C)(G:Ex cm X.prog X.w X.K X.mg X.base k f fd ps s)(j:Lands X c.E)(l:O2 cm k X.A)(n:VP c X o pf)(r:eval (.Call (.Attribute o m apos) [] [] pos) X.env=(do
     let ov <- eval o X.env
     standAt apos.atName
     let (f,first) <- holding [ov] (getMethod ov m pl)
     callWith pos f first (backTo pos (Jp [] X.env)) (backToKw pos (J0 [] X.env))):=by rfl):VE c X (.Call (.Attribute o m apos) [] [] pos) (qN9 C m s [] pf Ax) :=
 ⟨PE.mono (qae7 n.h g D.me G.ok l D.b .nil j.passes r) λ σ H Q q=>by
   obtain⟨F,t,A,i,p,d,S,v,e2,e,q⟩:=qaM3 (c:=c) (X:=X) qu2 G.m Ad σ H Q q;refine⟨F,t,A,i,p,d,S,v,e2,e,λ u w H1 x y z=>?_⟩;obtain⟨a,B,I,J,L,M,F2,N,A2,O,S2,P,q2⟩:=q u w H1 x y z;exact⟨a,B,I,J,L,M,q2 [] H1 F2 [] A2 .nil .nil S2 S2.ok O0.refl⟩,qap8 (c:=c) G.m (X:=X) Ad⟩
def qO0(C:γ)(s:VSp)(dv:Ds)(tr:VTB):VT:=λ ds Q xe=>tr ds (λ xs ps ds1=>s (.ins false C []::(xs++dv)) (λ d ys=>d.isN=some true/\orF ys.head? λ self=>orF (Ap ps ys.tail ds1) λ a=>Q self a) (λ x ys=>orF (Ap ps ys.tail ds1) λ a=>xe x a)) xe
theorem qG4(f:Bn s)(g:VAs c X es tr):∀ ds (Q Q':DK) (xe b:XKd),(∀ d a,Q d a->Q' d a)->(∀ x a,xe x a->b x a)->qO0 C s dv tr ds Q xe->qO0 C s dv tr ds Q' b :=
 λ ds Q Q' xe b h e=>g.m _ _ _ _ _ (λ k l i=>f _ _ _ _ _ (λ d j=>Nl (qa5 λ z=>qa5 λ w=>h _ _)) (λ x j=>qa5 λ z=>e _ _)) e
theorem qah2(N:Ge dvs dv)(O:Bn s)(P:VAs c X es tr):∀ σ H Q,Bh c (qO0 C s dv tr) σ H Q->tMake C (Fh s) dvs c.E (Ew c tr) σ H Q:=by
 rintro σ H Q ⟨F,R,A,U,S,x,q⟩;refine⟨F,R,A,U,S,x,P.m _ _ _ _ _ (λ V ps h q W H1 F1 T A1 K L S1 Y Z=>?_) (λ _ _ z=>z) q⟩;intro y dy n o p;have same:Same H1 (upd (upd H1 dy (.own y)) y (.ins C dy [])):=(Same.new o).trans (Same.new (by rw[qd1 (Ne.symm p)];exact n));have rall:Os F1 (upd (upd H1 dy (.own y)) y (.ins C dy [])) (.ref y::(W++dvs)) (.ins false C []::(V++dv)) ([y]++(T++[])) :=
   .cons (.ins qc1 rfl .nil) ((K.append (N F1 H1)).same same)
 rw[zAd] at rall;have i:Ok F1 (upd (upd H1 dy (.own y)) y (.ins C dy [])) ([y]++(T++A1)):=(qh1 n).ok Y (λ b a=>by
   rcases zA8.mp a with a | a
   . exact K.cells b a
   exact S1.loc.cells b a) same
 have r:Ok F1 (upd (upd H1 dy (.own y)) y (.ins C dy [])) ([y]++T):=i.count λ b=>by simp only[zA0];lia
 have M:O0 F H A F1 (upd (upd H1 dy (.own y)) y (.ins C dy [])) ([y]++(T++A1)):=Z.trans ((qh1 n).stp same);have S1':=S1.same same;refine⟨F1,_,[y]++T,rall,r,O _ _ _ _ _ (λ d ys q v H2 F2 T2 A2 r2 t u j=>?_) (λ ex ys q e H2 F2 A2 rx t u j=>?_) q⟩
 . obtain⟨hn,q⟩:=q
   have hv:v=.non:=by
     cases d with
     | non=>cases r2;rfl
     | _=>cases hn
   refine⟨hv,?_⟩;obtain⟨self,eh,q⟩:=qa7.mp q;obtain⟨k,w,B⟩:=qa7.mp q;have g:Ok F1 _ (A1++([y]++T)):=i.count λ b=>by simp only[zA0];lia
   obtain⟨D,G⟩:=j.frame g S1'.loc.cells u;have L1:Locs F2 H2 (σ++c.gv) h A1:=S1'.loc.keep (j.kp r rall.cells) λ b a f=>by
     have:=i.sep b
     simp only[zA0] at this f
     have:=qa8.mp a
     lia
   cases t with
   | @cons _ d0 Aself _ ys' B' rself rrest =>
     cases eh;obtain⟨A3,I,q2⟩:=qu9 L rrest L1 w;have f:∀ b,(Aself++A3).count b<=(A1++(T2++(Aself++B'))).count b:=λ b=>by simp only[zA0];have:=q2 b;lia
     have l:=D.count f;have J:O0 F H A F2 H2 (Aself++A3):=(M.trans (G.pre λ b=>by simp only[zA0];lia)).count f;exact B (.ref y) H2 F2 Aself A3 rself ⟨I,l.right,S.len,S.ag⟩ l J
 obtain⟨k,w,B⟩:=qa7.mp q;have g:Ok F1 _ (A1++([y]++T)):=i.count λ b=>by simp only[zA0];lia
 obtain⟨D,G⟩:=j.frame g S1'.loc.cells u;have L1:Locs F2 H2 (σ++c.gv) h A1:=S1'.loc.keep (j.kp r rall.cells) λ b a f=>by
   have:=i.sep b
   simp only[zA0] at this f
   have:=qa8.mp a
   lia
 cases t with
 | @cons _ d0 Aself _ ys' B' rself rrest =>
   obtain⟨A3,I,q2⟩:=qu9 L rrest L1 w;have f:∀ b,A3.count b<=(A1++(Aself++B')).count b:=λ b=>by simp only[zA0];have:=q2 b;lia
   have l:=D.count f;have J:O0 F H A F2 H2 A3:=(M.trans (G.pre λ b=>by simp only[zA0];lia)).count f;exact x ex k σ e H2 F2 A3 B rx ⟨I,l,S.len,S.ag⟩ J
theorem emake(i:Cl X.K X.mg x C)(M:Mk X.K C f)(D:Md X.K C m qual st f fd ps)(G:Ex cm X.prog X.w X.K X.mg X.base k f fd ps s)(j:Lands X c.E)(l:O2 cm (k+1) X.A)(a:VAs c X (e::es) tr)(n:Gl X x:=by rfl)(d:N' x:=by decide)(o:Jp (e::es) X.env=(false,eval e X.env)::Jp es X.env:=by rfl)(g:(backTo pos (Jp es X.env)).any (·.1)=false:=by rfl):VE c X (.Call (.Name x p) (e::es) [] pos) (qO0 C s [] tr) :=
 ⟨PE.mono (qae8 M G.ok l n i.m D.b .nil j.passes a.h d o g) (qah2 qu2 G.m a),qG4 G.m a⟩
theorem qaP7{ndv:List V'}(i:Cl X.K X.mg x C)(M:Mk X.K C f)(b:Binds X.K fd ps [.none])(G:Ex cm X.prog X.w X.K X.mg X.base k f fd ps s)(j:Lands X c.E)(l:O2 cm (k+1) X.A)(a:VAs c X (e::es) tr)(n:Gl X x:=by rfl)(d:N' x:=by decide)(o:Jp (e::es) X.env=(false,eval e X.env)::Jp es X.env:=by rfl)(g:(backTo pos (Jp es X.env)).any (·.1)=false:=by rfl):VE c X (.Call (.Name x p) (e::es) [] pos) (qO0 C s [.non] tr) :=
 ⟨PE.mono (qae8 M G.ok l n i.m b (dvs:=[.non]) (.cons rfl .nil) j.passes a.h d o g) (qah2 qas3 G.m a),qG4 G.m a⟩
def tLstV(tr:VTB):VT:=λ ds Q xe=>tr ds (λ xs ps ds1=>xs.length<=big/\Q (.l false xs) ds1) xe
def Ix(tr:VTB):VT:=λ ds Q xe=>tr ds (λ xs ps ds1=>xs.length<=big/\Q (.q xs) ds1) xe
theorem Hk(d:VAs c X es tr):VE c X (.List es pos) (tLstV tr):=by
 refine⟨PE.mono (qaB2 d.h) λ σ H Q e=>?_,λ j Q Q' k l n o=>d.m _ _ _ _ _ (λ p r f=>Nl (n _ _)) o⟩;obtain⟨F,j,A,k,S,x,q⟩:=e;refine⟨F,j,A,k,S,x,d.m _ _ _ _ _ (λ p r f q s H1 F1 T A1 g B S1 t v=>⟨by rw[g.len];exact zAj q.1 qi4,λ y i=>?_⟩) (λ _ _ z=>z) q⟩;have same:=Same.new (u:=.l s) i;have w:=(qh1 i).ok t (λ b a=>by
   rcases zA8.mp a with a | a
   . exact g.cells b a
   exact S1.loc.cells b a) same
 exact q.2 (.ref y) _ F1 (y::T) A1 (.l qc1 (g.same same)) (S1.same same) w (v.trans ((qh1 i).stp same))
theorem Iy(a:VAs c X es tr):VE c X (.Tuple es n pos) (Ix tr):=by
 refine⟨PE.mono (qaK0 a.h) λ σ H Q b=>?_,λ e Q Q' f j k l=>a.m _ _ _ _ _ (λ o p d=>Nl (k _ _)) l⟩;obtain⟨F,e,A,f,S,x,q⟩:=b;refine⟨F,e,A,f,S,x,a.m _ _ _ _ _ (λ o p d q r H1 F1 T A1 g v S1 s t=>⟨by rw[g.len];exact zAj q.1 qi4,λ y i=>?_⟩) (λ _ _ z=>z) q⟩;have same:=Same.new (u:=.q r) i;exact q.2 (.ref y) _ F1 T A1 (qag0 i g) (S1.same same) (s.same same) (t.trans (.same same))
end
structure VEnds where
 nx:Ds->Prop
 rt:DK
 bk:Ds->Prop
 ct:Ds->Prop
 xe:XKd
abbrev VTS:=VEnds->Ds->Prop
structure VEnds.Le(e e':VEnds):Prop where
 nx:∀ ds,e.nx ds->e'.nx ds
 rt:∀ d ds,e.rt d ds->e'.rt d ds
 bk:∀ ds,e.bk ds->e'.bk ds
 ct:∀ ds,e.ct ds->e'.ct ds
 xe:∀ x ds,e.xe x ds->e'.xe x ds
structure Lk(c:Vc)(E:Dv)(F:γ->Prop)(H:Hp)(A:List γ)(e:VEnds):Prop where
 nx:∀ ds' a' H' F' A',e.nx ds'->O1 c F' H' a' ds' A'->O0 F H A F' H' A'->E.nx a' H'
 rt:∀ d ds' v a' H' F' T A',e.rt d ds'->Oy F' H' v d T->O1 c F' H' a' ds' A'->Ok F' H' (T++A')->O0 F H A F' H' (T++A')->E.rt v H'
 bk:∀ ds' a' H' F' A',e.bk ds'->O1 c F' H' a' ds' A'->O0 F H A F' H' A'->E.bk a' H'
 ct:∀ ds' a' H' F' A',e.ct ds'->O1 c F' H' a' ds' A'->O0 F H A F' H' A'->E.ct a' H'
 xe:Xc c e.xe F H A
theorem Lk.step{c:Vc}{E:Dv}{F F1:γ->Prop}{H H1:Hp}{A A1:List γ}{e:VEnds}(l:Lk c E F H A e)(s:O0 F H A F1 H1 A1):Lk c E F1 H1 A1 e :=
 ⟨λ a b' H' F' A' h S t=>l.nx a b' H' F' A' h S (s.trans t),λ d a v b' H' F' T A' h r S o t=>l.rt d a v b' H' F' T A' h r S o (s.trans t),λ a b' H' F' A' h S t=>l.bk a b' H' F' A' h S (s.trans t),λ a b' H' F' A' h S t=>l.ct a b' H' F' A' h S (s.trans t),l.xe.step s⟩
inductive LiftS(c:Vc)(t:VTS)(E:Dv)(a:St)(H:Hp):Prop
 | mk (F:γ->Prop) (ds:Ds) (A:List γ) (e:VEnds) (S:O1 c F H a ds A) (l:Lk c E F H A e) (q:t e ds):LiftS c t E a H
def Ey(c:Vc)(t:VTS):TS:=LiftS c t
structure VS(c:Vc)(X:Cx)(st:Kk)(t:VTS):Prop where
 h:PS X st (Ey c t)
 m:∀(e e':VEnds) ds,e.Le e'->t e ds->t e' ds
structure VSs(c:Vc)(X:Cx)(st:List Kk)(t:VTS):Prop where
 h:PSs X st (Ey c t)
 m:∀(e e':VEnds) ds,e.Le e'->t e ds->t e' ds
section
variable{c:Vc}{X:Cx}{a b e:Kj}{J:Kk}{rest:List Kk}{t u:VTS}{te:VT}{pos:Pos}
def Gf:VTS:=λ e ds=>e.nx ds
def Gg(t u:VTS):VTS:=λ e ds=>t { e with nx:=u e } ds
theorem Av:VSs c X [] Gf:=⟨PSs.mono qav0 λ E G H ⟨F,a,A,e,S,l,q⟩=>l.nx a G H F A q S O0.refl,λ e b a h=>h.nx a⟩
theorem Ac(h1:VS c X J t)(h2:VSs c X rest u):VSs c X (J::rest) (Gg t u):=by
 refine⟨PSs.mono (qQ1 h1.h h2.h) λ E G H a=>?_,λ e f b h=>h1.m _ _ _ ⟨λ b=>h2.m _ _ _ h,h.rt,h.bk,h.ct,h.xe⟩⟩;obtain⟨F,b,A,e,S,l,q⟩:=a;exact⟨F,b,A,{ e with nx:=u e },S,⟨λ d G' H' F' A' q S' s=>⟨F',d,A',e,S',l.step s,q⟩,l.rt,l.bk,l.ct,l.xe⟩,q⟩
theorem Ag(h1:VS c X J t):VSs c X [J] t:=⟨qy9 h1.h,h1.m⟩
def sRet(te:VT):VTS:=λ e ds=>te ds e.rt e.xe
theorem Aq(h:VE c X e te):VS c X (.Return (some e) pos) (sRet te):=by
 refine⟨PS.mono (qZ6 h.h) λ E G H ⟨F,b,A,e,S,l,q⟩=>⟨F,b,A,e.xe,S,l.xe,h.m _ _ _ _ _ (λ d a q v H' F' T A' r S' o s=>l.rt d a v G H' F' T A' q r S' o s) (λ _ _ z=>z) q⟩,λ e g b f=>h.m _ _ _ _ _ f.rt f.xe⟩
def sExpr(te:VT):VTS:=λ e ds=>te ds (λ _ a=>e.nx a) e.xe
theorem Bc(h:VE c X e te)(i:swapsWith e none pos.line X.env=pure false:=by rfl):VS c X (.Expr e pos) (sExpr te):=by
 refine⟨PS.mono (qaJ2 h.h i) λ E G H ⟨F,f,A,e,S,l,q⟩=>⟨F,f,A,e.xe,S,l.xe,h.m _ _ _ _ _ (λ d a q v H' F' T A' r S' o s=>l.nx a G H' F' A' q S' (s.count λ b=>by rw[zA0];lia)) (λ _ _ z=>z) q⟩,λ e j f g=>h.m _ _ _ _ _ (λ _=>g.nx) g.xe⟩
def sIf(qc:VTT)(t u:VTS):VTS:=λ e ds=>qc ds (λ k a=>if k=true then t e a else u e a) e.xe
theorem sif{x y:List Kk}{qc:VTT}(b:VTe c X cd qc)(g:VSs c X x t)(i:VSs c X y u):VS c X (.If cd x y pos) (sIf qc t u):=by
 refine⟨PS.mono (ps_if b.h g.h i.h) λ E G H d=>?_,λ e n j f=>b.m _ _ _ _ _ (λ k a=>qE0 (g.m _ _ _ f) (i.m _ _ _ f)) f.xe⟩;obtain⟨F,j,A,e,S,l,q⟩:=d;refine⟨F,j,A,e.xe,S,l.xe,b.m _ _ _ _ _ (λ k a q H' F' A' S' s=>?_) (λ _ _ z=>z) q⟩;cases k with
 | true=>rw[if_pos rfl] at q ⊢;exact⟨F',a,A',e,S',l.step s,q⟩
 | false=>rw[if_neg (by decide)] at q ⊢;exact⟨F',a,A',e,S',l.step s,q⟩
def qaS1:VTS:=λ _ _=>False
theorem qn2:VS c X J qaS1:=⟨λ _ _ _ _ _ _ ⟨_,_,_,_,_,_,q⟩=>q.elim,λ _ _ _ _ q=>q.elim⟩
abbrev VTG:=D->Ds->(Ds->Prop)->Prop
inductive LiftG(c:Vc)(g:VTG)(v:V)(G:St)(H:Hp)(Q:St->Hp->Prop):Prop
 | mk (F:γ->Prop) (ds:Ds) (A T:List γ) (d:D) (r:Oy F H v d T) (S:O1 c F H G ds A) (o:Ok F H (T++A)) (q:g d ds (λ ds'=>∀ G' H' F' A',O1 c F' H' G' ds' A'->O0 F H (T++A) F' H' A'->Q G' H')):LiftG c g v G H Q
def Fi(c:Vc)(g:VTG):TG:=LiftG c g
structure VG(c:Vc)(X:Cx)(e:Kj)(g:VTG):Prop where
 h:PG X e (Fi c g)
 m:∀ d ds (Q Q':Ds->Prop),(∀ ds',Q ds'->Q' ds')->g d ds Q->g d ds Q'
theorem PG.mono{g g':TG}(h:PG X e g)(i:∀ v G H Q,g' v G H Q->g v G H Q):PG X e g':=λ D6 s G H v u Q I r q=>h D6 s G H v u Q I r (i v G H Q q)
theorem O1.store{F:γ->Prop}{H:Hp}{G:St}{ds:Ds}{A T:List γ}{d:D}(S:O1 c F H G ds A)(m:c.W i=false)(hi:i < G.length)(r:Oy F H v d T)(o:Ok F H (T++A)) :
   ∃ A',O1 c F H (G.set i (some v)) (ds.set i d) A'/\O0 F H (T++A) F H A':=by
 have n:=S.loc.len;rw[zA6] at n;obtain⟨σ1,x,σ2,e,f,A1,B,A2,p,e2,q,s,t,u,y,w⟩:=S.loc.split (i:=i) (d:=ds[i]'(by lia)) (by simp);have hσ:G.set i (some v)++c.gv=σ1++some v::σ2:=by
   rw[<- Mh _ _ hi,p,qo0 q]
 have g:ds.set i d=e++d::f:=by
   have:=congrArg (λ l=>l.set i d) e2
   rw[this,qo0 s]
 have a:∀ b,(A1++(T++A2)).count b<=(T++A).count b:=λ b=>by rw[t];simp only[zA0];lia
 refine⟨A1++(T++A2),⟨by rw[hσ,g];exact u.append (.so r w),o.count a,?_,λ j h=>?_⟩,O0.refl.count a⟩
 . rw[S.len,zA6,zA6,L9]
 have k:i≠j:=λ z=>by subst z;rw[m] at h;cases h
 rw[<- S.ag j h,<- Mh _ _ hi,zBm k]
def gNm(i:Nat):VTG:=λ d ds Q=>Q (ds.set i d)
theorem Be(i:Nat){x:Str}(b:X.N.Nodup)(e:c.W i=false:=by rfl)(hi:X.N[i]? = some x:=by rfl)(f:Loc X.env.scope x:=by first | exact Oo rfl | exact On rfl)(g:X.fn x=true∨X.env.scope.names.lookup x=some .local:=by first | exact .inl rfl | exact .inr rfl | assumption):VG c X (.Name x pos) (gNm i):=by
 refine⟨λ D6 s G H v h Q I j a=>?_,λ d k Q Q' l=>l _⟩;obtain⟨F,k,A,T,d,r,S,o,q⟩:=a;refine qav3 b hi f g D6 s G H v h Q I j ?_;obtain⟨A',S',m⟩:=S.store e (qn9 hi D6 G H s I) r o;exact q _ H F A' S' m
def Ea(te:VT)(g:VTG):VTS:=λ e ds=>te ds (λ d a=>g d a e.nx) e.xe
theorem qaZ6{tg:Kj}{g:VTG}(h:VE c X e te)(f:VG c X tg g):∀ E G H,Ey c (Ea te g) E G H->Ha (Bh c te) (Fi c g) E G H:=by
 rintro E G H ⟨F,i,A,j,S,l,q⟩;refine⟨F,i,A,j.xe,S,l.xe,h.m _ _ _ _ _ (λ d a q v H' F' T A' r S' o s=>?_) (λ _ _ z=>z) q⟩;exact⟨F',a,A',T,d,r,S',o,f.m _ _ _ _ (λ b q σ2 H2 F2 A2 S2 k=>l.nx b σ2 H2 F2 A2 q S2 (s.trans k)) q⟩
theorem qal6{tg:Kj}{g:VTG}(h:VE c X e te)(f:VG c X tg g):∀(en a:VEnds) ds,en.Le a->Ea te g en ds->Ea te g a ds:=λ en a ds b=>h.m _ _ _ _ _ (λ d i=>f.m _ _ _ _ b.nx) b.xe
theorem Fc{tg:Kj}{g:VTG}(h:VE c X e te)(a:VG c X tg g)(b:swapsWithSole [tg] e pos.line X.env=pure false:=by rfl)(d:swappedStores [tg] e X.env=pure none:=by rfl)(h1:(Ka [tg] X.env).map (·.2)=[assign tg X.env]:=by rfl):VS c X (.Assign [tg] e pos) (Ea te g) :=
 ⟨PS.mono (qaS5 h.h a.h b d h1) (qaZ6 h a),qal6 h a⟩
theorem Al(i:Nat){x:Str}{pos':Pos}(a:X.N.Nodup)(h:VE c X e te)(b:c.W i=false:=by rfl)(hi:X.N[i]? = some x:=by rfl)(f:Loc X.env.scope x:=by first | exact Oo rfl | exact On rfl)(j:swapsWith e (some (.Name x pos')) pos.line X.env=pure false:=by rfl)(g:X.fn x=true∨X.env.scope.names.lookup x=some .local:=by first | exact .inl rfl | exact .inr rfl | assumption) :
   VS c X (.Assign [.Name x pos'] e pos) (Ea te (gNm i)):=by
 have k:VG c X (.Name x pos') (gNm i):=Be i a b hi f g;refine⟨λ D6 s G H E I q=>qaJ1 a hi f h.h j g D6 s G H E I ?_,qal6 h k⟩;obtain⟨F,n,A,p,S,l,q⟩:=q;refine⟨F,n,A,p.xe,S,l.xe,h.m _ _ _ _ _ (λ d t q v H' F' T A' r S' o u=>?_) (λ _ _ z=>z) q⟩;obtain⟨A2,S2,w⟩:=S'.store b (qn9 hi D6 G H s I) r o;exact l.nx _ _ H' F' A2 q S2 (u.trans w)
abbrev Fw:=Ds->Ds->(Ds->Prop)->Prop
inductive qaR2(c:Vc)(g:Fw)(vs:List V)(G:St)(H:Hp)(Q:St->Hp->Prop):Prop
 | mk (F:γ->Prop) (ds:Ds) (A T:List γ) (xs:Ds) (r:Os F H vs xs T) (S:O1 c F H G ds A) (o:Ok F H (T++A)) (q:g xs ds (λ ds'=>∀ G' H' F' A',O1 c F' H' G' ds' A'->O0 F H (T++A) F' H' A'->Q G' H')):qaR2 c g vs G H Q
def qaV5(c:Vc)(g:Fw):TGs:=qaR2 c g
structure VGs(c:Vc)(X:Cx)(es:List Kj)(g:Fw):Prop where
 h:PGs X es (qaV5 c g)
 m:∀ xs ds (Q Q':Ds->Prop),(∀ ds',Q ds'->Q' ds')->g xs ds Q->g xs ds Q'
theorem PGs.mono{es:List Kj}{g g':TGs}(h:PGs X es g)(i:∀ v G H Q,g' v G H Q->g v G H Q):PGs X es g':=λ D6 s G H v u Q I r q=>h D6 s G H v u Q I r (i v G H Q q)
def gNilV:Fw:=λ xs ds Q=>match xs with | []=>Q ds | _=>False
def qaE4(g:VTG)(b:Fw):Fw:=λ xs ds Q=>match xs with | x::r=>g x ds λ a=>b r a Q | []=>False
theorem G2:VGs c X [] gNilV:=by
 refine⟨PGs.mono qaJ8 λ f G H Q a=>?_,λ b d Q Q' e q=>by cases b with | nil=>exact e _ q | cons _ _=>exact q.elim⟩;obtain⟨F,d,A,T,b,r,S,o,q⟩:=a;cases b with
 | nil=>cases r;exact⟨rfl,q G H F A S O0.refl⟩
 | cons _ _=>exact q.elim
theorem qL9{tg:Kj}{es:List Kj}{g:VTG}{l:Fw}(h1:VG c X tg g)(h2:VGs c X es l)(s:(Ka (tg::es) X.env).map (·.2)=assign tg X.env::(Ka es X.env).map (·.2):=by rfl):VGs c X (tg::es) (qaE4 g l):=by
 refine⟨PGs.mono (qaB1 h1.h h2.h s) λ e G H Q ⟨F,n,A,T,d,r,S,o,q⟩=>?_,λ d n Q Q' t q=>by
   cases d with
   | nil=>exact q.elim
   | cons x r=>exact h1.m _ _ _ _ (λ u=>h2.m _ _ _ _ t) q⟩
 cases d with
 | nil=>exact q.elim
 | cons x d =>
   cases r with
   | @cons v _ T1 e _ T2 r1 rt =>
     refine⟨v,e,rfl,F,n,A,T1,x,r1,S,o.count λ b=>by simp only[zA0];lia,h1.m _ _ _ _ (λ f q σ1 H1 F1 A1 S1 p=>?_) q⟩;have i:Ok F H (T2++(T1++A)):=o.count λ b=>by simp only[zA0];lia
     obtain⟨w,y⟩:=p.frame i rt.cells S1.ok;have j:Ok F H (T1++A):=i.right;have k:Os F1 H1 e d T2:=rt.keep (p.kp j λ b a=>by
       rcases zA8.mp a with a | a
       . exact r1.cells b a
       exact S.loc.cells b a) λ b a C=>by
       have:=i.sep b
       rw[zA0] at this
       have:=qa8.mp a
       lia
     exact⟨F1,f,A1,T2,d,k,S1,w,h2.m _ _ _ _ (λ z q σ2 H2 F2 A2 S2 B=>q σ2 H2 F2 A2 S2 ((y.pre λ b=>by simp only[zA0];lia).trans B)) q⟩
def gTupV(n:Nat)(a:Fw):VTG:=λ d ds Q=>match d with | .q xs=>xs.length=n/\a xs ds Q | _=>False
theorem G3{es:List Kj}{k:Nat}{e:Fw}(j:X.calm=true)(h:VGs c X es e)(l:(Ka es X.env).length=n:=by rfl)(b:(Ka es X.env).findIdx? (·.1)=none:=by rfl):VG c X (.Tuple es k pos) (gTupV n e):=by
 refine⟨PG.mono (qaS6 j h.h l b) λ v G H Q ⟨F,f,A,T,d,r,S,o,q⟩=>?_,λ d f Q Q' p q=>by
   cases d with
   | q g=>exact⟨q.1,h.m _ _ _ _ p q.2⟩
   | _=>exact q.elim⟩
 cases d with
 | q g =>
   obtain⟨a,s,rfl,t,i⟩:=r.tup_inv;exact⟨a,s,rfl,.inl (.inl t),by rw[i.len];exact q.1,F,f,A,T,g,i,S,o,q.2⟩
 | _=>exact q.elim
end
section
variable{c:Vc}{F:γ->Prop}{H:Hp}{X:St}{ds:Ds}{A T:List γ}
theorem qN2{a:γ}{o o':HO}(h:H a=some o)(hm:D8 o=true)(c:¬ F a):Kp F H (λ b=>b=a) F (upd H a o') :=
 ⟨λ b u e w=>by rw[qd1 w];exact e,λ b w=>by subst w;exact⟨o,h,hm⟩,λ b w=>by subst w;exact c,λ _ f=>f⟩
theorem Os.setAt{ys:List D}{Ael Tv:List γ}{d:D}(r:Os F H vs ys Ael)(s:n < ys.length)(e:Oy F H v d Tv):∃ B,Os F H (vs.set n v) (ys.set n d) B/\∀ b,B.count b<=Ael.count b+Tv.count b:=by
 obtain⟨f,w,g,a,c,A1,B,A2,h,e2,j,k,m,o,t,p⟩:=r.split (i:=n) (d:=ys[n]) (by simp);have q:ys.set n d=a++d::c:=by
   have:=congrArg (λ l=>l.set n d) e2
   rw[this,qo0 k]
 rw[h,qo0 j,q];exact⟨A1++(Tv++A2),o.append (.cons e p),λ b=>by rw[m];simp only[zA0];lia⟩
theorem qG5{ys:List D}{B:List γ}(r:Oy F H v (.l false ys) B):∃ a vs Ael,v=.ref a/\H a=some (.l vs)/\Os F H vs ys Ael/\B=a::Ael:=by
 cases r with
 | l h r=>exact⟨_,_,_,rfl,h,r,rfl⟩
theorem qm7{p:List Nat}{ys:List D}{u:V}(S:O1 c F H X ds A)(h:A9 ds i p=some (.l false ys))(J:(X++c.gv)[i]? = some (some u))(K:Walk H u p w) :
   ∃(a:γ)(vs:List V)(Ael:List γ),w=.ref a/\H a=some (.l vs)/\Os F H vs ys Ael /\
   ∀(g:List V)(m:List D)(B' R T:List γ),Ok F H (T++A)->Os F H g m B'->(∀ b,B'.count b+R.count b<=Ael.count b+T.count b) ->
     (∃ A',O1 c F (upd H a (.l g)) X (Bf ds i p (.l false m)) A'/\Ok F (upd H a (.l g)) (R++A')/\O0 F H (T++A) F (upd H a (.l g)) (R++A'))/\∀ v d,Oy F H v d R->Oy F (upd H a (.l g)) v d R:=by
 obtain⟨B,C,r,L,M⟩:=S.place h (by intro z;cases z) J K;obtain⟨a,vs,Ael,rfl,y,N,rfl⟩:=qG5 r;refine⟨a,vs,Ael,rfl,y,N,λ g m B' R T q O E=>?_⟩;have n:∀ b,A.count b=(if b=a then 1 else 0)+Ael.count b+C.count b:=λ b=>by
   rw[L,zAn];by_cases j:b=a
   . subst j;simp;lia
   simp[j,Ne.symm j]
 have s:=n a;rw[if_pos rfl] at s;have sa:=q.sep a;rw[zA0] at sa;have P:=E a;have G:¬ F a:=λ f=>by have:=q.fro a f;rw[zA0] at this;lia
 have k:=qN2 (F:=F) (o':=.l g) y rfl G;have rep':Oy F (upd H a (.l g)) (.ref a) (.l false m) (a::B'):=.l qc1 (O.keep k λ b j w=>by subst w;have:=qa8.mp j;lia);obtain⟨A',Q,q2⟩:=M _ _ k (λ b j w=>by subst w;have:=qa8.mp j;lia) rep';have t:∀ b,A'.count b=(if b=a then 1 else 0)+B'.count b+C.count b:=λ b=>by
   rw[q2,zAn];by_cases j:b=a
   . subst j;simp;lia
   simp[j,Ne.symm j]
 have l:∀ b,(R++A').count b<=(T++A).count b:=λ b=>by rw[zA0,zA0,t,n];have:=E b;lia
 have U:∀ b,F b->∃ o,upd H a (.l g) b=some o:=λ b f=>by
   obtain⟨x,e⟩:=q.ex b f;exact⟨x,by rw[qd1 (show b≠a from λ w=>G (w ▸ f))];exact e⟩
 have I:Ok F (upd H a (.l g)) (R++A'):=⟨λ b=>zAj (l b) (q.sep b),λ b f=>by have:=q.fro b f;have:=l b;lia,U⟩
 refine⟨⟨A',⟨Q,I.right,S.len,S.ag⟩,I,λ b u e z=>?_,λ b u e z=>by have:=l b;lia,λ _ f=>f,λ _ _ _ _ f=>f⟩,λ v d W=>W.keep k λ b j w=>by subst w;have:=qa8.mp j;lia⟩;rw[qd1 λ w=>?_]
 . exact e
 subst w;have:=n b;rw[if_pos rfl] at this;rw[zA0] at z;lia
def Fx(r:V->List V->Hp->VK->Prop)(g:Ds->Ds->Option (Ds×D)):Prop:=∀ F H a vs ys Ael f xs T c d (Q:VK),H a=some (.l vs)->Os F H vs ys Ael->Os F H f xs T->g ys xs=some (c,d) ->
 (∀ e v B' R,Os F H e c B'->Oy F H v d R->(∀ b,B'.count b+R.count b<=Ael.count b+T.count b)->Q v (upd H a (.l e)))->r (.ref a) f H Q
def F9(ys xs:Ds):Option (Ds×D):=match xs with
 | [x]=>if ys.length < big then some (ys++[x],.non) else none
 | _=>none
theorem qn8:Fx qau8 F9:=by
 intro F H a i c Ael m j T e d Q k r l h q
 match j,h with
 | [x],h =>
   obtain⟨w,rfl,f⟩:=l.one_inv;have h:(if c.length < big then some (c++[x],D.non) else none)=some (e,d):=h;by_cases g:c.length < big
   . rw[if_pos g] at h
     cases h;refine⟨a,i,w,rfl,rfl,k,by rw[r.len];exact zAi g qi4,?_⟩;exact q _ .non (Ael++(T++[])) [] (r.append (.cons f .nil)) .non λ b=>by simp[zA0]
   rw[if_neg g] at h;cases h
noncomputable def gPop(ys xs:Ds):Option (Ds×D):=match xs with
 | []=>(ys[ys.length - 1]?).map λ d=>(ys.dropLast,d)
 | _=>none
theorem Os.last{ys:Ds}{Ael:List γ}{d:D}(r:Os F H vs ys Ael)(h:ys[ys.length - 1]? = some d):∃ v B R,vs[vs.length - 1]? = some v/\Os F H vs.dropLast ys.dropLast B/\Oy F H v d R/\∀ b,B.count b+R.count b<=Ael.count b:=by
 obtain⟨e,v,f,g,a,A1,B,A2,c,e2,o,i,j,k,l,m⟩:=r.split h;have n:a=[]:=by
   have:=congrArg K5 e2
   rw[zA6,zAk,i] at this;cases a with
   | nil=>rfl
   | cons _ _=>simp at this;lia
 subst n;cases m;refine⟨v,A1,B,?_,?_,l,λ b=>by rw[j];simp only[zA0,Lf];lia⟩
 . rw[c]
   simp
 rw[c,e2,Lr,Lr];exact k
theorem qaU7:Fx rPop gPop:=by
 intro F H a c s Ael t f T g d Q i r j h q
 match f,h with
 | [],h =>
   cases j;obtain⟨e,k,l⟩:=zA9.mp h;cases l;obtain⟨v,B,R,m,n,o,p⟩:=r.last k;exact⟨a,c,v,rfl,rfl,i,m,q _ v B R n o λ b=>by have:=p b;lia⟩
end
section
variable{c:Vc}{X:Cx}{a b e o:Kj}{pf:PF}{tr:VTB}{es:List Kj}{r:V->List V->Hp->VK->Prop}{g:Ds->Ds->Option (Ds×D)}
noncomputable def D.own:D->Option Ds
 | .l false ys=>some ys
 | _=>none
theorem Iz{d:D}{ys:Ds}(h:d.own=some ys):d=.l false ys:=by
 cases d with
 | l z a=>cases z with
   | false=>cases h;rfl
   | true=>cases h
 | _=>cases h
def Eb(g:Ds->Ds->Option (Ds×D))(i:Nat)(tr:VTB):VT:=λ ds Q xe=>((rdN i ds).bind D.own).isSome=true/\tr ds (λ xs _ ds1=>orF ((rdN i ds1).bind D.own) λ ys=>orF (g ys xs) λ z=>Q z.2 (ds1.set i (.l false z.1))) xe
theorem qH2{ds:Ds}{d:D}(h:ds[i]? = some d):A9 ds i []=some d:=by unfold A9;rw[h];rfl
theorem qE9{ds:Ds}{d x:D}(h:ds[i]? = some d):Bf ds i [] x=ds.set i x:=by unfold Bf;rw[h];rfl
theorem qaM1{T:String}(t:T = "list"){σ:St}{H:Hp}(hm:Fx r g)(u:VAs c X es tr)(hi:i < σ.length)(q:Bh c (Eb g i tr) σ H Q):tBM X.K T r (E5 i) (Ew c tr) σ H Q:=by
 subst t;obtain⟨F,y,A,B,S,x,C,q⟩:=q;obtain⟨D,b⟩:=zB0.mp C;obtain⟨d0,E,f⟩:=zA1.mp b;cases Iz f;obtain⟨v,B0,o,G,_⟩:=S.name hi E;obtain⟨a,h,A0,rfl,j,_,_⟩:=G.lst_inv;refine⟨.ref a,o,.inl ⟨rfl,h,.inl (.inl j)⟩,F,y,A,B,S,x,u.m _ _ _ _ _ (λ I ps J q L H1 F1 T A1 M pk S1 N O=>?_) (λ _ _ z=>z) q⟩;obtain⟨P,U,q⟩:=qa7.mp q;obtain⟨d1,e2,V⟩:=zA1.mp U;cases Iz V;obtain⟨⟨e,d⟩,W,q⟩:=qa7.mp q;obtain⟨s,hk⟩:=ql8.mp e2;have Y:(σ++c.gv)[i]? = some (some (.ref a)):=by rw[zAp hi];exact o
 obtain⟨a2,k,Ael,Z,l,rs,wr⟩:=qm7 S1 (qH2 s) Y (p:=[]) (w:=.ref a) rfl;cases Z;refine hm F1 H1 a k P Ael L I T e d Q l rs M W λ n v B' R h1 h2 h3=>?_
 obtain⟨⟨A',S2,o2,s2⟩,kr⟩:=wr n e B' R T N h1 h3;rw[qE9 s] at S2;exact q v _ F1 R A' (kr v d h2) S2 o2 (O.trans s2)
theorem qap7(e:VAs c X es tr):∀ ds (Q Q':DK) (xe b:XKd),(∀ d a,Q d a->Q' d a)->(∀ x a,xe x a->b x a)->Eb g i tr ds Q xe->Eb g i tr ds Q' b :=
 λ ds Q Q' xe b f h=>Nl (e.m _ _ _ _ _ (λ k l j=>qa5 λ y=>qa5 λ z=>f _ _) h)
theorem qam4{F F':γ->Prop}{H H':Hp}{W:γ->Prop}(k:Kp F H W F' H'):∀{p:List Nat}{f:V}{d0 d:D}{B:List γ}{w o:V},(∀ b∈B,¬ W b)->Oy F H f d0 B->d0.getP p=some d->Walk H f p w->Walk H' f p o->o=w:=by
 intro p
 induction p with
 | nil=>intro f d0 d B w o _ _ _ h s;cases h;cases s;rfl
 | cons n p A =>
   intro f d0 d B w o g r i h s;unfold D.getP at i;cases j:d0.kids[n]? with
   | none=>rw[j] at i;cases i
   | some e =>
     rw[j] at i;obtain⟨x,E,G⟩:=h;obtain⟨L,t,u⟩:=s;obtain⟨y,B1,C1,z,I,J,_⟩:=r.kid j;obtain⟨M,B1',C1',l,_,_,_⟩:=(r.keep k g).kid j;cases E.fn z;cases t.fn l;have v:Lnk H' f n x:=by
       obtain⟨a,rfl,q⟩:=z;refine⟨a,rfl,?_⟩;cases r with
       | q c _ =>
         rcases q with⟨vs,e,h⟩ | ⟨vs,e,h⟩ | ⟨vs,e,h⟩ | ⟨C,dx,vs,e,h⟩
         . exact .inl ⟨vs,k.q e,h⟩
         . rw[c] at e;cases e
         . rw[c] at e;cases e
         rw[c] at e;cases e
       | l c _ =>
         have m:=k.fr _ _ c (g _ zAf);rcases q with⟨vs,e,h⟩ | ⟨vs,e,h⟩ | ⟨vs,e,h⟩ | ⟨C,dx,vs,e,h⟩
         . rw[c] at e;cases e
         . rw[c] at e;cases e;exact .inr (.inl ⟨_,m,h⟩)
         . rw[c] at e;cases e
         rw[c] at e;cases e
       | dct c _ _ =>
         have m:=k.fr _ _ c (g _ zAf);rcases q with⟨vs,e,h⟩ | ⟨vs,e,h⟩ | ⟨vs,e,h⟩ | ⟨C,dx,vs,e,h⟩
         . rw[c] at e;cases e
         . rw[c] at e;cases e
         . rw[c] at e;cases e;exact .inr (.inr (.inl ⟨_,m,h⟩))
         rw[c] at e;cases e
       | ins c _ _ =>
         have m:=k.fr _ _ c (g _ zAf);rcases q with⟨vs,e,h⟩ | ⟨vs,e,h⟩ | ⟨vs,e,h⟩ | ⟨C,dx,vs,e,h⟩
         . rw[c] at e;cases e
         . rw[c] at e;cases e
         . rw[c] at e;cases e
         rw[c] at e;cases e;exact .inr (.inr (.inr ⟨_,_,_,m,h⟩))
       | _=>cases (show (none:Option D)=some _ from j)
     cases v.fn l;exact A (B:=B1) (λ b K=>g b (qa8.mpr (by have:=J b;have:=qa8.mp K;lia))) I i G u
def El(g:Ds->Ds->Option (Ds×D))(pf:PF)(tr:VTB):VT:=λ ds Q xe=>orF (pf ds) λ q=>orF ((A9 ds q.1 q.2).bind D.own) λ ys=>orF ds[q.1]? λ a=>tr (ds.set q.1 .u) (λ xs _ ds1=>orF (g ys xs) λ z=>Q z.2 (Bf (ds1.set q.1 a) q.1 q.2 (.l false z.1))) xe
theorem qU2(e:VAs c X es tr):∀ ds (Q Q':DK) (xe b:XKd),(∀ d a,Q d a->Q' d a)->(∀ x a,xe x a->b x a)->El g pf tr ds Q xe->El g pf tr ds Q' b :=
 λ ds Q Q' xe b f h=>qa5 λ q=>qa5 λ j=>qa5 λ k=>e.m _ _ _ _ _ (λ l n i=>qa5 λ z=>f _ _) h
theorem qaw0(hm:Fx r g)(ha:VAs c X es tr):∀ σ H Q,Bh c (El g pf tr) σ H Q->tBM X.K "list" r (F8 c pf) (Ew c tr) σ H Q:=by
 rintro σ H Q ⟨F,Y,A,xe,S,x,q⟩;obtain⟨⟨i,p⟩,e1,q⟩:=qa7.mp q;obtain⟨n,e2,q⟩:=qa7.mp q;obtain⟨dl,h,e4⟩:=zA1.mp e2;cases Iz e4;obtain⟨I,l,q⟩:=qa7.mp q;refine⟨F,Y,A,i,p,_,S,e1,h,D.noConfusion,λ u w H1 s Z s0=>?_⟩;have S0:=S.same s0;obtain⟨a,L,Ael0,rfl,M,a0,_⟩:=qm7 S0 h s Z;refine⟨.inl ⟨rfl,L,.inl (.inl M)⟩,?_⟩;have N:I≠.u:=λ z=>by
   subst z;have j:=h;unfold A9 at j;rw[l] at j;cases (qaj6 j).2
 obtain⟨u',B,C,h1,J,h3,h4⟩:=S0.put1 l N;rw[s] at h1;cases h1;obtain⟨A1,q1,q2⟩:=h4 .u [] (Kp.same (F:=F) λ _ _ z=>z) (λ _ _ z=>z) (.u u);have O:Ok F H1 (B++A1):=S0.ok.count λ b=>by rw[zA0,q2,h3];simp
 have s1:O0 F H A F H1 (B++A1):=⟨λ b o e _=>s0 b o e,λ b o e z=>by rw[zA0,q2];have:=h3 b;simp;lia,λ _ f=>f,λ _ _ _ _ f=>f⟩
 have S1:O1 c F H1 σ (Y.set i .u) A1:=⟨q1,O.right,S.len,S.ag⟩
 have P:O0 F H A F H1 A1:=s1.count λ b=>by rw[zA0];lia
 refine⟨F,_,A1,xe,S1,x.step P,ha.m _ _ _ _ _ (λ xs ps k q vs H2 F2 T2 A2 r2 pk S2 o2 s2=>?_) (λ _ _ z=>z) q⟩;obtain⟨⟨t,d⟩,e7,q⟩:=qa7.mp q;have kp:=s2.kp S1.ok S1.loc.cells;have hBout:∀ b∈B,¬ (A1.count b≠0):=λ b hb hc=>by
   have:=O.sep b
   rw[zA0] at this
   have:=qa8.mp hb
   lia
 have y:Oy F2 H2 u I B:=J.keep kp hBout;obtain⟨o3,s3⟩:=s2.frame O J.cells o2;obtain⟨A3,k1,k2⟩:=qE8 S2.loc s y;have E:∀ b,A3.count b<=B.count b+A2.count b:=k2;have o4:Ok F2 H2 (T2++A3):=o3.count λ b=>by simp only[zA0];have:=E b;lia
 have s4:O0 F H A F2 H2 (T2++A3):=(s1.trans s3).count λ b=>by simp only[zA0];have:=E b;lia
 have S3:O1 c F2 H2 σ (k.set i I) A3:=⟨k1,o4.right,S.len,S.ag⟩
 have G:i < k.length:=by rw[<- S2.loc.len];exact(zA4.mp s).1
 have e8:A9 (k.set i I) i p=some (.l false n):=by
   unfold A9 at h ⊢;rw[l] at h;rw[List.getElem?_set_self G];exact h
 have T:Walk H2 u p (.ref a):=by
   obtain⟨w',_,_,w1,_,_,_⟩:=J.path (p:=p) (d:=.l false n) (by unfold A9 at h;rw[l] at h;exact h);cases Z.fn w1;obtain⟨w2,_,_,w3,_,_,_⟩:=y.path (p:=p) (d:=.l false n) (by unfold A9 at h;rw[l] at h;exact h)
   have:w2=.ref a:=by
     refine qam4 (d:=.l false n) kp hBout J ?_ w1 w3;unfold A9 at h;rw[l] at h;exact h
   rw[<- this];exact w3
 obtain⟨a2,U,Ael,ea,V,rs,wr⟩:=qm7 S3 e8 s T;cases ea;refine hm F2 H2 a U n Ael vs xs T2 t d Q V rs r2 e7 λ W v B' R z1 z2 z3=>?_
 obtain⟨⟨A',S4,o5,s5⟩,kr⟩:=wr W t B' R T2 o4 z1 z3;exact q v _ F2 R A' (kr v d z2) S4 o5 (s4.trans s5)
end
section
variable{c:Vc}{X:Cx}{a b e o:Kj}{pos cpos apos:Pos}{pf:PF}{tr:VTB}{es:List Kj}{fb:FV}{ob:Bool}{r:V->List V->Hp->VK->Prop}{g:Ds->Ds->Option (Ds×D)}{name:Str}{id:String}
theorem Bi(i:Nat){x:Str}{p0:Pos}(k:Fx r g)(l:PlainAttrs "list")(slot:Slot "list" name id)(b:typeOf (.builtin id)=pure (.type "method_descriptor"))(hm:MtM X id r)(d:VAs c X (e::es) tr)(j:X.N[i]? = some x:=by rfl)(m:Vis X.env.scope x:=by first | exact Oo rfl | exact On (Oo rfl) | exact On (On rfl))(n:N' x:=by decide)(f:(x == ("__classdict__" : Str))=false:=by decide)(hbase:Jw (.Name x p0) name X.env (eval (.Name x p0) X.env)=eval (.Name x p0) X.env:=by rfl)(a:((backTo cpos (Jp (e::es) X.env)).all (λ x=>!x.1)&&(backToKw cpos (J0 [] X.env)).all (λ x=>x.1.isSome)
     && decide ((e::es).length+([]:List Keyword).length+(if ([]:List Keyword).isEmpty then 0 else 1) < 30))=true:=by rfl)(hline:(apos.endLine == cpos.line)=true:=by rfl)(o:Jp (e::es) X.env=(false,eval e X.env)::Jp es X.env:=by rfl)(hplain:(backTo cpos (Jp es X.env)).any (·.1)=false:=by rfl) :
   VE c X (.Call (.Attribute (.Name x p0) name apos) (e::es) [] cpos) (Eb g i tr) :=
 ⟨λ D6 s σ H Q I q=>Gv l slot b hm (qn3 j m n f) d.h hbase a hline o hplain D6 s σ H Q I (qaM1 rfl k d (qn9 j D6 σ H s I) q),qap7 d⟩
theorem emutP(f:Fx r g)(i:PlainAttrs "list")(slot:Slot "list" name id)(b:typeOf (.builtin id)=pure (.type "method_descriptor"))(hm:MtM X id r)(j:VP c X o pf)(d:VAs c X (e::es) tr)(hbase:Jw o name X.env (eval o X.env)=eval o X.env:=by rfl)(a:((backTo cpos (Jp (e::es) X.env)).all (λ x=>!x.1)&&(backToKw cpos (J0 [] X.env)).all (λ x=>x.1.isSome)
     && decide ((e::es).length+([]:List Keyword).length+(if ([]:List Keyword).isEmpty then 0 else 1) < 30))=true:=by rfl)(hline:(apos.endLine == cpos.line)=true:=by rfl)(k:Jp (e::es) X.env=(false,eval e X.env)::Jp es X.env:=by rfl)(hplain:(backTo cpos (Jp es X.env)).any (·.1)=false:=by rfl) :
   VE c X (.Call (.Attribute o name apos) (e::es) [] cpos) (El g pf tr) :=
 ⟨PE.mono (Gv i slot b hm j.h d.h hbase a hline k hplain) (qaw0 f d),qU2 d⟩
theorem qaY0(e:Fx r g)(f:PlainAttrs "list")(slot:Slot "list" name id)(a:typeOf (.builtin id)=pure (.type "method_descriptor"))(hm:MtM X id r)(j:VP c X o pf)(hbase:Jw o name X.env (eval o X.env)=eval o X.env:=by rfl)(hline:(apos.endLine == cpos.line)=true:=by rfl) :
   VE c X (.Call (.Attribute o name apos) [] [] cpos) (El g pf Ax) :=
 ⟨PE.mono (qaT1 f slot a hm j.h hbase hline) λ σ H Q q=>by
   obtain⟨F,k,A,i,p,d,S,l,e2,b,q⟩:=qaw0 (X:=X) (c:=c) e Ad σ H Q q;refine⟨F,k,A,i,p,d,S,l,e2,b,λ u w H1 m n s=>?_⟩;obtain⟨a,F2,t,A2,v,S2,x,q2⟩:=q u w H1 m n s;exact⟨a,q2 [] H1 F2 [] A2 .nil .nil S2 S2.ok O0.refl⟩,qU2 (c:=c) (X:=X) Ad⟩
def Fj(pf:PF)(fb:FV):VTG:=λ d ds Q=>orF (pf ds) λ q=>orF ((A9 ds q.1 q.2).bind D.own) λ ys=>orF ((fb ds).bind D.asI) λ k=>orF (ixN ys.length k) λ n=>Q (Bf ds q.1 q.2 (.l false (ys.set n d)))
theorem Ec(y:VP c X o pf)(hi:VV c X b ob fb)(f:∀ v,assign (.Subscript o b pos) X.env v=(do
     let ov <- holding [v] (eval o X.env)
     let iv <- holding [v,ov] (eval b X.env)
     standAt pos
     holding [v,ov,iv] (setItem ov iv v)
     release [v,ov,iv] []):=by intro _;rfl):VG c X (.Subscript o b pos) (Fj pf fb):=by
 refine⟨PG.mono (qaS7 y.h hi.h qad1 f) λ v σ H Q g=>?_,λ d j Q Q' z=>qa5 λ _=>qa5 λ _=>qa5 λ _=>qa5 λ _=>z _⟩;obtain⟨F,j,A,T,d,r,S,B,q⟩:=g;obtain⟨⟨i,p⟩,C,q⟩:=qa7.mp q;obtain⟨E,e2,q⟩:=qa7.mp q;obtain⟨Y,l,G⟩:=zA1.mp e2;cases Iz G;obtain⟨k,I,q⟩:=qa7.mp q;obtain⟨J,K,L⟩:=zA1.mp I;obtain⟨n,m,q⟩:=qa7.mp q;refine⟨F,j,A,i,p,_,S,C,l,D.noConfusion,λ u w H1 M N s=>⟨F,j,A,J,S.same s,K,λ Z H2 B2 O t _=>?_⟩⟩;have e:=s.trans t;have S2:=S.same e;cases O.asI L;obtain⟨a,P,Ael,rfl,f,x,wr⟩:=qm7 S2 l M (N.same t);have R:n < E.length:=(qU9 m).2.1;obtain⟨B',U,V⟩:=x.setAt R (r.same e);obtain⟨⟨A',S3,o3,W⟩,_⟩:=wr _ _ B' [] T (B.same e) U λ b=>by have:=V b;simp;lia
 exact⟨a,P,k,n,rfl,rfl,f,by rw[x.len];exact m,q σ _ F A' S3 ((O0.same e).trans W)⟩
def sAugV(f:Int->Int->Int)(pf:PF)(fb a:FV):VTS:=λ e ds=>orF (pf ds) λ q=>orF ((A9 ds q.1 q.2).bind D.own) λ ys=>orF ((fb ds).bind D.asI) λ k=>0<=k/\orF ((ys[k.toNat]?).bind D.asI) λ x=>orF ((a ds).bind D.asI) λ y=>e.nx (Bf ds q.1 q.2 (.l false (ys.set k.toNat (.int (f x y)))))
theorem saug{op:Operator}{f:Int->Int->Int}{N:FV}{oe:Bool}{tpos:Pos}(V:VP c X o pf)(hi:VV c X b ob fb)(W:VV c X e oe N)(Y:PIp X op (ipI f))(Z:∀ n r d,augStore b n r d=(do holding [d,n,r] (setItem n r d);release [d,n,r] [];pure .next):=by intros;rfl):VS c X (.AugAssign (.Subscript o b tpos) op e pos) (sAugV f pf fb N):=by
 refine⟨PS.mono (qaJ3 V.h hi.h qaE3 W.h Y qad1 Z) λ E σ H t=>?_,λ en a0 s hl=>qa5 λ _=>qa5 λ _=>qa5 λ _=>Nl (qa5 λ _=>qa5 λ _=>hl.nx _)⟩;obtain⟨F,s,A,en,S,l,q⟩:=t;obtain⟨⟨i,p⟩,e1,q⟩:=qa7.mp q;obtain⟨ys,e2,q⟩:=qa7.mp q;obtain⟨dl,v,e4⟩:=zA1.mp e2;cases Iz e4;obtain⟨k,e5,O,q⟩:=qa7.mp q;obtain⟨dk,e6,e7⟩:=zA1.mp e5;obtain⟨x,e8,q⟩:=qa7.mp q;obtain⟨dx,P,z⟩:=zA1.mp e8;obtain⟨y,B,q⟩:=qa7.mp q;obtain⟨dy,C,G⟩:=zA1.mp B;refine⟨F,s,A,i,p,_,S,e1,v,D.noConfusion,λ u w H1 Q R T=>⟨F,s,A,dk,S.same T,e6,λ vk H2 B2 r2 I _=>?_⟩⟩;have g:=T.trans I;cases r2.asI e7;obtain⟨a,vs,Ael,rfl,J,K,_⟩:=qm7 (S.same g) v Q (R.same I);obtain⟨vx,Bx,hx,rx,_⟩:=K.get P;cases rx.asI z;refine⟨a,vs,k,_,rfl,rfl,J,O,hx,F,s,A,dy,S.same g,C,λ vy H3 B3 r3 U _=>?_⟩;cases r3.asI G;have j:=g.trans U;have S3:=S.same j;obtain⟨a',L,Ael',ea,M,m,wr⟩:=qm7 S3 v Q ((R.same I).same U);cases ea;have hn:k.toNat < ys.length:=(zA4.mp P).1;obtain⟨B',r4,h4⟩:=m.setAt hn (.int (f x y));obtain⟨⟨A',S4,o4,s4⟩,_⟩:=wr _ _ B' [] [] S3.ok r4 λ b=>by have:=h4 b;simpa using this
 refine⟨x,y,rfl,rfl,a,L,k,k.toNat,rfl,rfl,M,?_,l.nx _ σ _ F A' q S4 ((O0.same j).trans s4)⟩;rw[m.len];unfold ixN;rw[if_pos O,if_pos (by lia)]
noncomputable def Ez(f:Str)(d:D):List (Str×D)->List (Str×D)
 | []=>[(f,d)]
 | (g,x)::r=>if g=f then (g,d)::r else (g,x)::Ez f d r
end
section
variable{c:Vc}{X:Cx}{F:γ->Prop}{H:Hp}{W:St}{ds:Ds}{A T:List γ}{a b e o:Kj}{pos cpos apos:Pos}{te:VT}{pf:PF}{fa fb:FV}{oa ob:Bool}
theorem qT7:∀{a:List (Str×V)}{c:List (Str×D)}{B Tv:List γ}{f:Str}{v:V}{d:D},a.map (·.1)=c.map (·.1)->Os F H (a.map (·.2)) (c.map (·.2)) B->Oy F H v d Tv->(Bu f v a).map (·.1)=(Ez f d c).map (·.1)/\∃ B',Os F H ((Bu f v a).map (·.2)) ((Ez f d c).map (·.2)) B'/\∀ b,B'.count b<=B.count b+Tv.count b
 | [],[],B,Tv,f,v,d,_,r,rv=>⟨rfl,Tv++[],.cons rv .nil,λ b=>by simp⟩
 | [],_::_,_,_,_,_,_,h,_,_=>by simp at h
 | _::_,[],_,_,_,_,_,h,_,_=>by simp at h
 | (k,w)::r,(k',x)::r',B,Tv,f,v,d,h,rs,rv=>by
   have i:k=k':=by simp at h;exact h.1
   have e:r.map (·.1)=r'.map (·.1):=by simp at h;simpa using h.2
   subst i;cases rs with
   | @cons _ _ B1 _ _ B2 q t =>
     by_cases g:k=f
     . simp only[Bu,Ez,if_pos g,zAy,e,true_and]
       exact⟨Tv++B2,.cons rv t,λ b=>by simp only[zA0];lia⟩
     obtain⟨j,B',l,m⟩:=qT7 (f:=f) e t rv;simp only[Bu,Ez,if_neg g,zAy,j,true_and];exact⟨B1++B',.cons q l,λ b=>by simp only[zA0];have:=m b;lia⟩
def D.ownI(C:γ):D->Option (List (Str×D))
 | .ins false C' fs=>if C'=C then some fs else none
 | _=>none
theorem qaK8{d:D}{C:γ}{fs:List (Str×D)}(h:d.ownI C=some fs):d=.ins false C fs:=by
 cases d with
 | ins z C' b=>cases z with
   | false =>
     have h:(if C'=C then some b else none)=some fs:=h;by_cases a:C'=C
     . rw[if_pos a] at h;cases h;rw[a]
     rw[if_neg a] at h;cases h
   | true=>cases h
 | _=>cases h
theorem qaK7{p:List Nat}{C:γ}{l:List (Str×D)}{u:V}(S:O1 c F H W ds A)(h:A9 ds i p=some (.ins false C l))(E:(W++c.gv)[i]? = some (some u))(G:Walk H u p w) :
   ∃(a dx:γ)(d:List (Str×V))(Ael:List γ),w=.ref a/\H a=some (.ins C dx d)/\d.map (·.1)=l.map (·.1)/\Os F H (d.map (·.2)) (l.map (·.2)) Ael /\
   ∀(fvs':List (Str×V))(fds':List (Str×D))(B' T:List γ),Ok F H (T++A)->fvs'.map (·.1)=fds'.map (·.1)->Os F H (fvs'.map (·.2)) (fds'.map (·.2)) B'->(∀ b,B'.count b<=Ael.count b+T.count b) ->
     ∃ A',O1 c F (upd H a (.ins C dx fvs')) W (Bf ds i p (.ins false C fds')) A'/\O0 F H (T++A) F (upd H a (.ins C dx fvs')) A':=by
 obtain⟨B,C0,r,I,J⟩:=S.place h D.noConfusion E G;cases r with
 | @ins a _ dx d _ Ael ha hk rs =>
 refine⟨a,dx,d,Ael,rfl,ha,hk,rs,λ fvs' fds' B' T n q K v=>?_⟩;have m:∀ b,A.count b=(if b=a then 1 else 0)+Ael.count b+C0.count b:=λ b=>by
   rw[I,zAn];by_cases g:b=a
   . subst g;simp;lia
   simp[g,Ne.symm g]
 have s:=m a;rw[if_pos rfl] at s;have sa:=n.sep a;rw[zA0] at sa;have L:=v a;have y:¬ F a:=λ f=>by have:=n.fro a f;rw[zA0] at this;lia
 have k:=qN2 (F:=F) (o':=.ins C dx fvs') ha rfl y;have rep':Oy F (upd H a (.ins C dx fvs')) (.ref a) (.ins false C fds') (a::B'):=.ins qc1 q (K.keep k λ b g w=>by subst w;have:=qa8.mp g;lia);obtain⟨A',M,q2⟩:=J _ _ k (λ b g w=>by subst w;have:=qa8.mp g;lia) rep';have t:∀ b,A'.count b=(if b=a then 1 else 0)+B'.count b+C0.count b:=λ b=>by
   rw[q2,zAn];by_cases g:b=a
   . subst g;simp;lia
   simp[g,Ne.symm g]
 have j:∀ b,A'.count b<=(T++A).count b:=λ b=>by rw[zA0,t,m];have:=v b;lia
 have N:∀ b,F b->∃ o,upd H a (.ins C dx fvs') b=some o:=λ b f=>by
   obtain⟨x,e⟩:=n.ex b f;exact⟨x,by rw[qd1 (show b≠a from λ w=>y (w ▸ f))];exact e⟩
 refine⟨A',⟨M,⟨λ b=>zAj (j b) (n.sep b),λ b f=>by have:=n.fro b f;have:=j b;lia,N⟩,S.len,S.ag⟩,λ b u e z=>?_,λ b u e z=>by have:=j b;lia,λ _ f=>f,λ _ _ _ _ f=>f⟩;rw[qd1 λ w=>?_]
 . exact e
 subst w;have:=m b;rw[if_pos rfl] at this;rw[zA0] at z;lia
def sFldV(C:γ)(f:Str)(te:VT)(pf:PF):VTS:=λ e ds=>te ds (λ d ds1=>orF (pf ds1) λ q=>orF ((A9 ds1 q.1 q.2).bind (D.ownI C)) λ fs=>fs.length < 100/\e.nx (Bf ds1 q.1 q.2 (.ins false C (Ez f d fs)))) e.xe
theorem Gh{C:γ}{f:Str}{K:No}{pos':Pos}(G:X.K=K)(I:VP c X o pf)(k:VE c X e te)(J:Cls K C)(L:qg1 K C f)(M:swapsWith e (some (.Attribute o f pos')) pos.line X.env=pure false:=by rfl):VS c X (.Assign [.Attribute o f pos'] e pos) (sFldV C f te pf):=by
 subst G;refine⟨PS.mono (qaS4 I.h k.h M) λ E W H n=>?_,λ s N t r=>k.m _ _ _ _ _ (λ d b=>qa5 λ _=>qa5 λ _=>Nl (r.nx _)) r.xe⟩;obtain⟨F,t,A,s,S,l,q⟩:=n;refine⟨F,t,A,s.xe,S,l.xe,k.m _ _ _ _ _ (λ d b q v H1 F1 T A1 O S1 P Q=>?_) (λ _ _ z=>z) q⟩;obtain⟨⟨i,p⟩,R,q⟩:=qa7.mp q;obtain⟨U,e2,r,q⟩:=qa7.mp q;obtain⟨dl,x,V⟩:=zA1.mp e2;cases qaK8 V;refine⟨F1,b,A1,i,p,_,S1,R,x,D.noConfusion,λ u w H2 Y Z j=>?_⟩;have S2:=S1.same j;obtain⟨a,dx,g,Ael,rfl,ha,y,rs,wr⟩:=qaK7 S2 x Y Z;have B:g.length=U.length:=by have:=congrArg K5 y;simpa using this
 refine⟨a,C,dx,g,rfl,ha,J,L,by lia,?_⟩;obtain⟨m1,B',m2,m3⟩:=qT7 (f:=f) y rs (O.same j);obtain⟨A',S3,s3⟩:=wr _ _ B' T (P.same j) m1 m2 m3;exact l.nx _ W _ F1 A' q S3 (Q.trans ((O0.same j).trans s3))
def Bs(x:V):List V->Option Nat
 | []=>none
 | y::r=>if eqV y x=true then some 0 else (Bs x r).map (· + 1)
theorem qaj1{x:V}:∀{xs:List V}{j:Nat},Bs x xs=some j->∃ z,xs[j]? = some z/\eqV z x=true/\∀ m z',m < j->xs[m]? = some z'->eqV z' x=false
 | [],j,h=>by cases h
 | y::r,j,h=>by
   unfold Bs at h;by_cases a:eqV y x=true
   . rw[if_pos a] at h;cases h
     exact⟨y,rfl,a,λ m z' c=>by lia⟩
   rw[if_neg a] at h;obtain⟨k,d,rfl⟩:=zA9.mp h;obtain⟨z,e,f,g⟩:=qaj1 d;refine⟨z,by simpa using e,f,λ m z' c b=>?_⟩;cases m with
   | zero =>
     have:y=z':=by simpa using b
     subst this;simpa using a
   | succ m=>exact g m z' (by lia) (by simpa using b)
def I8(x y:D):Option D:=match x with
 | .l _ ys=>y.flat.bind λ v=>(flats ys).bind λ a=>(Bs v a).map λ j=>.int (j:Nat)
 | _=>none
def Hl(x y:D):Option D:=match x with
 | .l _ ys=>y.flat.bind λ v=>(flats ys).bind λ a=>some (.int (a.countP (λ z=>eqV z v):Nat))
 | _=>none
def rL1(r:V->List V->Hp->VK->Prop):R2:=λ x y H Q=>r x [y] H Q
theorem qaB8:A8 true (rL1 qaI5) I8:=by
 intro F H v w x y B d Q r h q;cases r with | @cons _ _ A _ _ _ b t=>cases t with | @cons _ _ A2 _ _ _ c _ =>
 cases x with
 | l z s =>
   obtain⟨u,e,h⟩:=zA1.mp h;obtain⟨C,i,h⟩:=zA1.mp h;obtain⟨j,k,rfl⟩:=zA9.mp h;obtain⟨rfl,f⟩:=c.flat e;obtain⟨a,l,A3,rfl,m,n,_⟩:=b.lst_inv;obtain⟨rfl,g⟩:=n.flats i;obtain⟨z,o,q2,p⟩:=qaj1 k;exact⟨a,l,w,j,z,rfl,rfl,m,f,g,o,q2,p,q _ H [] (.int _) (λ _ _ z=>z) New.nil⟩
 | _=>cases h
theorem qaL0:A8 true (rL1 qaI7) Hl:=by
 intro F H v w x y B d Q r h q;cases r with | @cons _ _ A _ _ _ b t=>cases t with | @cons _ _ A2 _ _ _ c _ =>
 cases x with
 | l z m =>
   obtain⟨n,e,h⟩:=zA1.mp h;obtain⟨o,i,h⟩:=zA1.mp h;cases h;obtain⟨rfl,f⟩:=c.flat e;obtain⟨a,j,A3,rfl,k,l,_⟩:=b.lst_inv;obtain⟨rfl,g⟩:=l.flats i;exact⟨a,j,w,rfl,rfl,k,f,g,q _ H [] (.int _) (λ _ _ z=>z) New.nil⟩
 | _=>cases h
theorem vbm{r:V->List V->Hp->VK->Prop}{g:D->D->Option D}{name:Str}{id:String}(C:A8 true (rL1 r) g)(E:PlainAttrs "list")(slot:Slot "list" name id)(i:typeOf (.builtin id)=pure (.type "method_descriptor"))(hm:MtM X id r)(G:VV c X o oa fa)(I:VV c X b ob fb)(J:∀ x y d,g x y=some d->∃ z ys,x=.l z ys)(hbase:Jw o name X.env (eval o X.env)=eval o X.env:=by rfl)(f:((backTo cpos (Jp [b] X.env)).all (λ x=>!x.1)&&(backToKw cpos (J0 [] X.env)).all (λ x=>x.1.isSome)
     && decide (([b]:List Kj).length+([]:List Keyword).length+(if ([]:List Keyword).isEmpty then 0 else 1) < 30))=true:=by rfl)(hline:(apos.endLine == cpos.line)=true:=by rfl)(n:Jp [b] X.env=(false,eval b X.env)::Jp [] X.env:=by rfl)(hplain:(backTo cpos (Jp [] X.env)).any (·.1)=false:=by rfl) :
   VV c X (.Call (.Attribute o name apos) [b] [] cpos) true (f2 g fa fb):=by
 refine⟨PE.mono (Gv E slot i hm G.h (qc5 I.h ql9 n) hbase f hline n hplain) λ W H Q j=>?_⟩;obtain⟨F,p,A,d,S,e,q⟩:=j;obtain⟨x,y,K,L,s⟩:=qaE7.mp e;obtain⟨z,ys,rfl⟩:=J x y d s;refine⟨F,p,A,_,S,K,λ v H1 B1 t k R=>?_⟩;obtain⟨a,M,A3,rfl,l,T,_⟩:=t.lst_inv;refine⟨.inl ⟨rfl,M,.inl (.inl l)⟩,F,p,A,y,S.same k,L,λ w H2 B2 N m U=>?_⟩;exact C F H2 _ w _ y _ d Q (E9 (t.same m) N) s λ u H3 B3 O P B=>q u H3 B3 O ((k.trans m).trans P) λ _=>⟨B.one,λ b o e=>B.new b o (m b o (k b o e))⟩
theorem qaj0:∀ x y d,I8 x y=some d->∃ z ys,x=.l z ys:=λ x y d h=>by cases x with | l z ys=>exact⟨z,ys,rfl⟩ | _=>cases h
theorem qax7:∀ x y d,Hl x y=some d->∃ z ys,x=.l z ys:=λ x y d h=>by cases x with | l z ys=>exact⟨z,ys,rfl⟩ | _=>cases h
end
def Dg(g:VTG)(t:VTS)(e:VEnds):List D->Ds->Prop
 | [],ds=>e.nx ds
 | x::xs,ds=>g x ds λ ds1=>t { e with nx:=Dg g t e xs,ct:=Dg g t e xs,bk:=e.nx } ds1
def whN(qc:VTT)(t:VTS)(e:VEnds):Nat->Ds->Prop
 | 0,_=>False
 | n+1,ds=>qc ds (λ b ds1=>if b=true then t { e with nx:=whN qc t e n,ct:=whN qc t e n,bk:=e.nx } ds1 else e.nx ds1) e.xe
def qaI2(qc:VTT)(t:VTS):VTS:=λ e ds=>∃ n,whN qc t e n ds
section
variable{c:Vc}{X:Cx}{a b e tg:Kj}{body:List Kk}{g:VTG}{t:VTS}{te:VT}{qc:VTT}{pos:Pos}
theorem qs0(d:VG c X tg g)(e:VSs c X body t){en b:VEnds}(a:en.Le b):∀(xs:List D) ds,Dg g t en xs ds->Dg g t b xs ds
 | [],ds=>a.nx ds
 | x::xs,ds=>d.m _ _ _ _ λ f=>e.m _ _ _ ⟨qs0 d e a xs,a.rt,a.nx,qs0 d e a xs,a.xe⟩
theorem qN3{cd:Kj}(e:VTe c X cd qc)(f:VSs c X body t){en d:VEnds}(a:en.Le d):∀(n:Nat) ds,whN qc t en n ds->whN qc t d n ds
 | 0,ds=>id
 | n+1,ds=>e.m _ _ _ _ _ (λ b g=>qE0 (f.m _ _ _ ⟨qN3 e f a n,a.rt,a.nx,qN3 e f a n,a.xe⟩) (a.nx _)) a.xe
theorem qT0(r:PassesOwn (Kd X.prog X.w) X.A X.env X.xe)(g:VTe c X cd qc)(o:VSs c X body t):VS c X (.While cd body [] pos) (qaI2 qc t):=by
 refine⟨PS.mono (qaA5 r g.h o.h) λ E σ H i=>?_,λ d s e u ⟨n,q⟩=>⟨n,qN3 g o u n e q⟩⟩;obtain⟨F,e,A,d,S,l,n,q⟩:=i;refine⟨λ m σ H=>∃ F e A,O1 c F H σ e A/\Lk c E F H A d/\whN qc t d m e,⟨n,F,e,A,S,l,q⟩,?_⟩;rintro m σ H ⟨F,e,A,S,l,q⟩;cases m with
 | zero=>exact q.elim
 | succ m =>
   refine⟨F,e,A,d.xe,S,l.xe,g.m _ _ _ _ _ (λ b j q H1 F1 A1 S1 p=>?_) (λ _ _ z=>z) q⟩;cases b with
   | false=>rw[if_neg (by decide)] at q ⊢;exact l.nx _ _ _ _ _ q S1 p
   | true =>
     rw[if_pos rfl] at q ⊢;have f:=l.step p;refine⟨λ σ' H'=>∃ F' a A',O1 c F' H' σ' a A'/\Lk c E F' H' A' d/\whN qc t d m a,λ σ' H' h=>⟨m,by lia,h⟩,F1,j,A1,{ d with nx:=whN qc t d m,ct:=whN qc t d m,bk:=d.nx },S1,⟨?_,f.rt,f.nx,?_,f.xe⟩,q⟩
     . exact λ a σ' H' F' A' q S' k=>⟨F',a,A',S',f.step k,q⟩
     exact λ a σ' H' F' A' q S' k=>⟨F',a,A',S',f.step k,q⟩
theorem qab6{E:Dv}{en:VEnds}{F:γ->Prop}{H:Hp}{σ:St}{ds:Ds}{A:List γ}{x:V}{y:D}{N:St->Hp->Prop}{b:Ds->Prop}(i:VG c X tg g)(S:O1 c F H σ ds A)(l:Lk c E F H A en)(r:Oy F H x y [])(h:∀ a σ' H' F' A',b a->O1 c F' H' σ' a A'->O0 F H A F' H' A'->N σ' H')(q:g y ds λ ds1=>t { en with nx:=b,ct:=b,bk:=en.nx } ds1) :
   Fi c g x σ H λ σ2 H2=>Ey c t { E with nx:=N,ct:=N,bk:=E.nx } σ2 H2:=by
 refine⟨F,ds,A,[],y,r,S,S.ok,i.m _ _ _ _ (λ ds1 q σ1 H1 F1 A1 S1 d=>?_) q⟩;have e:=l.step d;exact⟨F1,ds1,A1,{ en with nx:=b,ct:=b,bk:=en.nx },S1,⟨λ a σ' H' F' A' q S' f=>h a σ' H' F' A' q S' (O0.trans d f),e.rt,e.nx,λ a σ' H' F' A' q S' f=>h a σ' H' F' A' q S' (O0.trans d f),e.xe⟩,q⟩
noncomputable def D.lstOf:D->Option Ds
 | .l _ ys=>some ys
 | _=>none
theorem qz5{d:D}{ys:Ds}(h:d.lstOf=some ys):∃ z,d=.l z ys:=by
 cases d with
 | l z a=>cases h;exact⟨z,rfl⟩
 | _=>cases h
theorem qu0:∀{ys:List D}{i:Nat}{y:D},D.imms ys=true->ys[i]? = some y->y.imm=true
 | [],i,y,_,h=>by simp at h
 | d::r,0,y,hm,h=>by
   have:d=y:=by simpa using h
   subst this;exact(zAh.mp hm).1
 | d::r,i+1,y,hm,h=>qu0 (zAh.mp hm).2 (by simpa using h)
theorem qm9{xs:List α}{x:α}(h:xs[i]? = some x):xs.drop i=x::xs.drop (i+1):=by
 obtain⟨a,rfl⟩:=zA4.mp h;exact Ld a
def sForL(te:VT)(g:VTG)(t:VTS):VTS:=λ e ds=>te ds (λ d ds1=>orF d.lstOf λ ys=>D.imms ys=true/\Dg g t e ys ds1) e.xe
theorem G4(hp:PassesOwn (Kd X.prog X.w) X.A X.env X.xe)(hi:VE c X e te)(G:VG c X tg g)(Q:VSs c X body t)(R:X.calm=true:=by rfl)(I:∀ v,Js e X.env v=pure v:=by intro _;rfl):VS c X (.For tg e body [] pos) (sForL te g t):=by
 refine⟨PS.mono (qaA7 hp R (qz0 hi.h) G.h Q.h I) λ E σ H J=>?_,λ s a0 k U=>hi.m _ _ _ _ _ (λ d n=>qa5 λ u=>Nl (qs0 G Q U u n)) U.xe⟩;obtain⟨F,k,A,s,S,l,q⟩:=J;refine⟨F,k,A,s.xe,S,l.xe,hi.m _ _ _ _ _ (λ d n q v H1 F1 T A1 V S1 o1 s1=>?_) (λ _ _ z=>z) q⟩;obtain⟨u,ey,hm,qf⟩:=qa7.mp q;obtain⟨z,rfl⟩:=qz5 ey;obtain⟨a,C,Ael,rfl,j,rs,_⟩:=V.lst_inv;have L:O0 F H A F1 H1 A1:=s1.count λ b=>by rw[zA0];lia
 refine⟨a,rfl,⟨C,.inl (.inl j)⟩,qaj9 (K:=X.K) (a:=a) (xs:=C) (λ i σ H=>∃ F k A,O1 c F H σ k A/\Lk c E F H A s/\Oy F H (.ref a) (.l z u) T/\H a=some (.l C)/\Ok F H (T++A)/\Dg g t s (u.drop i) k) ⟨F1,n,A1,S1,l.step L,V,j,o1,qf⟩ ?_ ?_ ?_⟩
 . rintro i σ H _ ⟨F,k,A,S,l,r,j,o,q⟩
   exact .inl (.inl j)
 . rintro i x σ H hx ⟨F,k,A,S,l,r,j,o,q⟩
   obtain⟨a',a1,Ael',ea,p,M,_⟩:=r.lst_inv;cases ea;rw[j] at p;cases p;obtain⟨y,B,W,Y⟩:=M.getV hx
   have:=Y.imm (qu0 hm W)
   subst this;rw[qm9 W] at q;refine qab6 G S l Y (λ N σ' H' F' A' q' S' O=>?_) q;have D:=O.kp S.ok S.loc.cells;have Z:∀ b∈T,¬ (A.count b≠0):=λ b hb R=>by
     have:=o.sep b
     rw[zA0] at this
     have:=qa8.mp hb
     lia
   have r':=r.keep D Z;obtain⟨o',_⟩:=O.frame o r.cells S'.ok;have P:H' a=some (.l C):=by
     cases r with
     | l h _=>exact D.fr _ _ j (Z _ zAf)
     | lstZ h f _=>exact D.fr _ _ j λ w=>D.wf _ w f
   exact⟨F',N,A',S',l.step O,r',P,o',q'⟩
 rintro σ H ⟨F,k,A,S,l,r,j,o,q⟩;rw[rs.len,L5] at q;exact l.nx _ _ _ _ _ q S O0.refl
noncomputable def Bp(lo:Int)(n:Nat):List D:=(Kz n).map λ(i:Nat)=>.int (lo+(i:Int))
theorem qad9(h:i < n):(Bp lo n)[i]? = some (.int (lo+(i:Int))):=by
 unfold Bp;rw[zB3,List.getElem?_range h];rfl
theorem qau5(lo:Int)(n:Nat):(Bp lo n).length=n:=by simp[Bp]
noncomputable def Fd(i:Int):Bool:=decide (-(2 ^ 62)<=i)&&decide (i < 2 ^ 62)
theorem qag6{i:Int}(h:Fd i=true):-(2 ^ 62)<=i/\i < 2 ^ 62:=by
 have:=zAh.mp h
 exact⟨zAe this.1,zAe this.2⟩
theorem qaP0{E:Dv}{en:VEnds}{F:γ->Prop}{H:Hp}{σ:St}{ds:Ds}{A:List γ}(d:VG c X tg g)(S:O1 c F H σ ds A)(l:Lk c E F H A en)(q:Dg g t en (Bp lo n) ds) :
   ∃ W:Nat->Nat->St->Hp->Prop,(∃ m,W 0 m σ H)/\∀ i m σ H,W i m σ H ->
     ((Itr lo n).stop i H/\E.nx σ H)∨((Itr lo n).go i H/\∃ N:St->Hp->Prop,(∀ σ' H',N σ' H'->∃ b,b < m/\W (i+1) b σ' H')/\∀ x H',(Itr lo n).yld i H x H'->Fi c g x σ H' λ σ2 H2=>Ey c t { E with nx:=N,ct:=N,bk:=E.nx } σ2 H2):=by
 refine qar3 (λ i σ H=>∃ F ds A,O1 c F H σ ds A/\Lk c E F H A en/\Dg g t en ((Bp lo n).drop i) ds) ⟨F,ds,A,S,l,q⟩ ?_ ?_
 . rintro i σ H e ⟨F,ds,A,S,l,q⟩
   rw[qm9 (qad9 e)] at q;exact qab6 d S l (.int _) (λ a σ' H' F' A' f S' h=>⟨F',a,A',S',l.step h,f⟩) q
 rintro σ H ⟨F,ds,A,S,l,q⟩;rw[Lj (by rw[qau5];exact zA2 _)] at q;exact l.nx _ _ _ _ _ q S O0.refl
noncomputable def Hm:Ds->Option Int
 | [.int j]=>some j
 | _=>none
theorem qav9{xs:Ds}{j:Int}(h:Hm xs=some j):xs=[.int j]:=by
 unfold Hm at h;split at h
 . cases h;rfl
 cases h
def I9(tr:VTA)(g:VTG)(t:VTS):VTS:=λ e ds=>tr ds (λ xs ds1=>orF (Hm xs) λ j=>Fd j=true/\Dg g t e (Bp 0 j.toNat) ds1) e.xe
theorem qJ2{tr:VTA}{p cpos:Pos}(s:PassesOwn (Kd X.prog X.w) X.A X.env X.xe)(hm:X.mg "range" = none)(d:VOs c X [a] tr)(e:VG c X tg g)(k:VSs c X body t)(f:Gl X "range" := by rfl)(u:Jp [a] X.env=[(false,eval a X.env)]:=by rfl)(x:X.calm=true:=by rfl) :
   VS c X (.For tg (.Call (.Name "range" p) [a] [] cpos) body [] pos) (I9 tr g t):=by
 refine⟨PS.mono (qaA7 s x (qT9 f hm d.h u) e.h k.h) λ E σ H i=>?_,λ n y o r=>d.m _ _ _ _ _ (λ B b=>qa5 λ j=>Nl (qs0 e k r _ b)) r.xe⟩;obtain⟨F,o,A,n,S,l,q⟩:=i;refine⟨F,o,A,n.xe,S,l.xe,d.m _ _ _ _ _ (λ B b q K H1 F1 T A1 C S1 D=>?_) (λ _ _ z=>z) q⟩;obtain⟨j,G,hm,I⟩:=qa7.mp q;cases qav9 G;obtain⟨v,rfl,J⟩:=C.one_inv;cases J
 have:=qag6 hm
 exact⟨j,rfl,this.1,this.2,qaP0 e S1 (l.step D) I⟩
def tFzV(te:VT):VT:=λ ds Q xe=>te ds (λ d ds1=>Q d.fz ds1) xe
theorem efzV(h:VE c X e te):VE c X e (tFzV te):=by
 refine⟨PE.mono h.h λ σ H Q a=>?_,λ i Q Q' j n o p=>h.m _ _ _ _ _ (λ d g=>o _ _) p⟩;obtain⟨F,i,A,j,S,x,q⟩:=a;refine⟨F,i,A,j,S,x,h.m _ _ _ _ _ (λ d g q v H1 F1 T A1 k S1 r s=>?_) (λ _ _ z=>z) q⟩;have t:=k.fz (F':=λ b=>F1 b∨b∈T) (λ b f=>.inl f) λ b u=>.inr u
 obtain⟨l,w⟩:=share (A:=T++A1) (B:=T) (C:=A1) r (λ b=>by rw[zA0]) k.cells (A':=A1) (λ b=>rfl);have L:=S1.loc.keep (Kp.more (H:=H1) λ b f=>Oo (b:=b∈T) f) λ _ _ z=>z
 exact q v H1 _ [] A1 t ⟨L,l,S1.len,S1.ag⟩ l (s.trans w)
end
def bk1(i:Nat)(p:List Nat)(w:V)(d0:D)(ds:Ds):Option Ds:=Ap [.pl i p w] [d0] ds
def G5(i:Nat)(p:List Nat)(w:V)(d0:D)(e:VEnds):VEnds where
 nx ds:=orF (bk1 i p w d0 ds) e.nx
 rt d ds:=orF (bk1 i p w d0 ds) (e.rt d)
 bk ds:=orF (bk1 i p w d0 ds) e.bk
 ct ds:=orF (bk1 i p w d0 ds) e.ct
 xe x ds:=orF (bk1 i p w d0 ds) (e.xe x)
section
variable{c:Vc}{X:Cx}{a b e tg o:Kj}{body:List Kk}{g:VTG}{t:VTS}{pos:Pos}{pf:PF}{F F1:γ->Prop}{H H1:Hp}{σ:St}{ds ds1:Ds}{A A1 B:List γ}{E:Dv}{en:VEnds}
theorem qr9{p:List Nat}{d0:D}{F':γ->Prop}{H':Hp}{a d:Ds}{A':List γ}(f:Ok F1 H1 (B++A1))(S1:O1 c F1 H1 σ ds1 A1)(r:Oy F1 H1 w d0 B)(S':O1 c F' H' σ' a A')(s':O0 F1 H1 A1 F' H' A')(h:bk1 i p w d0 a=some d) :
   ∃ A2,O1 c F' H' σ' d A2/\Ok F' H' (B++A')/\O0 F1 H1 (B++A1) F' H' (B++A')/\∀ b,A2.count b<=B.count b+A'.count b:=by
 obtain⟨g,j⟩:=s'.frame f r.cells S'.ok;have k:Oy F' H' w d0 B:=r.keep (s'.kp S1.ok S1.loc.cells) λ b l e=>by
   have:=f.sep b
   rw[zA0] at this
   have:=qa8.mp l
   lia
 obtain⟨A2,m,q2⟩:=qu9 (pls:=[.pl i p w]) (vs:=[w]) (more:=[]) (ys:=[d0]) (.so .nil) (.cons k .nil) S'.loc h;have e:∀ b,A2.count b<=B.count b+A'.count b:=λ b=>by have:=q2 b;simp only[zAd] at this;exact this
 exact⟨A2,⟨m,g.count λ b=>by rw[zA0];exact e b,S'.len,S'.ag⟩,g,j,e⟩
theorem Lk.lend{p:List Nat}{d0:D}(l:Lk c E F H A en)(k:O0 F H A F1 H1 (B++A1))(j:Ok F1 H1 (B++A1))(S1:O1 c F1 H1 σ ds1 A1)(r:Oy F1 H1 w d0 B):Lk c E F1 H1 A1 (G5 i p w d0 en) where
 nx ds' σ' H' F' A' q S' s':=by
   obtain⟨a,f,q⟩:=qa7.mp q;obtain⟨A2,S2,n,h,g⟩:=qr9 j S1 r S' s' f;exact l.nx _ _ _ _ A2 q S2 ((k.trans h).count λ b=>by rw[zA0];exact g b)
 bk ds' σ' H' F' A' q S' s':=by
   obtain⟨a,f,q⟩:=qa7.mp q;obtain⟨A2,S2,n,h,g⟩:=qr9 j S1 r S' s' f;exact l.bk _ _ _ _ A2 q S2 ((k.trans h).count λ b=>by rw[zA0];exact g b)
 ct ds' σ' H' F' A' q S' s':=by
   obtain⟨a,f,q⟩:=qa7.mp q;obtain⟨A2,S2,n,h,g⟩:=qr9 j S1 r S' s' f;exact l.ct _ _ _ _ A2 q S2 ((k.trans h).count λ b=>by rw[zA0];exact g b)
 xe x ds' σ' e H' F' A' q rx S' s':=by
   obtain⟨a,f,q⟩:=qa7.mp q;obtain⟨A2,S2,n,h,g⟩:=qr9 j S1 r S' s' f;exact l.xe x a σ' e H' F' A2 q rx S2 ((k.trans h).count λ b=>by rw[zA0];exact g b)
 rt d ds' v σ' H' F' T A' q rv S' oT s':=by
   obtain⟨a,f,q⟩:=qa7.mp q;have o:O0 F1 H1 A1 F' H' A':=s'.count λ b=>by rw[zA0];lia
   obtain⟨A2,S2,n,h,g⟩:=qr9 j S1 r S' o f;obtain⟨s,t⟩:=s'.frame j r.cells oT;have m:∀ b,(T++A2).count b<=(B++(T++A')).count b:=λ b=>by simp only[zA0];have:=g b;lia
   exact l.rt d a v σ' H' F' T A2 q rv S2 (s.count m) ((k.trans t).count m)
theorem qaM6{p:List Nat}{d0:D}{en a:VEnds}(b:en.Le a):(G5 i p w d0 en).Le (G5 i p w d0 a) :=
 ⟨λ c=>qa5 b.nx,λ d c=>qa5 (b.rt d),λ c=>qa5 b.bk,λ c=>qa5 b.ct,λ x c=>qa5 (b.xe x)⟩
structure Held(F:γ->Prop)(H:Hp)(a:γ)(vs:List V)(z:Bool)(ys:Ds)(T A:List γ):Prop where
 r:Oy F H (.ref a) (.l z ys) T
 h:H a=some (.l vs)
 o:Ok F H (T++A)
theorem Held.step{ys:Ds}{T:List γ}{a:γ}{F':γ->Prop}{H':Hp}{e:Ds}{A':List γ}(h:Held F H a vs z ys T A)(S:O1 c F H σ ds A)(S':O1 c F' H' σ' e A')(s':O0 F H A F' H' A'):Held F' H' a vs z ys T A':=by
 obtain⟨r,g,o⟩:=h;have d:=s'.kp S.ok S.loc.cells;have i:∀ b∈T,¬ (A.count b≠0):=λ b j k=>by
   have:=o.sep b
   rw[zA0] at this
   have:=qa8.mp j
   lia
 refine⟨r.keep d i,?_,(s'.frame o r.cells S'.ok).1⟩;cases r with
 | l h _=>exact d.fr _ _ g (i _ zAf)
 | lstZ h f _=>exact d.fr _ _ g λ w=>d.wf _ w f
theorem Held.get{ys:Ds}{T:List γ}{a:γ}{x:V}(h:Held F H a vs z ys T A)(hm:D.imms ys=true)(f:vs[i]? = some x):∃ y,ys[i]? = some y/\Oy F H x y []:=by
 obtain⟨k,g,Ael',j,b,c,_⟩:=h.r.lst_inv;cases j
 have:=h.h
 rw[b] at this;cases this;obtain⟨y,B,d,e⟩:=c.getV f
 have:=e.imm (qu0 hm d)
 subst this;exact⟨y,d,e⟩
theorem Held.len{ys:Ds}{T:List γ}{a:γ}(h:Held F H a vs z ys T A):vs.length=ys.length:=by
 obtain⟨f,d,Ael',e,b,c,_⟩:=h.r.lst_inv;cases e
 have:=h.h
 rw[b] at this;cases this;exact c.len
theorem qR6{K:No}{ys:Ds}{T:List γ}{a:γ}(j:VG c X tg g)(S:O1 c F H σ ds A)(l:Lk c E F H A en)(b:Held F H a vs z ys T A)(hm:D.imms ys=true)(q:Dg g t en ys ds) :
   ∃ W:Nat->Nat->St->Hp->Prop,(∃ m,W 0 m σ H)/\∀ i m σ H,W i m σ H ->
     ((Itl K a).stop i H/\E.nx σ H)∨((Itl K a).go i H/\∃ N:St->Hp->Prop,(∀ σ' H',N σ' H'->∃ e,e < m/\W (i+1) e σ' H')/\∀ x H',(Itl K a).yld i H x H'->Fi c g x σ H' λ σ2 H2=>Ey c t { E with nx:=N,ct:=N,bk:=E.nx } σ2 H2):=by
 refine qaj9 (xs:=vs) (λ i σ H=>∃ F ds A,O1 c F H σ ds A/\Lk c E F H A en/\Held F H a vs z ys T A/\Dg g t en (ys.drop i) ds) ⟨F,ds,A,S,l,b,q⟩ ?_ ?_ ?_
 . rintro i σ H _ ⟨F,ds,A,S,l,b,q⟩
   exact .inl (.inl b.h)
 . rintro i x σ H k ⟨F,ds,A,S,l,b,q⟩
   obtain⟨y,n,o⟩:=b.get hm k;rw[qm9 n] at q;exact qab6 j S l o (λ d σ' H' F' A' p S' f=>⟨F',d,A',S',l.step f,b.step S S' f,p⟩) q
 rintro σ H ⟨F,ds,A,S,l,b,q⟩;rw[b.len,L5] at q;exact l.nx _ _ _ _ _ q S O0.refl
def sForP(pf:PF)(g:VTG)(t:VTS):VTS:=λ e ds=>orF (pf ds) λ q=>orF (A9 ds q.1 q.2) λ d=>orF d.lstOf λ ys=>D.imms ys=true/\∀ w,Dg g t (G5 q.1 q.2 w d e) ys (Bf ds q.1 q.2 (.hole w))
theorem Ja(J:PassesOwn (Kd X.prog X.w) X.A X.env X.xe)(hi:VP c X o pf)(j:VG c X tg g)(y:VSs c X body t)(K:X.calm=true:=by rfl)(k:∀ v,Js o X.env v=pure v:=by intro _;rfl):VS c X (.For tg o body [] pos) (sForP pf g t):=by
 refine⟨PS.mono (qaA7 J K (qz0 hi.h) j.h y.h k) λ E σ H m=>?_,λ L M n N=>qa5 λ q=>qa5 λ d=>qa5 λ O=>Nl λ h w=>qs0 j y (qaM6 N) _ _ (h w)⟩;obtain⟨F,n,A,L,S,l,q⟩:=m;obtain⟨⟨i,p⟩,P,q⟩:=qa7.mp q;obtain⟨d,e2,q⟩:=qa7.mp q;obtain⟨O,Q,R,q⟩:=qa7.mp q;obtain⟨z,rfl⟩:=qz5 Q;refine⟨F,n,A,i,p,_,S,P,e2,D.noConfusion,λ u w H1 T U s=>?_⟩;obtain⟨B,C,r,G,V⟩:=(S.same s).place e2 D.noConfusion T U;obtain⟨A1,W,q2⟩:=V (.hole w) [] (Kp.same (F:=F) λ _ _ z=>z) (λ _ _ z=>z) (.hole w);have x:Ok F H1 (B++A1):=(S.same s).ok.count λ b=>by rw[zA0,q2,G];simp
 have Y:O0 F H A F H1 (B++A1):=⟨λ b o e _=>s b o e,λ b o e z=>by rw[zA0,q2];have:=G b;simp;lia,λ _ f=>f,λ _ _ _ _ f=>f⟩
 have S1:O1 c F H1 σ (Bf n i p (.hole w)) A1:=⟨W,x.right,S.len,S.ag⟩
 obtain⟨a,Z,Ael,rfl,I,rs,_⟩:=r.lst_inv;exact⟨a,rfl,⟨Z,.inl (.inl I)⟩,qR6 j S1 (l.lend Y x S1 r) ⟨r,I,x⟩ R (q _)⟩
noncomputable def enD(ys:Ds):List D:=ys.zipIdx.map λ p=>.q [.int (p.2:Int),p.1]
theorem qaX9{ys:Ds}{y:D}(h:ys[i]? = some y):(enD ys)[i]? = some (.q [.int (i:Int),y]):=by
 unfold enD;rw[zB3,List.getElem?_zipIdx,h];simp
theorem qaF0(ys:Ds):(enD ys).length=ys.length:=by simp[enD]
end
noncomputable def fin(W:Nat->Bool):Nat->Ds->Ds->Ds
 | k,d::r,d'::r'=>(if W k=true then d' else d)::fin W (k+1) r r'
 | _,_,_=>[]
noncomputable def Gi(W:Nat->Bool):Nat->Ds->Bool
 | _,[]=>true
 | k,d::r=>(W k||d.imm)&&Gi W (k+1) r
def qar9(W:Nat->Bool)(ds:Ds)(Q:DK)(xe:XKd):VEnds where
 nx ds':=Q .non (fin W 0 ds ds')
 rt d ds':=Q d (fin W 0 ds ds')
 bk _:=False
 ct _:=False
 xe x ds':=xe x (fin W 0 ds ds')
section
variable{F F':γ->Prop}{H H':Hp}
theorem qaX2{W:Nat->Bool}{Wr:γ->Prop}(q:Kp F H Wr F' H'):∀{vs:List V}{ds:Ds}{A:List γ}{k:Nat}{w':List (Option V)}{a:Ds}{A':List γ},Os F H vs ds A->Gi W k ds=true->Locs F' H' w' a A'->vs.length<=w'.length->(∀ i,i < vs.length->W (k+i)=true->w'[i]? = (vs.map some)[i]?) ->
   ∃ A2,Os F' H' vs (fin W k ds a) A2/\∀ b,A2.count b<=A'.count b:=by
 intro vs
 induction vs with
 | nil =>
   intro ds A k w' a A' r g L n l;cases r;exact⟨[],by cases a<;>exact .nil,λ b=>by simp⟩
 | cons v vs s =>
   intro ds A k w' a A' r g L n l;cases r with
   | @cons _ d B _ ds B2 r1 t =>
     have g:=zAh.mp g;have step:∀{σ2:List (Option V)}{f:Ds}{A2:List γ}(o:Option V),w'=o::σ2->Locs F' H' σ2 f A2->∃ A3,Os F' H' vs (fin W (k+1) ds f) A3/\∀ b,A3.count b<=A2.count b:=λ{σ2 f A2} o e L2=>by
       subst e;refine s t g.2 L2 (by simpa using n) λ i j c=>?_
       have:=l (i+1) (by simpa using j) (by rw[<- c];congr 1;lia)
       simpa using this
     cases L with
     | nil=>simp at n
     | no L2 =>
       obtain⟨A3,m,q2⟩:=step none rfl L2;by_cases c:W k=true
       . have:=l 0 (by simp) (by simpa using c)
         simp at this
       have j:d.imm=true:=by
         rcases Bool.or_eq_true_iff.mp g.1 with h | h
         . exact absurd h c
         exact h
       have:=r1.imm j
       subst this;refine⟨[]++A3,?_,λ b=>by simpa using q2 b⟩;show Os F' H' (v::vs) ((if W k=true then _ else d)::_) _;rw[if_neg c];exact .cons (r1.keep q λ b p=>by cases p) m
     | @so v' d' B' σ2 f A2 rr L2 =>
       obtain⟨A3,m,q2⟩:=step (some v') rfl L2;by_cases c:W k=true
       . have:=l 0 (by simp) (by simpa using c)
         simp at this;subst this;refine⟨B'++A3,?_,λ b=>by simp only[zA0];have:=q2 b;lia⟩;show Os F' H' (v'::vs) ((if W k=true then d' else d)::_) _;rw[if_pos c];exact .cons rr m
       have j:d.imm=true:=by
         rcases Bool.or_eq_true_iff.mp g.1 with h | h
         . exact absurd h c
         exact h
       have:=r1.imm j
       subst this;refine⟨[]++A3,?_,λ b=>by simp only[zB5,zA0];have:=q2 b;lia⟩;show Os F' H' (v::vs) ((if W k=true then d' else d)::_) _;rw[if_neg c];exact .cons (r1.keep q λ b p=>by cases p) m
theorem Os.locs{ds:Ds}{A:List γ}(r:Os F H vs ds A):Locs F H (vs.map some) ds A:=by
 induction vs generalizing ds A with
 | nil=>cases r;exact .nil
 | cons v vs a=>cases r with | cons h t=>exact .so h (a t)
theorem qG7:∀ n:Nat,Locs F H (Ky n none) (Ky n .u) []
 | 0=>.nil
 | n+1=>.no (qG7 n)
end
structure FunE(K:No)(x qual:Str)(st:Kk)(f:γ)(fd:ε):Prop where
 ex:∃(oc:V')(od:Option γ)(dV kV doc pm:V')(an:Option γ)(cdv ct:V')(osl:Array (Option V')),
   fd=W.fnOf x qual (qe9 st) (qd0 st) (qa3 st) dV kV doc pm an cdv ct/\K.lookup f=some ⟨oc,od,.func fd,osl⟩/\W.codeIn K cdv qual=true
theorem FunE.of{K:No}{x qual:Str}{st:Kk}{f:γ}{fd:ε}(F:Fun K x qual st f fd):FunE K x qual st f fd :=
 by obtain⟨g,h,kV,a,i,j,b,k,c,e,l,d⟩:=F.ex;exact⟨⟨g,h,.none,kV,a,i,j,b,k,c,e,l,d⟩⟩
theorem FunE.okX{P:Ke}{w:Ki}{K:No}{x qual:Str}{st:Kk}{f:γ}{fd:ε}{ps:List Str}{k:Nat}{sp:Sp}(F:FunE K x qual st f fd)(S:qa9 N ps (qa3 st))(len:∀ vs H Q E,sp vs H Q E->vs.length=ps.length)(hbody:∀(a:V')(A:Kf)(outer:List Env)(s:δ)(H:Hp)(vs:List V)(Q:VK)(E:XK),O2 cm k (A.deeper (PyProof.Rows.envOfC qual (qa3 st) s.heap.objs.size f a))->sp vs H Q E ->
     ∃ t,PSs (Dx cm (CX1 P w) P w K mg base N qual (qa3 st) f a A outer s H E) (qd0 st) t/\t { nx:=λ _ H'=>Q .non H',rt:=Q } (L2.start N vs) H):Dn cm P w K mg base (CX1 P w) (k+1) f fd ps sp:=by
 obtain⟨i,j,l,kV,d,m,n,a,o,e,rfl,g,b⟩:=F.ex;exact Hy g b S len λ A outer s H vs Q E h c=>hbody a A outer s H vs Q E h c
theorem VFn.mkE{P:Ke}{w:Ki}{K:No}{x qual:Str}{st:Kk}{f:γ}{fd:ε}{ps:List Str}{k:Nat}{s:VSp}(Fu:FunE K x qual st f fd)(Sc:qa9 N ps (qa3 st))(W:Nat->Bool)(G:Bn s)(j:∀ ds Q xe,s ds Q xe->ds.length=ps.length)(n:∀ ds Q xe,s ds Q xe->Gi W 0 ds=true)(hbody:∀(g:V')(A:Kf)(outer:List Env)(B:δ)(H:Hp)(E:XK)(av:List (Option V)),O2 cm k (A.deeper (PyProof.Rows.envOfC qual (qa3 st) B.heap.objs.size f g)) ->
     ∃ t,VSs ⟨λ _=>E,W,av,[]⟩ (Dx cm (CX1 P w) P w K mg base N qual (qa3 st) f g A outer B H E) (qd0 st) t/\∀ ds Q xe,s ds Q xe->t (qar9 W ds Q xe) (ds++Ky (N.length - ds.length) .u)) :
   Ex cm P w K mg base (k+1) f fd ps s:=by
 refine⟨Fu.okX Sc (λ l H Q E ⟨F,ds,A,r,o,h⟩=>by rw[r.len];exact j _ _ _ h) λ g Ar outer B H l Q E I C=>?_,G⟩;obtain⟨F,ds,A,r,o,h⟩:=C;obtain⟨t,J,L⟩:=hbody g Ar outer B H E (L2.start N l) I;have X:=j _ _ _ h;have M:=n _ _ _ h;have Y:ps.length<=N.length:=by have:=congrArg K5 Sc.pre;rw[zBk] at this;lia
 have L0:Locs F H (L2.start N l++[]) (ds++Ky (N.length - ds.length) .u) A:=by
   rw[zAd];unfold L2.start;rw[r.len]
   have:=r.locs.append (qG7 (F:=F) (H:=H) (N.length - ds.length))
   rwa[zAd] at this
 have S0:O1 ⟨λ _=>E,W,L2.start N l,[]⟩ F H (L2.start N l) (ds++Ky (N.length - ds.length) .u) A:=⟨L0,o,by simp,λ i _=>by simp⟩
 have m:∀{Z':St}{H':Hp}{F':γ->Prop}{a:Ds}{A' A2:List γ},O1 ⟨λ _=>E,W,L2.start N l,[]⟩ F' H' Z' a A'->O0 F H A F' H' A2->∃ A3,Os F' H' l (fin W 0 ds a) A3/\∀ b,A3.count b<=A'.count b:=λ{Z' H' F' a A' A2} S' c=>by
   have hlen':=S'.len;simp only[zAd] at hlen';refine qaX2 (c.kp o r.cells) r M (by have:=S'.loc;simpa using this) ?_ λ i D O=>?_
   . rw[<- hlen'];unfold L2.start;simp
   have:=S'.ag i (by simpa using O)
   simp only[zAd] at this;rw[this];show (L2.start N l)[i]? = _;unfold L2.start;rw[zAp (by simpa using D)]
 refine⟨_,J.h,F,_,A,qar9 W ds _ _,S0,⟨?_,?_,λ _ _ _ _ _ z=>Om z,λ _ _ _ _ _ z=>Om z,?_⟩,L _ _ _ h⟩
 . intro a Z' H' F' A' q S' c
   obtain⟨A3,p,q2⟩:=m S' c;have u:∀ b,([]++A3).count b<=A'.count b:=λ b=>by simpa using q2 b
   exact q .non H' F' [] A3 .non p (S'.ok.count u) (c.count u)
 . intro d a v Z' H' F' T A' q R S' S c
   obtain⟨A3,p,q2⟩:=m S' c;have u:∀ b,(T++A3).count b<=(T++A').count b:=λ b=>by simp only[zA0];have:=q2 b;lia
   exact q v H' F' T A3 R p (S.count u) (c.count u)
 intro y a Z' e H' F' A' q U S' c;obtain⟨A3,p,q2⟩:=m S' c;exact q e H' F' A3 U p (S'.ok.count q2) (c.count q2)
theorem VFn.mk'{P:Ke}{w:Ki}{K:No}{x qual:Str}{st:Kk}{f:γ}{fd:ε}{ps:List Str}{k:Nat}{s:VSp}(Fu:Fun K x qual st f fd)(Sc:qa9 N ps (qa3 st))(W:Nat->Bool)(e:Bn s)(a:∀ ds Q xe,s ds Q xe->ds.length=ps.length)(b:∀ ds Q xe,s ds Q xe->Gi W 0 ds=true)(hbody:∀(c:V')(A:Kf)(outer:List Env)(d:δ)(H:Hp)(E:XK)(av:List (Option V)),O2 cm k (A.deeper (PyProof.Rows.envOfC qual (qa3 st) d.heap.objs.size f c)) ->
     ∃ t,VSs ⟨λ _=>E,W,av,[]⟩ (Dx cm (CX1 P w) P w K mg base N qual (qa3 st) f c A outer d H E) (qd0 st) t/\∀ ds Q xe,s ds Q xe->t (qar9 W ds Q xe) (ds++Ky (N.length - ds.length) .u)) :
   Ex cm P w K mg base (k+1) f fd ps s:=VFn.mkE (FunE.of Fu) Sc W e a b hbody
def Bq:List (Option Nat)->Ds->Ds×Ds
 | [],ds=>([],ds)
 | none::r,ds=>(.u::(Bq r ds).1,(Bq r ds).2)
 | some j::r,ds=>((ds[j]?).getD .u::(Bq r (ds.set j .u)).1,(Bq r (ds.set j .u)).2)
def E2:List (Option Nat)->Ds->Ds->Ds
 | none::r,_::i,o=>E2 r i o
 | some j::r,d::i,o=>E2 r i (o.set j d)
 | _,_,o=>o
def Ef(g:VTG)(qf:VTT)(te:VT)(K:Ds->Ds->Prop):List D->Ds->Ds->Prop
 | [],acc,a=>K acc a
 | x::xs,acc,a=>g x a λ ι1=>qf ι1 (λ b ι2=>if b=true then te ι2 (λ d ι3=>acc.length < big/\Ef g qf te K xs (acc++[d]) ι3) (λ _ _=>False) else Ef g qf te K xs acc ι2) (λ _ _=>False)
noncomputable def capW(src:List (Option Nat)):Nat->Bool:=λ i=>match src[i]? with | some (some _)=>true | _=>false
abbrev cIn(src:List (Option Nat))(av:List (Option V)):Vc:=⟨λ _ _ _ _=>False,capW src,av,[]⟩
structure VF(c:Vc)(X:Cx)(ifs:List Kj)(t:VTT):Prop where
 h:PFs X ifs (Dq c t)
 m:∀ ds (Q Q':Bool->Ds->Prop) (xe xe':XKd),(∀ d ds',Q d ds'->Q' d ds')->(∀ x ds',xe x ds'->xe' x ds')->t ds Q xe->t ds Q' xe'
def qYes:VTT:=λ ds Q _=>Q true ds
theorem Fk{c:Vc}{X:Cx}:VF c X [] qYes:=⟨λ D6 s f H Q I ⟨F,a,A,b,S,x,q⟩=>qaJ9 D6 s f H Q I (q H F A S O0.refl),λ a Q Q' b d e _=>e _ _⟩
theorem Fl{c:Vc}{X:Cx}{e:Kj}{t:VTT}(h:VTe c X e t):VF c X [e] t:=⟨qaS8 h.h,h.m⟩
section
variable{F F':γ->Prop}{H H':Hp}
theorem qab9:∀{src:List (Option Nat)}{J a:List (Option V)}{ds:Ds}{A:List γ},Locs F H (J++a) ds A->(∀ j,some j∈src->j < J.length) ->
   ∃ Ai Ao,Locs F H (pick J src) (Bq src ds).1 Ai/\Locs F H (J++a) (Bq src ds).2 Ao/\∀ b,A.count b=Ai.count b+Ao.count b
 | [],J,a,ds,A,L,_=>⟨[],A,.nil,L,λ b=>by simp⟩
 | none::r,J,a,ds,A,L,h=>by
   obtain⟨Ai,Ao,f,q2,g⟩:=qab9 (src:=r) L λ j c=>h j (zA7 _ c)
   exact⟨Ai,Ao,.no f,q2,g⟩
 | some j::r,J,a,ds,A,L,h=>by
   have c:=h j zAf;have t:=L.len;rw[zA6] at t;obtain⟨z,e⟩:∃ d,ds[j]? = some d:=⟨_,zAw (by lia)⟩
   obtain⟨σ1,o,σ2,i,k,A1,B,A2,m,e2,u,w,x,n,p,q⟩:=L.split e;have s:(J++a)[j]? = some o:=by rw[m];exact qA0 u
   rw[zAp c] at s;have y:ds.set j .u=i++.u::k:=by
     have:=congrArg (λ l=>l.set j .u) e2
     rw[this,qo0 w]
   have L':Locs F H (J++a) (ds.set j .u) (A1++A2):=by
     rw[m,y];cases p with
     | no=>exact n.append (.no q)
     | @so v _ _ _=>exact n.append (.so (B:=[]) (.u v) q)
   obtain⟨Ai,Ao,f,q2,g⟩:=qab9 (src:=r) L' λ j c=>h j (zA7 _ c)
   refine⟨B++Ai,Ao,?_,q2,λ b=>by rw[x];have:=g b;simp only[zA0] at *;lia⟩;show Locs F H (((J[j]?).getD none)::pick J r) ((ds[j]?).getD .u::_) _;rw[s,e];exact Locs.cons p f
theorem qL4:∀{src:List (Option Nat)}{J c J':List (Option V)}{K o:Ds}{Ai Ao:List γ},Locs F H J' K Ai->Locs F H (J++c) o Ao->(∀ j,some j∈src->j < J.length)->(∀(i j:Nat),src[i]? = some (some j)->J'[i]? = some ((J[j]?).getD none))->J'.length=src.length ->
   ∃ A',Locs F H (J++c) (E2 src K o) A'/\∀ b,A'.count b<=Ai.count b+Ao.count b
 | [],J,c,J',K,o,Ai,Ao,L,Lo,_,_,_=>⟨Ao,by cases K<;>exact Lo,λ b=>by lia⟩
 | none::r,J,c,J',K,o,Ai,Ao,L,Lo,h,k,f=>by
   cases L with
   | nil=>simp at f
   | no L2 =>
     obtain⟨A',g,q2⟩:=qL4 (src:=r) L2 Lo (λ j a=>h j (zA7 _ a)) (λ i j e=>by simpa using k (i+1) j (by simpa using e)) (by simpa using f);exact⟨A',g,q2⟩
   | so w L2 =>
     obtain⟨A',g,q2⟩:=qL4 (src:=r) L2 Lo (λ j a=>h j (zA7 _ a)) (λ i j e=>by simpa using k (i+1) j (by simpa using e)) (by simpa using f);exact⟨A',g,λ b=>by rw[zA0];have:=q2 b;lia⟩
 | some j::r,J,c,J',K,o,Ai,Ao,L,Lo,h,k,f=>by
   have a:=h j zAf;have m:=Lo.len;rw[zA6] at m;obtain⟨G,n⟩:∃ d,o[j]? = some d:=⟨_,zAw (by lia)⟩
   obtain⟨σ1,p,σ2,q,s,A1,B,A2,t,e2,D,E,x,y,I,z⟩:=Lo.split n;have A:(J++c)[j]? = some p:=by rw[t];exact qA0 D
   rw[zAp a] at A;have u:=k 0 j rfl;rw[A] at u;have C:∀ d,o.set j d=q++d::s:=λ d=>by
     have:=congrArg (λ l=>l.set j d) e2
     rw[this,qo0 E]
   cases L with
   | nil=>simp at f
   | no L2 =>
     have:p=none:=by simpa using u.symm
     subst this;have Lo':Locs F H (J++c) (o.set j .u) (A1++A2):=by rw[t,C];exact y.append (.no z)
     obtain⟨A',g,q2⟩:=qL4 (src:=r) L2 Lo' (λ j a=>h j (zA7 _ a)) (λ i j e=>by simpa using k (i+1) j (by simpa using e)) (by simpa using f);exact⟨A',g,λ b=>by rw[x];have:=q2 b;simp only[zA0] at *;lia⟩
   | @so v d Bv _ _ _ w L2 =>
     have:p=some v:=by simpa using u.symm
     subst this;have Lo':Locs F H (J++c) (o.set j d) (A1++(Bv++A2)):=by rw[t,C];exact y.append (.so w z)
     obtain⟨A',g,q2⟩:=qL4 (src:=r) L2 Lo' (λ j a=>h j (zA7 _ a)) (λ i j e=>by simpa using k (i+1) j (by simpa using e)) (by simpa using f);exact⟨A',g,λ b=>by rw[x];have:=q2 b;simp only[zA0] at *;lia⟩
theorem qaA9(J:St)(src:List (Option Nat)):(pick J src).length=src.length:=by simp[pick]
theorem qaB0{J:St}{src:List (Option Nat)}(h:src[i]? = some (some j)):(pick J src)[i]? = some ((J[j]?).getD none):=by
 unfold pick;rw[zB3,h];rfl
structure Hn(Pp:(γ->Prop)->Hp->Prop)(T:List γ):Prop where
 keep:∀{F F':γ->Prop}{H H':Hp}{W:γ->Prop},Kp F H W F' H'->(∀ b∈T,¬ W b)->Pp F H->Pp F' H'
 cells:∀{F:γ->Prop}{H:Hp},Pp F H->∀ b∈T,∃ o,H b=some o/\D8 o=true
end
section
variable{c:Vc}{F F':γ->Prop}{H H':Hp}{M:(γ->Prop)->Hp->Prop}{G:List (Option V)}{o:Ds}{I:γ}{J:Ds}{T A A' K:List γ}{E:St}{ds:Ds}
noncomputable def Tot(B T Ao A:List γ):List γ:=B++(T++(Ao++A))
theorem qw3(st:Hn M T){B:List γ}(r:Oy F H (.ref I) (.l false J) B)(g:M F H)(L:Locs F H G o Ao)(h:Ok F H (Tot B T Ao A))(S:O1 c F H E ds A)(s:O0 F H A F' H' A')(o':Ok F' H' A') :
   Oy F' H' (.ref I) (.l false J) B/\M F' H'/\Locs F' H' G o Ao/\Ok F' H' (Tot B T Ao A')/\O0 F H (Tot B T Ao A) F' H' (Tot B T Ao A'):=by
 unfold Tot at *
 have f:=s.kp S.ok S.loc.cells;have i:∀ b,(B++(T++(Ao++A))).count b=((B++(T++Ao))++A).count b:=λ b=>by simp only[zA0];lia
 have d:∀ b,b∈B∨b∈T∨b∈Ao->¬ (A.count b≠0):=λ b a j=>by
   have:=h.sep b
   simp only[zA0] at this;rcases a with a | a | a<;>have:=qa8.mp a<;>lia
 have k:∀ b∈B++(T++Ao),∃ o,H b=some o/\D8 o=true:=λ b a=>by
   rcases zA8.mp a with a | a
   . exact r.cells b a
   rcases zA8.mp a with a | a
   . exact st.cells g b a
   exact L.cells b a
 obtain⟨l,m⟩:=s.frame (T:=B++(T++Ao)) (h.count λ b=>by rw[i];exact zA2 _) k o';have e:∀ b,(B++(T++(Ao++A'))).count b=((B++(T++Ao))++A').count b:=λ b=>by simp only[zA0];lia
 exact⟨r.keep f λ b a=>d b (.inl a),st.keep f (λ b a=>d b (.inr (.inl a))) g,L.keep f λ b a=>d b (.inr (.inr a)),l.count λ b=>by rw[e];exact zA2 _,(m.pre λ b=>by rw[i]).count λ b=>by rw[e];exact zA2 _⟩
theorem qaB7(st:Hn M T){B:List γ}{d:D}(r:Oy F H (.ref I) (.l false J) B)(p:M F H)(L:Locs F H G o Ao)(S:O1 c F H E ds A)(q:Oy F H v d K)(h:Ok F H (Tot B T Ao (K++A))) :
   ∃ vs B',H I=some (.l vs)/\vs.length=J.length/\Oy F (upd H I (.l (vs++[v]))) (.ref I) (.l false (J++[d])) B'/\M F (upd H I (.l (vs++[v])))/\Locs F (upd H I (.l (vs++[v]))) G o Ao/\O1 c F (upd H I (.l (vs++[v]))) E ds A/\Ok F (upd H I (.l (vs++[v]))) (Tot B' T Ao A)/\O0 F H (Tot B T Ao (K++A)) F (upd H I (.l (vs++[v]))) (Tot B' T Ao A):=by
 unfold Tot at *
 obtain⟨a,vs,Ael,s,j,l,rfl⟩:=qG5 r;cases s;have t:=h.sep I;simp only[zA0,zAn,zBd,if_true] at t;have m:¬ F I:=λ f=>by have:=h.fro I f;simp only[zA0,zAn,zBd,if_true] at this;lia
 have k:=qN2 (F:=F) (o':=.l (vs++[v])) j rfl m;have i:∀ X:List γ,X.count I=0->∀ b∈X,¬ b=I:=λ X y b C w=>by subst w;exact(qa8.mp C) y
 have g:∀ b,(I::(Ael++(K++[]))++(T++(Ao++A))).count b<=(I::Ael++(T++(Ao++(K++A)))).count b:=λ b=>by simp only[zA0,zAn,Lf];lia
 have n:∀ b,F b->∃ o,upd H I (.l (vs++[v])) b=some o:=λ b f=>by
   obtain⟨x,e⟩:=h.ex b f;exact⟨x,by rw[qd1 (show b≠I from λ w=>m (w ▸ f))];exact e⟩
 refine⟨vs,I::(Ael++(K++[])),j,l.len,?_,st.keep k (i T (by lia)) p,L.keep k (i Ao (by lia)),⟨S.loc.keep k (i A (by lia)),⟨S.ok.sep,S.ok.fro,n⟩,S.len,S.ag⟩,⟨λ b=>zAj (g b) (h.sep b),λ b f=>by have:=h.fro b f;have:=g b;lia,n⟩,λ b u e z=>?_,λ b u e z=>by have:=g b;lia,λ _ f=>f,λ _ _ _ _ f=>f⟩
 . exact .l qc1 ((l.append (.cons q .nil)).keep k (i _ (by simp only[zA0,Lf];lia)))
 rw[qd1 λ w=>?_]
 . exact e
 subst w;simp only[zA0,zAn,zBd,if_true] at z;lia
end
def qp8(src:List (Option Nat))(g:VTG):TG:=λ v a H Q=>∃ av,Fi (cIn src av) g v a H Q
def qp7(src:List (Option Nat))(q:VTT):TT:=λ a H Q=>∃ av,Dq (cIn src av) q a H Q
def Bo(src:List (Option Nat))(t:VT):TE:=λ a H Q=>∃ av,Bh (cIn src av) t a H Q
structure Blk(X:Cx)(NY:List Str)(sc:Scope)(src:List (Option Nat))(tg:Kj)(ifs:List Kj)(elt:Kj)(g:VTG)(qf:VTT)(te:VT):Prop where
 g:∀ av C s0 H0 ex,VG (cIn src av) (qj2 X NY sc C s0 H0 ex) tg g
 f:∀ av C s0 H0 ex,VF (cIn src av) (qj2 X NY sc C s0 H0 ex) ifs qf
 e:∀ av C s0 H0 ex,VE (cIn src av) (qj2 X NY sc C s0 H0 ex) elt te
 lt:∀ D6 a H s,Oz X D6 a H s->∀ j,some j∈src->j < a.length
section
variable{c:Vc}{X:Cx}{NY:List Str}{sc:Scope}{src:List (Option Nat)}{tg elt e:Kj}{ifs:List Kj}{g:VTG}{qf:VTT}{te:VT}
theorem Blk.pg(b:Blk X NY sc src tg ifs elt g qf te):∀ C a H0 ex,PG (qj2 X NY sc C a H0 ex) tg (qp8 src g):=λ C a H0 ex D6 s Y H v u Q I r ⟨c,q⟩=>(b.g c C a H0 ex).h D6 s Y H v u Q I r q
theorem Blk.pf(b:Blk X NY sc src tg ifs elt g qf te):∀ C a H0 ex,PFs (qj2 X NY sc C a H0 ex) ifs (qp7 src qf):=λ C a H0 ex D6 s Y H Q I ⟨c,q⟩=>(b.f c C a H0 ex).h D6 s Y H Q I q
theorem Blk.pe(b:Blk X NY sc src tg ifs elt g qf te):∀ C a H0 ex,PE (qj2 X NY sc C a H0 ex) elt (Bo src te):=λ C a H0 ex D6 s Y H Q I ⟨c,q⟩=>(b.e c C a H0 ex).h D6 s Y H Q I q
theorem Blk.gm(b:Blk X NY sc src tg ifs elt g qf te):∀ d ds (Q Q':Ds->Prop),(∀ a,Q a->Q' a)->g d ds Q->g d ds Q':=(b.g [] 0 {} (λ _=>none) []).m
theorem Blk.fm(b:Blk X NY sc src tg ifs elt g qf te):∀ ds (Q Q':Bool->Ds->Prop) (xe c:XKd),(∀ d a,Q d a->Q' d a)->(∀ x a,xe x a->c x a)->qf ds Q xe->qf ds Q' c:=(b.f [] 0 {} (λ _=>none) []).m
theorem Blk.em(b:Blk X NY sc src tg ifs elt g qf te):∀ ds (Q Q':DK) (xe c:XKd),(∀ d a,Q d a->Q' d a)->(∀ x a,xe x a->c x a)->te ds Q xe->te ds Q' c:=(b.e [] 0 {} (λ _=>none) []).m
theorem qk6(b:Blk X NY sc src tg ifs elt g qf te){K K':Ds->Ds->Prop}(h:∀ acc Z,K acc Z->K' acc Z):∀(xs:List D) acc Z,Ef g qf te K xs acc Z->Ef g qf te K' xs acc Z
 | [],acc,Z=>h acc Z
 | x::xs,acc,Z=>b.gm _ _ _ _ λ ι1=>b.fm _ _ _ _ _ (λ k ι2=>qE0 (b.em _ _ _ _ _ (λ d ι3=>Nl (qk6 b h xs _ _)) λ _ _ z=>z) (qk6 b h xs _ _)) λ _ _ z=>z
variable{F F0:γ->Prop}{H H0:Hp}{Pp:(γ->Prop)->Hp->Prop}{τ:List (Option V)}{o0:Ds}{Dd:γ}{acc:Ds}{T A A0:List γ}{Y:St}{ds Z:Ds}{av:List (Option V)}{K:Ds->Ds->Prop}
def Mid(src:List (Option Nat))(av:List (Option V))(Pp:(γ->Prop)->Hp->Prop)(T:List γ)(τ:List (Option V))(o0:Ds)(Dd:γ)(F0:γ->Prop)(H0:Hp)(A0:List γ)(g:VTG)(qf:VTT)(te:VT)(K:Ds->Ds->Prop)(xs:List D)(Y:St)(H:Hp):Prop :=
 ∃ F Z A acc B Ao,O1 (cIn src av) F H Y Z A/\Oy F H (.ref Dd) (.l false acc) B/\Pp F H/\Locs F H τ o0 Ao/\Ok F H (Tot B T Ao A)/\O0 F0 H0 A0 F H (Tot B T Ao A)/\Ef g qf te K xs acc Z
theorem qH6(b:Blk X NY sc src tg ifs elt g qf te)(st:Hn Pp T){B:List γ}{x:V}{y:D}{xs:List D}(S:O1 (cIn src av) F H Y Z A)(r:Oy F H (.ref Dd) (.l false acc) B)(t:Pp F H)(L:Locs F H τ o0 Ao)(u:Ok F H (Tot B T Ao A))(p:O0 F0 H0 A0 F H (Tot B T Ao A))(w:Oy F H x y [])(q:Ef g qf te K (y::xs) acc Z) :
   qp8 src g x Y H λ σ2 H2=>qp7 src qf σ2 H2 λ h H3=>if h=true then Bo src te σ2 H3 λ v H4=>∃ ys,H4 Dd=some (.l ys)/\ys.length < Jq/\Mid src av Pp T τ o0 Dd F0 H0 A0 g qf te K xs σ2 (upd H4 Dd (.l (ys++[v]))) else Mid src av Pp T τ o0 Dd F0 H0 A0 g qf te K xs σ2 H3:=by
 have a:∀(F:γ->Prop)(H:Hp)(A:List γ),Xc (cIn src av) (λ _ _=>False) F H A:=λ F H A x C Y' e H' F' A' z=>z.elim
 refine⟨av,F,Z,A,[],y,w,S,S.ok,b.gm _ _ _ _ (λ ι1 q σ1 H1 F1 A1 S1 E=>?_) q⟩;obtain⟨G,i,L1,j,t1⟩:=qw3 st r t L u S (show O0 F H A F1 H1 A1 from E) S1.ok;refine⟨av,F1,ι1,A1,_,S1,a _ _ _,b.fm _ _ _ _ _ (λ k ι2 q H2 F2 A2 S2 I=>?_) (λ _ _ z=>z) q⟩;obtain⟨s,c,L2,f,t2⟩:=qw3 st G i L1 j S1 I S2.ok;cases k with
 | false =>
   rw[if_neg (by decide)] at q ⊢;exact⟨F2,ι2,A2,acc,B,Ao,S2,s,c,L2,f,(p.trans t1).trans t2,q⟩
 | true =>
   rw[if_pos rfl] at q ⊢;refine⟨av,F2,ι2,A2,_,S2,a _ _ _,b.em _ _ _ _ _ (λ d ι3 q v H3 F3 Tv A3 J S3 M N=>?_) (λ _ _ z=>z) q⟩;obtain⟨O,l,L3,m,P⟩:=qw3 st s c L2 f S2 N M;obtain⟨Q,B',R,e2,U,n,L4,S4,o,W⟩:=qaB7 st O l L3 S3 J m;exact⟨Q,R,by rw[e2];exact zAi q.1 qi4,F3,ι3,A3,acc++[d],B',Ao,S4,U,n,L4,o,((p.trans t1).trans t2).trans (P.trans W),q.2⟩
theorem qH7{xs:List D}(f:∀ j,some j∈src->j < Y.length)(S:O1 c F H Y ds A)(n:Ok F H (T++A))(l:Pp F H)(st:Hn Pp T)(h:H Dd=none)(q:Ef g qf te K xs [] (Bq src ds).1) :
   Mid src (pick Y src) Pp T (Y++c.gv) (Bq src ds).2 Dd F H (T++A) g qf te K xs (pick Y src) (upd H Dd (.l [])):=by
 obtain⟨Ai,Ao,o,q2,p⟩:=qab9 S.loc f;have a:=Same.new (u:=.l []) h;have r:=Kp.same (F:=F) a;have okN:Ok F (upd H Dd (.l [])) ([Dd]++(T++A)):=(qh1 h).ok n (λ b d=>by
   rcases zA8.mp d with d | d
   . exact st.cells l b d
   exact S.loc.cells b d) a
 have m:∀ b,(Tot [Dd] T Ao Ai).count b=([Dd]++(T++A)).count b:=λ b=>by unfold Tot;simp only[zA0,p];lia
 have e:Ok F (upd H Dd (.l [])) (Tot [Dd] T Ao Ai):=okN.count λ b=>by rw[m];exact zA2 _
 have k:Ok F (upd H Dd (.l [])) Ai:=e.count λ b=>by unfold Tot;simp only[zA0];lia
 refine⟨F,_,Ai,[],[Dd],Ao,⟨by rw[zAd];exact o.same a,k,by simp,λ i _=>by simp⟩,.l qc1 .nil,st.keep r (λ _ _=>id) l,q2.same a,e,((qh1 h).stp a).count λ b=>by rw[m];exact zA2 _,q⟩
theorem qH8{H':Hp}{Fz:γ->Prop}{Hz:Hp}{Az:List γ}(d:∀ j,some j∈src->j < Y.length)(S:O1 c Fz Hz Y ds Az)(m:Mid src (pick Y src) Pp T (Y++c.gv) o0 Dd F0 H0 A0 g qf te (λ acc Z'=>∀ v H' F' B A',Oy F' H' v (.l false acc) B->O1 c F' H' Y (E2 src Z' o0) A'->Pp F' H'->Ok F' H' (B++(T++A'))->O0 F0 H0 A0 F' H' (B++(T++A'))->Q v H') [] Y' H'):Q (.ref Dd) H':=by
 obtain⟨F,Z,A,acc,B,Ao,S1,r,k,L,l,s,q⟩:=m;have a:=S1.len;simp only[zAd] at a;obtain⟨A',n,o⟩:=qL4 (src:=src) (by have:=S1.loc;simpa using this) L d (λ i j e=>by
   have:=S1.ag i (by show capW src i=true;unfold capW;rw[e])
   simp only[zAd] at this;rw[this];exact qaB0 e) (by rw[<- a,qaA9])
 have f:∀ b,(B++(T++A')).count b<=(Tot B T Ao A).count b:=λ b=>by unfold Tot;simp only[zA0];have:=o b;lia
 have h:=l.count f;exact q (.ref Dd) H' F B A' r ⟨n,h.right.right,S.len,S.ag⟩ k h (s.count f)
theorem qs2{a:γ}{ys:Ds}{T:List γ}:Hn (λ F H=>Oy F H (.ref a) (.l z ys) T/\H a=some (.l vs)) T where
 keep:=λ{F F' H H' W} k h p=>by
   refine⟨p.1.keep k h,?_⟩;cases p.1 with
   | l _ _=>exact k.fr _ _ p.2 (h _ zAf)
   | lstZ _ f _=>exact k.fr _ _ p.2 λ w=>k.wf _ w f
 cells:=λ p=>p.1.cells
theorem qT2:Hn (λ _ _=>True) [] where
 keep:=λ _ _ p=>p
 cells:=λ _ b a=>by cases a
theorem qaO2{a:γ}{ys:Ds}{T:List γ}{x:V}(r:Oy F H (.ref a) (.l z ys) T)(h:H a=some (.l vs))(hm:D.imms ys=true)(f:vs[i]? = some x):∃ y,ys[i]? = some y/\Oy F H x y []:=by
 obtain⟨k,g,Ael',j,b,c,_⟩:=r.lst_inv;cases j;rw[h] at b;cases b;obtain⟨y,B,d,e⟩:=c.getV f
 have:=e.imm (qu0 hm d)
 subst this;exact⟨y,d,e⟩
theorem qaM9{a:γ}{ys:Ds}{T:List γ}(r:Oy F H (.ref a) (.l z ys) T)(h:H a=some (.l vs)):vs.length=ys.length:=by
 obtain⟨f,d,Ael',e,b,c,_⟩:=r.lst_inv;cases e;rw[h] at b;cases b;exact c.len
theorem qN4{K':No}{a:γ}{ys:Ds}{Q:Hp->Prop}(b:Blk X NY sc src tg ifs elt g qf te)(hm:D.imms ys=true)(m:Mid src av (λ F H=>Oy F H (.ref a) (.l z ys) T/\H a=some (.l vs)) T τ o0 Dd F0 H0 A0 g qf te K ys Y' H)(f:∀ σ2 H2,Mid src av (λ F H=>Oy F H (.ref a) (.l z ys) T/\H a=some (.l vs)) T τ o0 Dd F0 H0 A0 g qf te K [] σ2 H2->Q H2):qw9 (Itl K' a) (qp8 src g) (qp7 src qf) (Bo src te) Dd Q Y' H:=by
 obtain⟨_,_,_,_,_,_,_,_,c,_⟩:=id m;have d:=qaM9 c.1 c.2;refine qX2 (xs:=vs) (λ i Y H=>Mid src av (λ F H=>Oy F H (.ref a) (.l z ys) T/\H a=some (.l vs)) T τ o0 Dd F0 H0 A0 g qf te K (ys.drop i) Y H) m ?_ ?_ ?_
 . rintro i Y H _ ⟨_,_,_,_,_,_,_,_,e,_⟩
   exact .inl (.inl e.2)
 . rintro i x Y H h ⟨F,Z,A,j,B,Ao,S1,r,e,L,k,s,q⟩
   obtain⟨y,l,n⟩:=qaO2 e.1 e.2 hm h;rw[qm9 l] at q;exact qH6 b qs2 S1 r e L k s n q
 intro Y H m;rw[d,L5] at m;exact f _ _ m
theorem qam5{K':No}{a:γ}{ys:Ds}{Q:Hp->Prop}(b:Blk X NY sc src tg ifs elt g qf te)(hm:D.imms ys=true)(m:Mid src av (λ F H=>Oy F H (.ref a) (.l z ys) T/\H a=some (.l vs)) T τ o0 Dd F0 H0 A0 g qf te K (enD ys) Y' H)(o:∀ σ2 H2,Mid src av (λ F H=>Oy F H (.ref a) (.l z ys) T/\H a=some (.l vs)) T τ o0 Dd F0 H0 A0 g qf te K [] σ2 H2->Q H2):qw9 (Ite K' a) (qp8 src g) (qp7 src qf) (Bo src te) Dd Q Y' H:=by
 obtain⟨_,_,_,_,_,_,_,_,c,_⟩:=id m;have d:=qaM9 c.1 c.2;refine qas5 (xs:=vs) (λ i Y H=>Mid src av (λ F H=>Oy F H (.ref a) (.l z ys) T/\H a=some (.l vs)) T τ o0 Dd F0 H0 A0 g qf te K ((enD ys).drop i) Y H) m ?_ ?_ ?_
 . rintro i Y H _ ⟨_,_,_,_,_,_,_,_,e,_⟩
   exact .inl (.inl e.2)
 . rintro i x Y H n p ⟨F,Z,A,t,B,Ao,S1,r,e,L,v,s,q⟩ f
   obtain⟨y,w,C⟩:=qaO2 e.1 e.2 hm p;rw[qm9 (qaX9 w)] at q;have h:=Same.new (u:=.q [.int (i:Int),x]) f;have j:Oy F (upd H n (.q [.int (i:Int),x])) (.ref n) (.q [.int (i:Int),y]) []:=qag0 f (.cons (A:=[]) (B:=[]) (.int _) (.cons (A:=[]) (B:=[]) C .nil));obtain⟨E,k,L1,l,t1⟩:=qw3 qs2 r e L v S1 (O0.same h) (S1.ok.same h);exact qH6 b qs2 (S1.same h) E k L1 l (s.trans t1) j q
 intro Y H m;rw[Lj (by rw[qaF0,d];exact zA2 _)] at m;exact o _ _ m
theorem qay4{Q:Hp->Prop}(b:Blk X NY sc src tg ifs elt g qf te)(m:Mid src av (λ _ _=>True) [] τ o0 Dd F0 H0 A0 g qf te K (Bp lo n) Y' H)(a:∀ σ2 H2,Mid src av (λ _ _=>True) [] τ o0 Dd F0 H0 A0 g qf te K [] σ2 H2->Q H2):qw9 (Itr lo n) (qp8 src g) (qp7 src qf) (Bo src te) Dd Q Y' H:=by
 refine qak6 (λ i Y H=>Mid src av (λ _ _=>True) [] τ o0 Dd F0 H0 A0 g qf te K ((Bp lo n).drop i) Y H) m ?_ ?_
 . rintro i Y H c ⟨F,Z,A,d,B,Ao,S1,r,e,L,f,s,q⟩
   rw[qm9 (qad9 c)] at q;exact qH6 b qT2 S1 r e L f s (.int _) q
 intro Y H m;rw[Lj (by rw[qau5];exact zA2 _)] at m;exact a _ _ m
end
def Imp(c:Vc)(X:Cx)(t:VT)(tc:TE):Prop:=∀ D6 s a H Q,Oz X D6 a H s->Bh c t a H Q->tc a H Q
def Fm(t:VT):Prop:=∀ ds (Q Q':DK) (xe xe':XKd),(∀ d a,Q d a->Q' d a)->(∀ x a,xe x a->xe' x a)->t ds Q xe->t ds Q' xe'
section
variable{c:Vc}{X:Cx}{NY:List Str}{sc:Scope}{src:List (Option Nat)}{tg elt e o:Kj}{ifs:List Kj}{g:VTG}{qf:VTT}{te t0:VT}{pf:PF}
theorem qam6{tc:TE}{t:VT}(h:PE X e tc)(i:Imp c X t tc)(m:Fm t):VE c X e t:=⟨λ D6 s σ H Q I q=>h D6 s σ H Q I (i D6 s σ H Q I q),m⟩
theorem qaG5{tc:TE}{t:VT}{x:Str}{px spos:Pos}(h:PS X (.Assign [.Name x px] e spos) (Ha tc (Et i)))(j:Imp c X t tc)(m:Fm t)(k:c.W i=false)(hi:X.N[i]? = some x):VS c X (.Assign [.Name x px] e spos) (Ea t (gNm i)):=by
 refine⟨λ D6 s σ H E I q=>h D6 s σ H E I (j D6 s σ H _ I ?_),λ b n f g=>m _ _ _ _ _ (λ d a=>g.nx _) g.xe⟩;obtain⟨F,f,A,b,S,l,q⟩:=q;refine⟨F,f,A,b.xe,S,l.xe,m _ _ _ _ _ (λ d a q v H' F' T A' r S' o p=>?_) (λ _ _ z=>z) q⟩;obtain⟨A2,S2,u⟩:=S'.store k (qn9 hi D6 σ H s I) r o;exact l.nx _ _ H' F' A2 q S2 (p.trans u)
def Fn(src:List (Option Nat))(g:VTG)(qf:VTT)(te:VT)(ys:List D):Ds->DK->Prop:=λ ds1 Q=>Ef g qf te (λ acc ι'=>Q (.l false acc) (E2 src ι' (Bq src ds1).2)) ys [] (Bq src ds1).1
theorem qI3(b:Blk X NY sc src tg ifs elt g qf te){ys:List D}{ds1:Ds}{Q Q':DK}(h:∀ d a,Q d a->Q' d a):Fn src g qf te ys ds1 Q->Fn src g qf te ys ds1 Q':=qk6 b (λ c ι=>h _ _) _ _ _
def tCL(src:List (Option Nat))(t0:VT)(g:VTG)(qf:VTT)(te:VT):VT:=λ ds Q xe=>t0 ds (λ d ds1=>orF d.lstOf λ ys=>D.imms ys=true/\Fn src g qf te ys ds1 Q) xe
theorem qaz0(b:Blk X NY sc src tg ifs elt g qf te)(hi:VE c X e t0):Fm (tCL src t0 g qf te):=λ j Q Q' k a f h=>hi.m _ _ _ _ _ (λ d i=>qa5 λ l=>Nl (qI3 b f)) h
theorem qaW6{K:No}(b:Blk X NY sc src tg ifs elt g qf te)(hi:VE c X e t0):Imp c X (tCL src t0 g qf te) (Dy (Gp K (Bh c t0)) src (qp8 src g) (qp7 src qf) (Bo src te)):=by
 rintro D6 s σ H Q I ⟨F,k,A,l,S,x,q⟩;have f:=b.lt D6 σ H s I;refine⟨F,k,A,l,S,x,hi.m _ _ _ _ _ (λ d n q v H1 F1 T A1 i S1 o p=>?_) (λ _ _ z=>z) q⟩;obtain⟨E,t,u,h⟩:=qa7.mp q;obtain⟨z,rfl⟩:=qz5 t;obtain⟨a,w,Ael,rfl,j,G,_⟩:=i.lst_inv;refine⟨a,rfl,⟨w,.inl (.inl j)⟩,λ Dd y=>qN4 b u (qH7 f S1 o ⟨i,j⟩ qs2 y (qk6 b (λ C ι q v H' F' B A' r S' _ D s=>q v H' F' B A' r S' (D.count λ b=>by simp only[zA0];lia) ((p.trans s).count λ b=>by simp only[zA0];lia)) _ _ _ h)) λ σ2 H2 m=>qH8 f S1 m⟩
def tCPx(en:Ds->List D)(src:List (Option Nat))(pf:PF)(g:VTG)(qf:VTT)(te:VT):VT:=λ ds Q xe=>orF (pf ds) λ q=>orF (A9 ds q.1 q.2) λ d=>orF d.lstOf λ ys=>D.imms ys=true/\∀ w,Ef g qf te (λ acc ι'=>orF (bk1 q.1 q.2 w d (E2 src ι' (Bq src (Bf ds q.1 q.2 (.hole w))).2)) λ a=>Q (.l false acc) a) (en ys) [] (Bq src (Bf ds q.1 q.2 (.hole w))).1
theorem qan0{en:Ds->List D}(b:Blk X NY sc src tg ifs elt g qf te):Fm (tCPx en src pf g qf te):=λ f Q Q' i a c j=>qa5 λ q=>qa5 λ d=>qa5 λ k=>Nl λ h w=>qk6 b (λ e ι=>qa5 λ z=>c _ _) _ _ _ (h w)
theorem qaQ0{K:No}{en:Ds->List D}{wi:TI}{J:γ->It}(b:Blk X NY sc src tg ifs elt g qf te)(M:∀{a:γ}{vs:List V}{z:Bool}{ys:Ds}{T:List γ}{τ:List (Option V)}{o0:Ds}{Dd:γ}{F0:γ->Prop}{H0 H:Hp}{A0:List γ}{K0:Ds->Ds->Prop}{av:List (Option V)}{Q:Hp->Prop}{σ':St},D.imms ys=true->Mid src av (λ F H=>Oy F H (.ref a) (.l z ys) T/\H a=some (.l vs)) T τ o0 Dd F0 H0 A0 g qf te K0 (en ys) σ' H ->
     (∀ σ2 H2,Mid src av (λ F H=>Oy F H (.ref a) (.l z ys) T/\H a=some (.l vs)) T τ o0 Dd F0 H0 A0 g qf te K0 [] σ2 H2->Q H2)->qw9 (J a) (qp8 src g) (qp7 src qf) (Bo src te) Dd Q σ' H)(j:∀ σ H R,F8 c pf σ H (λ x H1=>∃ a,x=.ref a/\(∃ xs,SqL K H1 a xs)/\R (J a) H1)->wi σ H R):Imp c X (tCPx en src pf g qf te) (Dy wi src (qp8 src g) (qp7 src qf) (Bo src te)):=by
 rintro D6 s σ H Q I ⟨F,t,A,xe,S,x,q⟩;have h:=b.lt D6 σ H s I;refine j σ H _ ?_;obtain⟨⟨i,p⟩,N,q⟩:=qa7.mp q;obtain⟨d,e2,q⟩:=qa7.mp q;obtain⟨ys,O,P,q⟩:=qa7.mp q;obtain⟨z,rfl⟩:=qz5 O;refine⟨F,t,A,i,p,_,S,N,e2,D.noConfusion,λ u w H1 U k l=>?_⟩;obtain⟨B,C,r,y,Y⟩:=(S.same l).place e2 D.noConfusion U k;obtain⟨A1,Z,q2⟩:=Y (.hole w) [] (Kp.same (F:=F) λ _ _ z=>z) (λ _ _ z=>z) (.hole w);have E:Ok F H1 (B++A1):=(S.same l).ok.count λ b=>by rw[zA0,q2,y];simp
 have s1:O0 F H A F H1 (B++A1):=⟨λ b o e _=>l b o e,λ b o e z=>by rw[zA0,q2];have:=y b;simp;lia,λ _ f=>f,λ _ _ _ _ f=>f⟩
 have S1:O1 c F H1 σ (Bf t i p (.hole w)) A1:=⟨Z,E.right,S.len,S.ag⟩
 obtain⟨a,vs,Ael,rfl,G,rs,_⟩:=r.lst_inv;refine⟨a,rfl,⟨vs,.inl (.inl G)⟩,λ Dd hD=>M P (qH7 h S1 E ⟨r,G⟩ qs2 hD (qk6 b (λ a0 ι q v H' F' B' A' rv S' hp L s=>?_) _ _ _ (q (.ref a)))) λ σ2 H2 m=>qH8 h S1 m⟩;obtain⟨a1,eb,q⟩:=qa7.mp q;obtain⟨A2,k1,k2⟩:=qu9 (pls:=[.pl i p (.ref a)]) (vs:=[.ref a]) (more:=[]) (ys:=[.l z ys]) (.so .nil) (.cons hp.1 .nil) S'.loc eb;have n:∀ b,(B'++A2).count b<=(B'++(B++A')).count b:=λ b=>by have:=k2 b;simp only[zAd,zA0] at *;lia
 exact q v H' F' B' A2 rv ⟨k1,(L.count n).right,S.len,S.ag⟩ (L.count n) ((s1.trans s).count n)
theorem qaW5{K:No}(b:Blk X NY sc src tg ifs elt g qf te):Imp c X (tCPx (λ ys=>ys) src pf g qf te) (Dy (Gp K (F8 c pf)) src (qp8 src g) (qp7 src qf) (Bo src te)) :=
 qaQ0 (K:=K) (J:=Itl K) b (λ a m d=>qN4 b a m d) λ σ H R h=>h
def tCR1(src:List (Option Nat))(tr:VTA)(g:VTG)(qf:VTT)(te:VT):VT:=λ ds Q xe=>tr ds (λ xs ds1=>orF (Hm xs) λ j=>Fd j=true/\Fn src g qf te (Bp 0 j.toNat) ds1 Q) xe
theorem qam9{es:List Kj}{tr:VTA}(b:Blk X NY sc src tg ifs elt g qf te)(hi:VOs c X es tr):Fm (tCR1 src tr g qf te):=λ i Q Q' j a e f=>hi.m _ _ _ _ _ (λ d h=>qa5 λ k=>Nl (qI3 b e)) f
theorem qaA2{F:γ->Prop}{H:Hp}{A:List γ}{F1:γ->Prop}{H1:Hp}{A1:List γ}{σ:St}{ds1:Ds}(b:Blk X NY sc src tg ifs elt g qf te)(a:∀ j,some j∈src->j < σ.length)(S1:O1 c F1 H1 σ ds1 A1)(f:O0 F H A F1 H1 A1)(q:Fn src g qf te (Bp lo n) ds1 (λ d e=>∀ v H' F' T A',Oy F' H' v d T->O1 c F' H' σ e A'->Ok F' H' (T++A')->O0 F H A F' H' (T++A')->Q v H')):∀ Dd,H1 Dd=none->qw9 (Itr lo n) (qp8 src g) (qp7 src qf) (Bo src te) Dd (λ H'=>Q (.ref Dd) H') (pick σ src) (upd H1 Dd (.l [])):=λ Dd h =>
 qay4 b (qH7 (T:=[]) a S1 S1.ok trivial qT2 h (qk6 b (λ i ι q v H' F' B A' r S' _ k s=>q v H' F' B A' r S' k (f.trans s)) _ _ _ q)) λ σ2 H2 m=>qH8 a S1 m
theorem qaN6{es:List Kj}{tr:VTA}(b:Blk X NY sc src tg ifs elt g qf te)(hi:VOs c X es tr):Imp c X (tCR1 src tr g qf te) (Dy (iRng1 (qaD4 c tr)) src (qp8 src g) (qp7 src qf) (Bo src te)):=by
 rintro D6 s σ H Q I ⟨F,e,A,f,S,x,q⟩;have a:=b.lt D6 σ H s I;refine⟨F,e,A,f,S,x,hi.m _ _ _ _ _ (λ p h q r H1 F1 T A1 i S1 k=>?_) (λ _ _ z=>z) q⟩;obtain⟨j,l,n,d⟩:=qa7.mp q;cases qav9 l;obtain⟨v,rfl,o⟩:=i.one_inv;cases o
 have:=qag6 n
 exact⟨j,rfl,this.1,this.2,qaA2 b a S1 k d⟩
noncomputable def capOk(X:Cx)(src:List (Option Nat)):Bool:=src.all λ o=>match o with | none=>true | some j=>decide (j < X.N.length)
theorem blk(b:∀ av C a H0 ex,VG (cIn src av) (qj2 X NY sc C a H0 ex) tg g)(c:∀ av C a H0 ex,VF (cIn src av) (qj2 X NY sc C a H0 ex) ifs qf)(d:∀ av C a H0 ex,VE (cIn src av) (qj2 X NY sc C a H0 ex) elt te)(e:capOk X src=true:=by rfl):Blk X NY sc src tg ifs elt g qf te :=
 ⟨b,c,d,λ D6 σ H s I j f=>by
   have:=zBh.mp e _ f
   rw[I.len];exact zAe this⟩
end
theorem qt9{X:Cx}{NY:List Str}{sc:Scope}{C:γ}{a:δ}{H0:Hp}{ex:List γ}{src:List (Option Nat)}{av:List (Option V)}:Lands (qj2 X NY sc C a H0 ex) (cIn src av).E:=λ _ _ _ _ _ _ _ _ _ z=>z.elim
section
variable{c:Vc}{X:Cx}{NY:List Str}{v:Scope}{src:List (Option Nat)}{z u s a:Kj}{t:List Kj}{g:VTG}{A:VTT}{te B:VT}{w C y:Pos}{pf:PF}{x:Str}
theorem ecL(hi:VE c X s B)(bl:Blk X NY v src z t u g A te)(a:X.calm=true:=by rfl)(b:qw0 X NY src v=true:=by rfl)(d:∀ x,Js s X.env x=pure x:=by intro _;rfl):VE c X (.ListComp u [⟨z,s,t,0⟩] v w) (tCL src B g A te) :=
 qam6 (qJ8 NY src (qz0 hi.h) bl.pg bl.pf bl.pe a b d) (qaW6 bl hi) (qaz0 bl hi)
theorem ecP(hi:VP c X s pf)(bl:Blk X NY v src z t u g A te)(a:X.calm=true:=by rfl)(b:qw0 X NY src v=true:=by rfl)(d:∀ x,Js s X.env x=pure x:=by intro _;rfl):VE c X (.ListComp u [⟨z,s,t,0⟩] v w) (tCPx (λ ys=>ys) src pf g A te) :=
 qam6 (qJ8 NY src (qz0 hi.h) bl.pg bl.pf bl.pe a b d) (qaW5 bl) (qan0 bl)
theorem scR1{tr:VTA}{p cpos:Pos}(i:Nat)(l:X.N.Nodup)(hm:X.mg "range" = none)(d:VOs c X [a] tr)(bl:Blk X NY v src z t u g A te)(m:c.W i=false:=by rfl)(e:Gl X "range" := by rfl)(f:Jp [a] X.env=[(false,eval a X.env)]:=by rfl)(b:X.N[i]? = some x:=by rfl)(n:Loc X.env.scope x:=by first | exact Oo rfl | exact On rfl)(o:X.calm=true:=by rfl)(q:qw0 X NY src v=true:=by rfl)(j:swapsWith (.ListComp u [⟨z,.Call (.Name "range" p) [a] [] cpos,t,0⟩] v w) (some (.Name x C)) y.line X.env=pure true:=by rfl)(r:∀ x,Js (.Call (.Name "range" p) [a] [] cpos) X.env x=pure x:=by intro _;rfl)(k:X.fn x=true∨X.env.scope.names.lookup x=some .local:=by first | exact .inl rfl | exact .inr rfl | assumption):VS c X (.Assign [.Name x C] (.ListComp u [⟨z,.Call (.Name "range" p) [a] [] cpos,t,0⟩] v w) y) (Ea (tCR1 src tr g A te) (gNm i)) :=
 qaG5 (qav1 i NY src l (qT9 e hm d.h f) bl.pg bl.pf bl.pe b n o q j r k) (qaN6 bl d) (qam9 bl d) m b
end
section
variable{c:Vc}{X:Cx}{t:List Kj}{p:VTB}
def Gj(p:VTB):VTA:=λ ds Q xe=>p ds (λ xs _ ds1=>Q xs ds1) xe
theorem Du(h:VAs c X t p):VOs c X t (Gj p):=⟨PA.mono h.h λ n H Q ⟨F,d,A,e,S,x,q⟩=>⟨F,d,A,e,S,x,h.m _ _ _ _ _ (λ f g a q i H' F' T A' r _ S' o s=>q i H' F' T A' r S' (s.count λ b=>by rw[zA0];lia)) (λ _ _ z=>z) q⟩,λ d Q Q' e j k l=>h.m _ _ _ _ _ (λ f g a=>k _ _) l⟩
end
structure Bg(x y z:Int)(ns:List Int):Prop where
 x0:0<=x
 y0:0<=y
 y1:y < 2147483647
 z0:0<=z
 nn:∀ n∈ns,0<=n
noncomputable def bagD(x y z:Int)(ns:List Int):D:=.l false [.int x,.int y,.int z,.l false (ns.map .int)]
def lawE:VEnds where
 nx _:=False
 rt d _:=d.asB=some true
 bk _:=False
 ct _:=False
 xe _ _:=False
theorem qaq2{c:Vc}{X:Cx}{rest:List Kk}{t:VTS}{H:Hp}{E:Dv}{p L:γ}{x y z:Int}{ns:List Int}(e:c.av.length=2+n)(k:∀ i,c.W i=false)(a:c.gv=[])(l:H p=some (.l [.int x,.int y,.int z,.ref L]))(m:H L=some (.l (ns.map V.int)))(o:L≠p)(s:∀ H',E.rt (.bl true) H')(u:t lawE (.hole w::bagD x y z ns::Ky n .u)):Ey c t E (some w::some (.ref p)::Ky n none) H:=by
 have L0:Locs (λ _=>False) H (some w::some (.ref p)::Ky n none) (.hole w::bagD x y z ns::Ky n .u) ([]++((p::([]++([]++([]++((L::[])++[])))))++[])) :=
   .so (.hole w) (.so (.l l (.cons (.int x) (.cons (.int y) (.cons (.int z) (.cons (.l m (qF7 ns)) .nil))))) (qG7 n))
 refine⟨λ _=>False,_,_,lawE,⟨by rw[a,zAd];exact L0,⟨λ b=>?_,λ b f=>f.elim,λ b f=>f.elim⟩,by rw[a,e];simp;lia,λ i h=>by rw[k i] at h;cases h⟩,⟨λ _ _ _ _ _ z=>Om z,λ d A v B' H' F' T A' q r _ _ _=>by rw[r.asB q];exact s H',λ _ _ _ _ _ z=>Om z,λ _ _ _ _ _ z=>Om z,λ _ _ _ _ _ _ _ z=>Om z⟩,u⟩;simp only[zB5,zAd,zAn,Lf];by_cases g:p=b
 . subst g;simp[o]
 by_cases j:L=b
 . subst j;simp[g]
 simp[g,j]
section
variable{c:Vc}{b d e o:Kj}{oa Z oc:Bool}{fa fb Y:FV}
def f3(g g':D->D->Option D)(fa fb Y:FV):FV:=λ ds=>(fa ds).bind λ x=>(fb ds).bind λ y=>(g x y).bind λ z=>z.asB.bind λ k=>if k=true then (Y ds).bind λ u=>g' y u else some (.bl false)
theorem qaF4{r l:R2}{g g':D->D->Option D}(h:A8 true r g)(h':A8 true l g'):∀ X H Q,liftV c true (f3 g g' fa fb Y) X H Q->qaH4 r l (liftV c oa fa) (liftV c Z fb) (liftV c oc Y) X H Q:=by
 rintro X H Q ⟨F,f,A,d,S,e,q⟩;obtain⟨x,C,e⟩:=zA1.mp e;obtain⟨y,e2,e⟩:=zA1.mp e;obtain⟨z,E,e⟩:=zA1.mp e;obtain⟨k,G,e⟩:=zA1.mp e;refine⟨F,f,A,x,S,C,λ v H1 B1 I m T=>⟨F,f,A,y,S.same m,e2,λ w H2 B2 n p U=>?_⟩⟩;have i:=m.trans p;refine h F H2 v w x y _ z _ (E9 (I.same p) n) E λ u H3 B3 J s V=>⟨k,J.asB G,?_⟩
 have a:=i.trans s;cases k with
 | false=>rw[if_neg (by decide)] at e ⊢;cases e;exact q _ H3 [] (.bl _) a λ _=>New.nil
 | true =>
   rw[if_pos rfl] at e ⊢;obtain⟨t,K,L⟩:=zA1.mp e;refine⟨F,f,A,t,S.same a,K,λ M H4 B4 N j W=>?_⟩;refine h' F H4 w M y t _ d Q (E9 ((n.same s).same j) N) L λ O H5 B5 P R B=>q O H5 B5 P ((a.trans j).trans R) λ _=>⟨B.one,λ b o e=>B.new b o (j b o (a b o e))⟩
end
section
variable{c:Vc}{X:Cx}{a b d e:Kj}{N:Pos}{O T U:Bool}{fa fb R:FV}
theorem vch{e:CmpOp}{r i:R2}{g g':D->D->Option D}(j:OpR X (Jr op) r)(h:A8 true r g)(f:OpR X (Jr e) i)(h':A8 true i g')(k:VV c X a O fa)(l:VV c X b T fb)(m:VV c X d U R)(hm:lastMarks [op,e] [b,d]=false:=by with_unfolding_all rfl) :
   VV c X (.Compare a [op,e] [b,d] N) true (f3 g g' fa fb R):=⟨PE.mono (qaf0 j f k.h l.h m.h hm) (qaF4 h h')⟩
def G6(x:D):Option D:=match x with
 | .l _ ys=>(intsD ys).bind λ ns=>gd (ns.length<=1000) (.int (qm6 ns))
 | _=>none
theorem vlenS{p p2 cpos:Pos}(g:X.mg "len" = none)(i:X.mg "set" = none)(o:VV c X a O fa)(j:Gl X "len" := by rfl)(k:Gl X "set" := by rfl)(r:X.calm=true:=by rfl)(n:Jp [a] X.env=(false,eval a X.env)::Jp [] X.env:=by rfl)(l:((backTo cpos (Jp [] X.env)).any λ x=>x.1)=false:=by rfl)(b:Jp [.Call (.Name "set" p2) [a] [] cpos] X.env=(false,eval (.Call (.Name "set" p2) [a] [] cpos) X.env)::Jp [] X.env:=by rfl)(f:((backTo N (Jp [] X.env)).any λ x=>x.1)=false:=by rfl) :
   VV c X (.Call (.Name "len" p) [.Call (.Name "set" p2) [a] [] cpos] [] N) true (f1 G6 fa):=by
 refine⟨PE.mono (cbi qat0 g (qc5 (cty (qas8 r) i (qc5 o.h ql9 n) k (by rfl) (by decide) (by decide) n l) ql9 b) j (by rfl) (by decide) (by decide) b f) λ M H Q m=>?_⟩;obtain⟨F,s,A,d,S,e,q⟩:=m;obtain⟨x,t,e2⟩:=qaE8.mp e;cases x with
 | l z J =>
   obtain⟨u,w,y⟩:=zA1.mp e2;obtain⟨B,rfl⟩:=qu1 y;refine⟨F,s,A,_,S,t,λ v H1 B1 C D K=>?_⟩;obtain⟨a,L,A2,rfl,E,G,_⟩:=C.lst_inv;cases G.intsD w;refine⟨a,u,rfl,.inl (.inl E),B,λ p St I=>⟨p,St,_,rfl,qc1,?_⟩⟩;exact q _ _ [] (.int _) (D.trans (Same.new I)) λ _=>New.nil
 | _=>cases e2
def Bw(f:Ds->Option D):VSp:=λ ds Q _=>orF (f ds) λ d=>Q d ds
theorem qw4{f:Ds->Option D}:Bn (Bw f):=λ a Q Q' e b c _=>qa5 λ d=>c d a
noncomputable def wOf(l:List Bool)(i:Nat):Bool:=l.getD i false
end
section
variable{c:Vc}{X:Cx}{NY:List Str}{sc:Scope}{src:List (Option Nat)}{tg elt e o a b:Kj}{ifs:List Kj}{g:VTG}{qf:VTT}{te:VT}{pos px spos p0:Pos}{x xn:Str}
def Gk(en:Ds->List D)(src:List (Option Nat))(i:Nat)(g:VTG)(qf:VTT)(te:VT):VT:=λ ds Q xe=>orF (rdN i ds) λ d=>orF d.lstOf λ ys=>D.imms ys=true/\Ef g qf te (λ acc ι'=>Q (.l false acc) ((E2 src ι' (Bq src (ds.set i .u)).2).set i d)) (en ys) [] (Bq src (ds.set i .u)).1
theorem qE5{en:Ds->List D}(bl:Blk X NY sc src tg ifs elt g qf te):Fm (Gk en src i g qf te):=λ e Q Q' f a b h=>qa5 λ d=>qa5 λ j=>Nl (qk6 bl (λ c ι=>b _ _) _ _ _)
theorem qax8{K:No}{en:Ds->List D}{wi:TI}{J:γ->It}(bl:Blk X NY sc src tg ifs elt g qf te)(E:X.N[i]? = some xn)(G:∀{a:γ}{vs:List V}{z:Bool}{ys:Ds}{T:List γ}{τ:List (Option V)}{o0:Ds}{Dd:γ}{F0:γ->Prop}{H0 H:Hp}{A0:List γ}{K0:Ds->Ds->Prop}{av:List (Option V)}{Q:Hp->Prop}{σ':St},D.imms ys=true->Mid src av (λ F H=>Oy F H (.ref a) (.l z ys) T/\H a=some (.l vs)) T τ o0 Dd F0 H0 A0 g qf te K0 (en ys) σ' H ->
     (∀ σ2 H2,Mid src av (λ F H=>Oy F H (.ref a) (.l z ys) T/\H a=some (.l vs)) T τ o0 Dd F0 H0 A0 g qf te K0 [] σ2 H2->Q H2)->qw9 (J a) (qp8 src g) (qp7 src qf) (Bo src te) Dd Q σ' H)(j:∀ σ H R,E5 i σ H (λ x H1=>∃ a,x=.ref a/\(∃ xs,SqL K H1 a xs)/\R (J a) H1)->wi σ H R):Imp c X (Gk en src i g qf te) (Dy wi src (qp8 src g) (qp7 src qf) (Bo src te)):=by
 rintro D6 s σ H Q I ⟨F,L,A,xe,S,x,q⟩;have h:=bl.lt D6 σ H s I;have M:=qn9 E D6 σ H s I;refine j σ H _ ?_;obtain⟨d,k,q⟩:=qa7.mp q;obtain⟨k,hk⟩:=ql8.mp k;obtain⟨ys,O,P,q⟩:=qa7.mp q;obtain⟨z,rfl⟩:=qz5 O;obtain⟨v,B,C,l,r,t,U⟩:=S.put1 k D.noConfusion;have n:=l;rw[zAp M] at l;obtain⟨A1,Y,q2⟩:=U .u [] (Kp.same (F:=F) λ _ _ z=>z) (λ _ _ z=>z) (.u v);have u:Ok F H (B++A1):=S.ok.count λ b=>by rw[zA0,q2,t];simp
 have Z:O0 F H A F H (B++A1):=⟨λ b o e _=>e,λ b o e z=>by rw[zA0,q2];have:=t b;simp;lia,λ _ f=>f,λ _ _ _ _ f=>f⟩
 have S1:O1 c F H σ (L.set i .u) A1:=⟨Y,u.right,S.len,S.ag⟩
 obtain⟨a,vs,Ael,rfl,w,rs,_⟩:=r.lst_inv;refine⟨.ref a,l,a,rfl,⟨vs,.inl (.inl w)⟩,λ Dd hD=>G P (qH7 h S1 u ⟨r,w⟩ qs2 hD (qk6 bl (λ a0 ι q v H' F' B' A' rv S' hp y s=>?_) _ _ _ q)) λ σ2 H2 m=>qH8 h S1 m⟩;obtain⟨A2,k1,k2⟩:=qE8 S'.loc n hp.1;have p:∀ b,(B'++A2).count b<=(B'++(B++A')).count b:=λ b=>by have:=k2 b;simp only[zA0] at *;lia
 exact q v H' F' B' A2 rv ⟨k1,(y.count p).right,S.len,S.ag⟩ (y.count p) ((Z.trans s).count p)
theorem qaN7{K:No}(bl:Blk X NY sc src tg ifs elt g qf te)(a:X.N[i]? = some xn):Imp c X (Gk (λ ys=>ys) src i g qf te) (Dy (Gp K (E5 i)) src (qp8 src g) (qp7 src qf) (Bo src te)) :=
 qax8 (K:=K) (J:=Itl K) bl a (λ b m d=>qN4 bl b m d) λ σ H R h=>h
theorem qaN8{K:No}(bl:Blk X NY sc src tg ifs elt g qf te)(b:X.N[i]? = some xn):Imp c X (Gk enD src i g qf te) (Dy (iEnum K (tCons (E5 i) tNil)) src (qp8 src g) (qp7 src qf) (Bo src te)) :=
 qax8 (K:=K) (J:=Ite K) bl b (λ d m f=>qam5 bl d m f) λ σ H R ⟨v,h,a,e,j,k⟩=>⟨v,h,a,by rw[e],j,k⟩
theorem ecN(i:Nat)(bl:Blk X NY sc src tg ifs elt g qf te)(b:X.N[i]? = some xn:=by rfl)(d:Vis X.env.scope xn:=by first | exact Oo rfl | exact On (Oo rfl) | exact On (On rfl))(e:N' xn:=by decide)(a:(xn == ("__classdict__" : Str))=false:=by decide)(f:X.calm=true:=by rfl)(h:qw0 X NY src sc=true:=by rfl)(j:∀ x,Js (.Name xn p0) X.env x=pure x:=by intro _;rfl):VE c X (.ListComp elt [⟨tg,.Name xn p0,ifs,0⟩] sc pos) (Gk (λ ys=>ys) src i g qf te) :=
 qam6 (qJ8 NY src (qz0 (qn3 b d e a)) bl.pg bl.pf bl.pe f h j) (qaN7 bl b) (qE5 bl)
theorem ecEN(i:Nat){elts:List Kj}{e:Nat}{p cpos tpos:Pos}(hm:X.mg "enumerate" = none)(bl:Blk X NY sc src (.Tuple elts e tpos) ifs elt g qf te)(f:X.N[i]? = some xn:=by rfl)(h:Vis X.env.scope xn:=by first | exact Oo rfl | exact On (Oo rfl) | exact On (On rfl))(j:N' xn:=by decide)(b:(xn == ("__classdict__" : Str))=false:=by decide)(d:Gl X "enumerate" := by rfl)(a:Jp [.Name xn p0] X.env=[(false,eval (.Name xn p0) X.env)]:=by rfl)(k:X.calm=true:=by rfl)(l:qw0 X NY src sc=true:=by rfl)(m:∀ x,Js (.Call (.Name "enumerate" p) [.Name xn p0] [] cpos) X.env x=pure x:=by intro _;rfl):VE c X (.ListComp elt [⟨.Tuple elts e tpos,.Call (.Name "enumerate" p) [.Name xn p0] [] cpos,ifs,0⟩] sc pos) (Gk enD src i g qf te) :=
 qam6 (qJ8 NY src (qaJ7 d hm (qc5 (qn3 f h j b) ql9 a) a) bl.pg bl.pf bl.pe k l m) (qaN8 bl f) (qE5 bl)
theorem scN(i j:Nat)(b:X.N.Nodup)(bl:Blk X NY sc src tg ifs elt g qf te)(k:c.W i=false:=by rfl)(h:X.N[j]? = some xn:=by rfl)(l:Vis X.env.scope xn:=by first | exact Oo rfl | exact On (Oo rfl) | exact On (On rfl))(m:N' xn:=by decide)(d:(xn == ("__classdict__" : Str))=false:=by decide)(a:X.N[i]? = some x:=by rfl)(n:Loc X.env.scope x:=by first | exact Oo rfl | exact On rfl)(o:X.calm=true:=by rfl)(p:qw0 X NY src sc=true:=by rfl)(e:swapsWith (.ListComp elt [⟨tg,.Name xn p0,ifs,0⟩] sc pos) (some (.Name x px)) spos.line X.env=pure true:=by rfl)(q:∀ x,Js (.Name xn p0) X.env x=pure x:=by intro _;rfl)(f:X.fn x=true∨X.env.scope.names.lookup x=some .local:=by first | exact .inl rfl | exact .inr rfl | assumption):VS c X (.Assign [.Name x px] (.ListComp elt [⟨tg,.Name xn p0,ifs,0⟩] sc pos) spos) (Ea (Gk (λ ys=>ys) src j g qf te) (gNm i)) :=
 qaG5 (qav1 i NY src b (qz0 (qn3 h l m d)) bl.pg bl.pf bl.pe a n o p e q f) (qaN7 bl h) (qE5 bl) k a
theorem qal2{d0:D}{ds:Ds}(h:ds[i]? = some (.hole w)):bk1 i [] w d0 ds=some (ds.set i d0):=by
 unfold bk1 Ap;rw[qH2 h];simp only[if_true];unfold Ap;rw[qE9 h]
theorem ql0{g:VTG}{qf:VTT}{te:VT}{K:Ds->Ds->Prop}(I:Ds->Prop)(f:D->Option D):∀(xs:List D)(acc ι:Ds),acc.length+xs.length < big->I ι->(∀ x∈xs,∀ ι acc,I ι->∀ R:Ds->Ds->Prop,(∀ ι',I ι'->R (acc++(f x).toList) ι')->acc.length < big->g x ι λ ι1=>qf ι1 (λ b ι2=>if b=true then te ι2 (λ d ι3=>acc.length < big/\R (acc++[d]) ι3) (λ _ _=>False) else R acc ι2) (λ _ _=>False))->(∀ ι',I ι'->K (acc++xs.filterMap f) ι')->Ef g qf te K xs acc ι
 | [],acc,ι,_,h,_,hK=>by
   have:=hK ι h
   rw[List.filterMap_nil,zAd] at this;exact this
 | x::xs,acc,ι,hl,h,hs,hK=>by
   refine hs x zAf ι acc h (λ a i=>Ef g qf te K xs a i) (λ ι' hι=>?_) (by simp at hl;lia);refine ql0 I f xs _ ι' ?_ hι (λ y e=>hs y (zA7 _ e)) λ ι2 j=>?_
   . cases c:f x with
     | none=>simp at hl ⊢;lia
     | some y=>simp at hl ⊢;lia
   have:=hK ι2 j
   rw[zC0] at this;cases c:f x with
   | none=>rw[c] at this;simpa using this
   | some y=>rw[c] at this;simpa using this
end
structure MdN(K:No)(C:γ)(m qual:Str)(st:Kk)(f:γ)(fd:ε)(ps:List Str):Prop where
 F:FunE K m qual st f fd
 b:Binds K fd ps []
 bn:Binds K fd ps [.none]
 me:Hw K C m f
 isf:W.isFn K (.ref f)=true
section
variable{X:Cx}{c:Vc}
theorem qaY1{x m qual:Str}{C f:γ}{fd:ε}{st:Kk}{ps:List Str}{k:Nat}{s:VSp}{e:Kj}{es:List Kj}{tr:VTB}{p pos:Pos}(i:Cl X.K X.mg x C)(M:Mk X.K C f)(D:MdN X.K C m qual st f fd ps)(G:Ex cm X.prog X.w X.K X.mg X.base k f fd ps s)(j:Lands X c.E)(l:O2 cm (k+1) X.A)(a:VAs c X (e::es) tr)(n:Gl X x:=by rfl)(d:N' x:=by decide)(o:Jp (e::es) X.env=(false,eval e X.env)::Jp es X.env:=by rfl)(g:(backTo pos (Jp es X.env)).any (·.1)=false:=by rfl):VE c X (.Call (.Name x p) (e::es) [] pos) (qO0 C s [] tr) :=
 ⟨PE.mono (qae8 M G.ok l n i.m D.b .nil j.passes a.h d o g) (qah2 qu2 G.m a),qG4 G.m a⟩
end
theorem mdmkN{K:No}{C:γ}{m qual:Str}{st:Kk}{f T:γ}{ps:List Str}{oc to:V'}{v td g:Option γ}{p q:Array (Option V')}{kV e h d j:V'}(l:K.lookup f=some ⟨oc,v,.func (W.fnOf m qual (qe9 st) (qd0 st) (qa3 st) (.ref T) kV e h g d j),p⟩)(c:W.codeIn K d qual=true)(k:W.keepIn K (.ref f)=true)(a:W.findIn K (.ref C) m=some (some (.ref f)))(i:W.isFn K (.ref f)=true)(t:K.lookup T=some ⟨to,td,.seq #[.none] n,q⟩)(b:∀(kV e h:V')(g:Option γ)(d j:V')(us:List V'),us.length=ps.length->∃ k,bindArgs (W.fnOf m qual (qe9 st) (qd0 st) (qa3 st) (.ref T) kV e h g d j) ⟨us,[]⟩=seqItems? (.ref T) >>= k/\k (some #[.none])=pure (ps.zip us))(w:∀(kV e h:V')(g:Option γ)(d j:V')(us:List V'),us.length+1=ps.length->∃ k,bindArgs (W.fnOf m qual (qe9 st) (qd0 st) (qa3 st) (.ref T) kV e h g d j) ⟨us,[]⟩=seqItems? (.ref T) >>= k/\k (some #[.none])=pure (ps.zip (us++[.none]))) :
   MdN K C m qual st f (W.fnOf m qual (qe9 st) (qd0 st) (qa3 st) (.ref T) kV e h g d j) ps :=
 ⟨⟨⟨_,_,_,_,_,_,_,_,_,_,rfl,l,c⟩⟩,λ s us X o=>(by
   rw[zAd] at o ⊢;obtain⟨k,r,u⟩:=b kV e h g d j us o;exact W.binds_K X rfl t rfl r u),λ s us X o=>(by
   obtain⟨k,r,u⟩:=w kV e h g d j us (by rw[zA6] at o;exact o);exact W.binds_K X rfl t rfl r u),⟨a,i,k⟩,i⟩
end LV
namespace LV
open PySem L2
section
variable{F:γ->Prop}{H:Hp}
noncomputable def qaO5(ys xs:Ds):Option (Ds×D):=match xs with
 | [.int i]=>if 0<=i/\i < 2 ^ 63 then (ys[i.toNat]?).map λ d=>(ys.eraseIdx i.toNat,d) else none
 | _=>none
theorem qak3{α:Type}{xs:List α}{x:α}:∀{ys:List α},(xs++x::ys).eraseIdx xs.length=xs++ys:=λ{ys}=>by
 rw[List.eraseIdx_append_of_length_le (zA2 _),Nat.sub_self];rfl
theorem qag3:Fx qaI4 qaO5:=by
 intro F H a g c Ael N x T j d Q y r z h q;cases x with
 | nil=>cases h
 | cons e l =>
 cases l with
 | cons=>cases e<;>cases h
 | nil =>
 cases e with
 | int i =>
   obtain⟨w,rfl,k⟩:=z.one_inv;cases k;have h:(if 0<=i/\i < 2 ^ 63 then (c[i.toNat]?).map λ d=>(c.eraseIdx i.toNat,d) else none)=some (j,d):=h;by_cases f:0<=i/\i < 2 ^ 63
   . rw[if_pos f] at h
     obtain⟨e,s,A⟩:=zA9.mp h;cases A;obtain⟨m,v,n,o,p,A1,B,A2,t,e2,u,C,D,E,G,I⟩:=r.split s;have J:i.toNat < c.length:=(zA4.mp s).1;have K:g[i.toNat]? = some v:=by rw[t,<- u,zBo (zA2 _),Nat.sub_self];rfl
     refine⟨a,g,i,i.toNat,v,rfl,rfl,y,by lia,f.2,?_,K,?_⟩
     . rw[r.len]
       exact PySem.StrLaws.seqIndex_nonneg f.1 (by lia)
     have L:g.eraseIdx i.toNat=m++n:=by rw[<- u,t];exact qak3
     have M:c.eraseIdx i.toNat=o++p:=by rw[<- C,e2];exact qak3
     rw[L];exact q _ v (A1++A2) B (by rw[M];exact E.append I) G λ b=>by rw[D];simp only[zA0];lia
   rw[if_neg f] at h;cases h
 | _=>cases h
end
theorem rm{cm:Bool}{j k:Nat}{A:Kf}(r:O2 cm k A)(h:j<=k:=by decide):O2 cm j A:=r.mono h
theorem VFn.mk2{cm:Bool}{P:Ke}{w:Ki}{K:No}{mg:Str->Option V'}{base:Heap}{x qual:Str}{st:Kk}{f:γ}{fd:ε}{N ps:List Str}{k:Nat}{s:VSp}(Fu:Fun K x qual st f fd)(Sc:qa9 N ps (qa3 st))(W:Nat->Bool)(c:Bn s)(h:∀ ds Q xe,s ds Q xe->ds.length=ps.length/\Gi W 0 ds=true)(hbody:∀(a:V')(A:Kf)(outer:List Env)(b:δ)(H:Hp)(E:XK)(av:List (Option V)),O2 cm k (A.deeper (PyProof.Rows.envOfC qual (qa3 st) b.heap.objs.size f a)) ->
     ∃ t,VSs ⟨λ _=>E,W,av,[]⟩ (Dx cm (CX1 P w) P w K mg base N qual (qa3 st) f a A outer b H E) (qd0 st) t/\∀ ds Q xe,s ds Q xe->t (qar9 W ds Q xe) (ds++Ky (N.length - ds.length) .u)) :
   Ex cm P w K mg base (k+1) f fd ps s:=VFn.mk' Fu Sc W c (λ ds Q xe z=>(h ds Q xe z).1) (λ ds Q xe z=>(h ds Q xe z).2) hbody
def spPu(g:D->D->Option D):Sp:=λ vs H Q _=>∃ F u x d a b A B w,vs=[u,x]/\Oy F H u a A/\Oy F H x b B/\g a b=some d/\d.flat=some w/\Q w H
section
variable{c:Vc}{X:Cx}{e:Kj}{pos apos:Pos}{m qual:Str}{st:Kk}{f C:γ}{fd:ε}{ps:List Str}{k:Nat}{g:D->D->Option D}{fb:FV}{ob:Bool}
def fPu(C:γ)(m:Str)(g:D->D->Option D)(i:Nat)(fb:FV):FV:=λ ds=>(rdN i ds).bind λ x=>if x.isM C m=true then (fb ds).bind λ y=>(g x y).bind λ d=>d.flat.map λ _=>d else none
theorem Oy.ofFlat{F:γ->Prop}{H:Hp}{d:D}{w:V}(h:d.flat=some w):Oy F H w d []:=by
 cases d with
 | non=>cases h;exact .non
 | bl b=>cases h;exact .bl b
 | int i=>cases h;exact .int i
 | str x=>cases h;exact .str x
 | _=>cases h
theorem qaR3{pl:Sem Bool}(i:Nat){xn:Str}{p0:Pos}(D:Md X.K C m qual st f fd ps)(P:Cls X.K C)(G:Dw X.prog X.w X.K X.mg X.base CX0 k f fd ps (spPu g))(R:Room k X.A)(T:VV c X e ob fb)(J:X.N[i]? = some xn:=by rfl)(U:Vis X.env.scope xn:=by first | exact Oo rfl | exact On (Oo rfl) | exact On (On rfl))(V:N' xn:=by decide)(n:(xn == ("__classdict__" : Str))=false:=by decide)(l:Jp [e] X.env=(false,eval e X.env)::Jp [] X.env:=by rfl)(o:(backTo pos (Jp [] X.env)).any (·.1)=false:=by rfl)(W:eval (.Call (.Attribute (.Name xn p0) m apos) [e] [] pos) X.env=(do
     let ov <- eval (.Name xn p0) X.env
     standAt apos.atName
     let (f,first) <- holding [ov] (getMethod ov m pl)
     callWith pos f first (backTo pos (Jp [e] X.env)) (backToKw pos (J0 [] X.env))):=by rfl):VV c X (.Call (.Attribute (.Name xn p0) m apos) [e] [] pos) true (fPu C m g i fb):=by
 refine⟨λ D6 s σ H Q I p=>?_⟩;obtain⟨F,Y,A,d,S,j,q⟩:=p;refine qav4 (qn3 J U V n) P D.me G R D.b .nil pass0 (qc5 T.h ql9 l) l o W D6 s σ H Q I ?_;obtain⟨x,Z,j⟩:=zA1.mp j;by_cases t:x.isM C m=true
 . rw[if_pos t] at j
   obtain⟨y,h2,j⟩:=zA1.mp j;obtain⟨d',h3,j⟩:=zA1.mp j;obtain⟨w,L,j⟩:=zA9.mp j;cases j;obtain⟨v,B0,u,M,_⟩:=S.name (qn9 J D6 σ H s I) Z;obtain⟨a,dx,fs,rfl,z,E⟩:=M.isM t;refine⟨.ref a,u,a,dx,fs,rfl,z,E,F,Y,A,y,S,h2,λ v' H1 B r O _=>?_⟩;exact⟨F,_,_,_,x,y,B0,B,w,rfl,M.same O,r,h3,L,q w H1 [] (Oy.ofFlat L) O λ _=>New.nil⟩
 rw[if_neg t] at j;cases j
def tbBV(pf:PF)(f:FV):VTB:=λ ds Q _=>orF (pf ds) λ q=>orF (A9 ds q.1 q.2) λ d=>d.known=true/\orF (f ds) λ x=>x.imm=true/\∀ w,Q [d,x] [.pl q.1 q.2 w,.no] (Bf ds q.1 q.2 (.hole w))
theorem vaBV{o e2:Kj}{pf:PF}{fv:FV}{own:Bool}(G:VP c X o pf)(I:VV c X e2 own fv)(J:Jp (o::[e2]) X.env=(false,eval o X.env)::Jp [e2] X.env:=by rfl)(g:Jp [e2] X.env=(false,eval e2 X.env)::Jp [] X.env:=by rfl):VAs c X [o,e2] (tbBV pf fv):=by
 refine⟨PA.mono (qc5 G.h (qc5 I.h ql9 g) J) λ σ H Q j=>?_,λ a Q Q' K L M W=>qa5 λ z=>qa5 λ d=>Nl (qa5 λ y=>Nl λ h w=>M _ _ _ (h w))⟩;obtain⟨F,a,A,K,S,x,q⟩:=j;obtain⟨⟨i,p⟩,N,q⟩:=qa7.mp q;obtain⟨d,e2,n,q⟩:=qa7.mp q;obtain⟨y,O,P,q⟩:=qa7.mp q;refine⟨F,a,A,i,p,d,S,N,e2,qm2 n,λ u w H0 R T k=>?_⟩;refine⟨F,a,A,y,S.same k,O,λ v H1 Bv t l _=>?_⟩;obtain rfl:=t.imm P;have s:Same H H1:=λ b o e=>l b o (k b o e)
 obtain⟨B,C,r,D,U⟩:=(S.same k).place e2 (qm2 n) R T;have r:=r.same l;obtain⟨A1,m,q2⟩:=U (.hole w) [] (Kp.same (F:=F) λ _ _ z=>z) (λ _ _ z=>z) (.hole w);have m:=m.same l;have E:Ok F H1 (B++A1):=(S.same s).ok.count λ b=>by rw[zA0,q2,D];simp
 have V:O0 F H A F H1 (B++A1):=⟨λ b o e _=>s b o e,λ b o e z=>by rw[zA0,q2];have:=D b;simp;lia,λ _ f=>f,λ _ _ _ _ f=>f⟩
 have S1:O1 c F H1 σ (Bf a i p (.hole w)) A1:=⟨m,E.right,S.len,S.ag⟩
 refine q w [w,v] H1 F B A1 ?_ (.so (.no .nil)) S1 E V
 have:=Os.cons r (Os.cons t .nil)
 rwa[zAd,zAd] at this
end
end LV
namespace S6
open PySem PyProof.Rows
variable{N bs q:Nat}{arr xs:Array Kt}{f:Nat->Kt}{key:Kt}{kf:V'->Int×Int}{l:Bool}{vs:List V'}
section
variable{f:Type}{le:f->f->Bool}
theorem mg_l{A2:List f}:∀{A1 Y:List f},(∀ a∈A1,∀ y∈Y,le a y=true)->K4 (A1++A2) Y le=A1++K4 A2 Y le
 | [],_,_=>rfl
 | x::A1,[],_=>by simp
 | x::A1,y::Y,h=>by
   rw[zBv,zBb,if_pos (h x (by simp) y (by simp)),mg_l λ a b=>h a (by simp[b])];rfl
theorem mg_r{B2:List f}:∀{B1 X:List f},(∀ b∈B1,∀ x∈X,le x b=false)->K4 X (B1++B2) le=B1++K4 X B2 le
 | [],_,_=>rfl
 | b::B1,[],_=>by simp
 | b::B1,x::X,h=>by
   rw[zBv,zBb,if_neg (by simp[h b (by simp) x (by simp)]),mg_r λ a c=>h a (by simp[c])];rfl
theorem Jb{A2:List f}:∀{A1 Y:List f},(∀ a∈A2,∀ y∈Y,le a y=false)->K4 (A1++A2) Y le=K4 A1 Y le++A2
 | [],Y,h=>by
   have:=mg_r (B2:=[]) (B1:=Y) (X:=A2) (le:=le) λ y c a b=>h a b y c
   simpa using this
 | x::A1,[],_=>by simp
 | x::A1,y::Y,h=>by
   rw[zBv,zBb,zBb];split
   . rw[Jb h];rfl
   rw[<- zBv,Jb λ a b z d=>h a b z (by simp[d])];rfl
theorem G7{B2:List f}:∀{B1 X:List f},(∀ b∈B2,∀ x∈X,le x b=true)->K4 X (B1++B2) le=K4 X B1 le++B2
 | [],X,h=>by
   have:=mg_l (A2:=[]) (A1:=X) (Y:=B2) (le:=le) λ y d a c=>h a c y d
   simpa using this
 | b::B1,[],_=>by simp
 | b::B1,x::X,h=>by
   rw[zBv,zBb,zBb];split
   . rw[<- zBv,G7 λ a c z e=>h a c z (by simp[e])];rfl
   rw[G7 h];rfl
end
noncomputable def gal:Bool->Kt->Array Kt->Nat->Nat->Nat->StateT Ku Sem (Option Nat):=sortPriv% PySem.Builtin.gallop
def bey(l:Bool)(key:Kt)(arr:Array Kt)(i:Nat):StateT Ku Sem (Option Bool):=do
 let x <- elem' arr i
 if l then lt' x key else return (<- lt' key x).map (!·)
theorem qaW9(l:Bool)(key:Kt)(arr:Array Kt)(bs n g:Nat):gal l key arr bs n g=(do
 let mut p:=0
 let mut o:=1
 let mut u:=0
 let mut v:=0
 let some t <- bey l key arr (bs+g) | return none
 if t then
   let mo:=n - g
   for _ in [0:n] do
     if o ≥ mo then break
     let some c <- bey l key arr (bs+(g+o)) | return none
     if !c then break
     p:=o
     o:=2 * o+1
   u:=g+p+1
   v:=g+min o mo
 else
   let mo:=g+1
   for _ in [0:n] do
     if o ≥ mo then break
     let some c <- bey l key arr (bs+(g - o)) | return none
     if c then break
     p:=o
     o:=2 * o+1
   u:=g+1 - min o mo
   v:=g - p
 for _ in [0:n] do
   if u ≥ v then break
   let m:=u+(v - u) / 2
   let some c <- bey l key arr (bs+m) | return none
   if c then u:=m+1 else v:=m
 return some v):=rfl
section
variable{M:Model}{A:Kf}{E:V'->δ->Prop}{s:δ}{l n o:Type}{Q:o->l->Prop}{m:l}
theorem gB{f:l->StateT l Sem o}(h:wpS M A E s (f m) Q m):wpS M A E s (get >>= f) Q m:=Kl (wpS_get h)
theorem rB{t:String}{f:Unit->StateT l Sem o}(h:wpS M A E s (f ()) Q m):wpS M A E s (liftM (rule t) >>= f) Q m:=Kl (wpS_lift (wpAny_rule ⟨rfl,h⟩))
theorem fB{a b:Nat}{f:Nat->n->StateT l Sem (ForInStep n)}{g:n->StateT l Sem o}{c:n}(I:Nat->n->l->Prop)(R:n->l->Prop)(h1:∀ F,f=F->∀ i c m,a<=i->i < b->I i c m->∀ K:ForInStep n->l->Prop,(∀ e d,R e d->K (.done e) d)->(∀ e d,I (i+1) e d->K (.yield e) d)->wpS M A E s (F i c) K m)(h2:∀ c m,I (max a b) c m->R c m)(j:I a c m)(k:∀ F,g=F->∀ c m,R c m->wpS M A E s (F c) Q m):wpS M A E s (forIn [a:b] c f >>= g) Q m :=
 Kl (wpS_mono (wpS_forRange I (λ i c m x y z=>h1 f rfl i c m x y z _ (λ _ _ h=>h) λ _ _ h=>h) h2 j) (k g rfl))
end
structure Od(lt:Kt->Kt->Bool):Prop where
 as:∀ x y,lt x y=true->lt y x=false
 tr:∀ x y z,lt y x=false->lt z y=false->lt z x=false
def Cm(prog:Ke)(w:Ki)(A:Kf)(s:δ)(kd:SortKind)(P:Kt->Prop)(lt:Kt->Kt->Bool):Prop :=
 ∀ x y,P x->P y->∀(E:V'->δ->Prop)(Q:Bool->δ->Prop),Q (lt x y) s->Kc (Kd prog w) A (keyLt' kd x.1 y.1) Q E s
section
variable{prog:Ke}{w:Ki}{A:Kf}{E:V'->δ->Prop}{s:δ}{kd:SortKind}{P:Kt->Prop}{lt:Kt->Kt->Bool}{st:Ku}
theorem Od.ir(h:Od lt)(x:Kt):lt x x=false:=by
 cases e:lt x x with
 | false=>rfl
 | true=>rw[h.as x x e] at e;cases e
theorem wlt{x y:Kt}{Q:Option Bool->Ku->Prop}(a:Cm prog w A s kd P lt)(b:Kv st=kd)(c:P x)(d:P y)(h:Q (some (lt x y)) st):wpS (Kd prog w) A E s (lt' x y) Q st:=by
 rw[lt'_eq];refine gB ?_;rw[b];exact Kl (wpS_lift (wpAny_attempt (a x y c d _ _ ⟨rfl,Km h⟩)))
theorem wel{i:Nat}{p:Kt}{Q:Kt->Ku->Prop}(hi:arr[i]? = some p)(h:Q p st):wpS (Kd prog w) A E s (elem' arr i) Q st:=by
 rw[elem'_eq,hi];exact Km h
def B(lt:Kt->Kt->Bool)(l:Bool)(key x:Kt):Bool:=if l then lt x key else !lt key x
theorem wif{α:Type}{c:Prop}[Decidable c]{m n:StateT Ku Sem α}{Q:α->Ku->Prop}(h1:c->wpS (Kd prog w) A E s m Q st)(h2:¬ c->wpS (Kd prog w) A E s n Q st):wpS (Kd prog w) A E s (if c then m else n) Q st:=by
 by_cases h:c
 . rw[if_pos h];exact h1 h
 rw[if_neg h];exact h2 h
section
variable{u v n x i g o p:Nat}
theorem l2o(o:Nat):o+1<=2 * o+1:=by lia
theorem g1(c:¬ u ≥ v)(h:v - u<=n - x):u+(v - u) / 2 < v/\v - (u+(v - u) / 2+1)<=n - (x+1)/\u+(v - u) / 2 - u<=n - (x+1):=by
 have q:=Nat.div_lt_self (Nat.sub_pos_of_lt (Nat.lt_of_not_le c)) (zA2 2);generalize (v - u) / 2=m at *
 have t:=Nat.sub_le_sub_right h 1;exact⟨Nat.add_lt_of_lt_sub' q,zAj (Nat.sub_le_sub_left (zC2 (Nat.le_add_right u m)) v) t,by rw[Nat.add_sub_cancel_left];exact zAj (Nat.le_pred_of_lt q) t⟩
theorem g2(h:v - u<=n - max 0 n)(hi:i < v):i < u:=by lia
theorem g3(h:max 0 n+1<=o)(h':o < n - g):False:=by lia
theorem g8(h:max 0 n+1<=o)(a:g < n)(h':o < g+1):False:=by lia
theorem g4(h:p < o)(h':g+p < n):g+p+1<=g+min o (n - g)/\g+min o (n - g)<=n:=by lia
theorem g5(h:g+min o (n - g)<=i)(h':i < n):g+o<=i/\o < n - g:=by lia
theorem g6(h:p < o)(h':p<=g):g+1 - min o (g+1)<=g - p:=by lia
theorem g7(h:i < g+1 - min o (g+1)):i<=g - o/\o < g+1:=by
 by_cases c:o < g+1
 . rw[Nat.min_eq_left (zBa c)] at h;exact⟨by lia,c⟩
 rw[Nat.min_eq_right (zC3 c),Nat.sub_self] at h;exact absurd h (zBx _)
end
theorem yB{β:Type}{x:Kt}{i:Nat}{f:Option Bool->StateT Ku Sem β}{Q:β->Ku->Prop}(a:Cm prog w A s kd P lt)(b:Kv st=kd)(hi:arr[i]? = some x)(c:P x)(d:P key)(h:B lt l key x=true->wpS (Kd prog w) A E s (f (some true)) Q st)(h':B lt l key x=false->wpS (Kd prog w) A E s (f (some false)) Q st):wpS (Kd prog w) A E s (bey l key arr i >>= f) Q st:=by
 have e:wpS (Kd prog w) A E s (f (some (B lt l key x))) Q st:=by cases e:B lt l key x with | true=>exact h e | false=>exact h' e
 refine Kl ?_;unfold bey;refine Kl (wel hi ?_);cases l with
 | true=>exact wlt a b c d e
 | false=>exact Kl (wlt a b d c (Km e))
theorem wgal{n g:Nat}{Q:Option Nat->Ku->Prop}(O:Cm prog w A s kd P lt)(R:Kv st=kd)(S:P key)(T:∀ i,i < n->arr[bs+i]? = some (f i))(U:∀ i,i < n->P (f i))(hm:∀ i j,i<=j->j < n->B lt l key (f j)=true->B lt l key (f i)=true)(J:g < n)(h:∀ k,k<=n->(∀ i,i < k->B lt l key (f i)=true)->(∀ i,k<=i->i < n->B lt l key (f i)=false)->Q (some k) st):wpS (Kd prog w) A E s (gal l key arr bs n g) Q st:=by
 have L:∀ i j,i<=j->j < n->B lt l key (f i)=false->B lt l key (f j)=false:=λ i j a b c=>by
   cases e:B lt l key (f j) with
   | false=>rfl
   | true=>rw[hm i j a b e] at c;cases c
 have fin:∀ u v,u<=v->v<=n->(∀ i,i < u->B lt l key (f i)=true)->(∀ i,v<=i->i < n->B lt l key (f i)=false) ->
    wpS (Kd prog w) A E s (do
      let mut u:=u
      let mut v:=v
      for _ in [0:n] do
       if u ≥ v then break
       let m:=u+(v - u) / 2
       let some c <- bey l key arr (bs+m) | return none
       if c then u:=m+1 else v:=m
      return some v) Q st:=by
   intro u v Z X a3 a4;refine fB (λ x c d=>d=st/\c.1=none/\c.2.1<=c.2.2/\c.2.2<=n/\c.2.2 - c.2.1<=n - x/\(∀ i,i < c.2.1->B lt l key (f i)=true)/\(∀ i,c.2.2<=i->i < n->B lt l key (f i)=false)) (λ c d=>d=st/\c.1=none/\c.2.2<=n/\(∀ i,i < c.2.2->B lt l key (f i)=true)/\(∀ i,c.2.2<=i->i < n->B lt l key (f i)=false)) ?_ ?_ ⟨rfl,rfl,Z,X,zAj (zCc v u) X,a3,a4⟩ ?_
   . rintro F z x ⟨_,u,v⟩ d - Y ⟨rfl,rfl,y,C,t,r,H⟩ K p q
     subst z;refine wif (λ c=>Km (p _ _ ⟨rfl,rfl,C,λ i I=>r i (zAi I c),H⟩)) λ c=>?_
     have m:=g1 (u:=u) (v:=v) c t;have V:=zAi m.1 C;exact yB O R (T _ V) (U _ V) S (λ G=>Km (q _ _ ⟨rfl,rfl,m.1,C,m.2.1,λ i I=>hm i _ (zBw I) V G,H⟩)) λ G=>Km (q _ _ ⟨rfl,rfl,Nat.le_add_right _ _,zBa V,m.2.2,r,λ i D M=>L _ i D M G⟩)
   . exact λ c d ⟨N,D,y,C,t,r,H⟩=>⟨N,D,C,λ i I=>r i (g2 t I),H⟩
   rintro F z ⟨_,u,v⟩ d ⟨rfl,rfl,C,r,H⟩;subst z;exact Km (h v C r H)
 rw[qaW9];refine yB O R (T _ J) (U _ J) S (λ W=>wif (λ _=>?_) λ c=>absurd rfl c) λ W=>wif (λ c=>nomatch c) λ _=>?_
 . refine fB (λ x c d=>d=st/\c.1=none/\c.2.1 < c.2.2/\x+1<=c.2.2/\g+c.2.1 < n/\B lt l key (f (g+c.2.1))=true) (λ c d=>d=st/\c.1=none/\c.2.1 < c.2.2/\g+c.2.1 < n/\B lt l key (f (g+c.2.1))=true/\(c.2.2 < n - g->B lt l key (f (g+c.2.2))=false)) ?_ ?_ ⟨rfl,rfl,Nat.one_pos,zA2 _,J,W⟩ ?_
   . rintro F z x ⟨_,p,o⟩ d - Y ⟨rfl,rfl,y,C,t,r⟩ K u v
     subst z;refine wif (λ c=>Km (u _ _ ⟨rfl,rfl,y,t,r,λ h=>absurd h (Nat.not_lt_of_le c)⟩)) λ c=>?_
     have m:g+o < n:=Nat.add_lt_of_lt_sub' (Nat.lt_of_not_le c);exact yB O R (T _ m) (U _ m) S (λ G=>Km (v _ _ ⟨rfl,rfl,l2o o,zAj (zC2 C) (l2o o),m,G⟩)) λ G=>Km (u _ _ ⟨rfl,rfl,y,t,r,λ _=>G⟩)
   . exact λ c d ⟨N,D,y,C,t,r⟩=>⟨N,D,y,t,r,λ h=>(g3 C h).elim⟩
   rintro F z ⟨_,p,o⟩ d ⟨rfl,rfl,y,t,r,H⟩;subst z;exact fin (g+p+1) (g+min o (n - g)) (g4 y t).1 (g4 y t).2 (λ i I=>hm i _ (zBw I) t r) λ i D M=>L (g+o) i (g5 D M).1 M (H (g5 D M).2)
 refine fB (λ x c d=>d=st/\c.1=none/\c.2.1 < c.2.2/\x+1<=c.2.2/\c.2.1<=g/\B lt l key (f (g - c.2.1))=false) (λ c d=>d=st/\c.1=none/\c.2.1 < c.2.2/\c.2.1<=g/\B lt l key (f (g - c.2.1))=false/\(c.2.2 < g+1->B lt l key (f (g - c.2.2))=true)) ?_ ?_ ⟨rfl,rfl,Nat.one_pos,zA2 _,zBl _,W⟩ ?_
 . rintro F z x ⟨_,p,o⟩ d - Y ⟨rfl,rfl,y,C,t,r⟩ K u v
   subst z;have m:g - o < n:=zC6 (zCc g o) J;exact wif (λ c=>Km (u _ _ ⟨rfl,rfl,y,t,r,λ h=>absurd h (Nat.not_lt_of_le c)⟩)) λ c=>yB O R (T _ m) (U _ m) S (λ G=>Km (u _ _ ⟨rfl,rfl,y,t,r,λ _=>G⟩)) λ G=>Km (v _ _ ⟨rfl,rfl,l2o o,zAj (zC2 C) (l2o o),zBw (Nat.lt_of_not_le c),G⟩)
 . exact λ c d ⟨N,D,y,C,t,r⟩=>⟨N,D,y,t,r,λ h=>(g8 C J h).elim⟩
 rintro F z ⟨_,p,o⟩ d ⟨rfl,rfl,y,t,r,H⟩;subst z;exact fin (g+1 - min o (g+1)) (g - p) (g6 y t) (zAj (zCc g p) (zBa J)) (λ i I=>hm i (g - o) (g7 I).1 (zC6 (zCc g o) J) (H (g7 I).2)) λ i D M=>L _ i D M r
end
noncomputable abbrev lee(lt:Kt->Kt->Bool):Kt->Kt->Bool:=λ x y=>!lt y x
section
variable{d:Type}{le:d->d->Bool}
theorem Jc{A2 Y:List d}{y:d}:∀{A1:List d},(∀ a∈A1,le a y=true)->K4 (A1++A2) (y::Y) le=A1++K4 A2 (y::Y) le
 | [],_=>rfl
 | x::A1,h=>by rw[zBv,zBb,if_pos (h x (by simp)),Jc λ a b=>h a (by simp[b])];rfl
theorem Jd{B2 X:List d}{x:d}:∀{B1:List d},(∀ b∈B1,le x b=false)->K4 (x::X) (B1++B2) le=B1++K4 (x::X) B2 le
 | [],_=>rfl
 | b::B1,h=>by rw[zBv,zBb,if_neg (by simp[h b (by simp)]),Jd λ a c=>h a (by simp[c])];rfl
end
noncomputable def att(a:Array Kt)(i:Nat):Kt:=a.getD i (Na,Na)
theorem qS5{a:Array Kt}{i:Nat}(h:i < a.size):a[i]? = some (att a i):=by simp[att,Array.getD,h]
theorem Ed{a:Array Kt}{i:Nat}(h:i < a.size):a.toList.drop i=att a i::a.toList.drop (i+1):=by
 rw[Ld (by simpa using h)];simp[att,Array.getD,h]
def Srt(lt:Kt->Kt->Bool)(f:Nat->Kt)(n:Nat):Prop:=∀ i j,i<=j->j < n->lt (f j) (f i)=false
theorem Srt.drop{lt:Kt->Kt->Bool}{n k:Nat}(h:Srt lt f n):Srt lt (λ i=>f (k+i)) (n - k):=λ i j a b=>h _ _ (by lia) (by lia)
theorem qu6{a:Array Kt}{i k:Nat}{x:Kt}(h:x∈(a.toList.drop i).take k):∃ j,j < k/\i+j < a.size/\x=att a (i+j):=by
 obtain⟨j,b,e⟩:=List.mem_iff_getElem.mp h;rw[zBk,K8,zB7] at b;refine⟨j,by lia,by lia,?_⟩;rw[<- e,Mr,Ms];simp[att,Array.getD,show i+j < a.size by lia]
theorem qc8{a:Array Kt}{i j:Nat}:(a.extract i j).toList=(a.toList.drop i).take (j - i):=by simp[List.take_drop]
section
variable{prog:Ke}{w:Ki}{A:Kf}{E:V'->δ->Prop}{s:δ}{kd:SortKind}{P:Kt->Prop}{lt:Kt->Kt->Bool}{st:Ku}
theorem wgs{n g:Nat}{Q:Option Nat->Ku->Prop}(b:Od lt)(m:Cm prog w A s kd P lt)(o:Kv st=kd)(p:P key)(x:bs+n<=arr.size)(q:∀ i,i < arr.size->P (att arr i))(r:Srt lt (λ i=>att arr (bs+i)) n)(t:g < n)(h:∀ k,k<=n->(∀ i,i < k->B lt l key (att arr (bs+i))=true)->(∀ i,k<=i->i < n->B lt l key (att arr (bs+i))=false)->Q (some k) st):wpS (Kd prog w) A E s (gal l key arr bs n g) Q st:=by
 refine wgal (f:=λ i=>att arr (bs+i)) m o p (λ i u=>qS5 (by lia)) (λ i u=>q _ (by lia)) (λ i j a v c=>?_) t h;have d:=r i j a v;cases l with
 | false =>
   have e:lt key (att arr (bs+j))=false:=by simpa[B] using c
   show (!lt key (att arr (bs+i)))=true;rw[b.tr _ _ _ d e];rfl
 | true =>
   show lt (att arr (bs+i)) key=true;cases e:lt (att arr (bs+i)) key with
   | true=>rfl
   | false=>have:=b.tr _ _ _ e d;rw[show lt (att arr (bs+j)) key=true from c] at this;cases this
def R(st a:Ku):Prop:=Kv a=Kv st/\Ks a=Ks st/\Ko a=Ko st/\Kq a=Kq st
noncomputable def mlo:Array Kt->Array Kt->StateT Ku Sem (Array Kt):=sortPriv% PySem.Builtin.mergeLo
noncomputable def smg:Nat->StateT Ku Sem Unit:=sortPriv% PySem.Builtin.setMinGallop
theorem qaU9(a b:Array Kt):mlo a b=(do
 rule "list.sort.merge-lo"
 let tt:=a.size+b.size
 let dn (o:Array Kt) (i j:Nat):=o++a.extract i a.size++b.extract j b.size
 let la (o:Array Kt) (i j:Nat):=o++b.extract j b.size++a.extract i a.size
 let mut o:Array Kt:=#[<- elem' b 0]
 let mut i:=0
 let mut j:=1
 if j == b.size then return dn o i j
 if i+1 == a.size then return la o i j
 let mut g:=gallopOf (<- get)
 for _ in [0:tt] do
   let mut x:=0
   let mut y:=0
   for _ in [0:tt] do
     let some t <- lt' (<- elem' b j) (<- elem' a i) | return dn o i j
     if t then
       o:=o.push (<- elem' b j);j:=j+1;y:=y+1;x:=0
       if j == b.size then return dn o i j
       if y ≥ g then break
     else
       o:=o.push (<- elem' a i);i:=i+1;x:=x+1;y:=0
       if i+1 == a.size then return la o i j
       if x ≥ g then break
   rule "list.sort.gallop"
   g:=g+1
   for _ in [0:tt] do
     if g > 1 then g:=g - 1
     smg g
     let some k <- gal false (<- elem' b j) a i (a.size - i) 0 | return dn o i j
     x:=k
     if k > 0 then
       o:=o++a.extract i (i+k);i:=i+k
       if i+1 == a.size then return la o i j
       if i == a.size then return dn o i j
     o:=o.push (<- elem' b j);j:=j+1
     if j == b.size then return dn o i j
     let some k <- gal true (<- elem' a i) b j (b.size - j) 0 | return dn o i j
     y:=k
     if k > 0 then
       o:=o++b.extract j (j+k);j:=j+k
       if j == b.size then return dn o i j
     o:=o.push (<- elem' a i);i:=i+1
     if i+1 == a.size then return la o i j
     if x < 7&&y < 7 then break
   g:=g+1
   smg g
 unsupported "internal:list.sort.merge-bound"):=rfl
def Eq2(lt:Kt->Kt->Bool)(a b o:Array Kt)(i j:Nat):Prop:=o.toList++K4 (a.toList.drop i) (b.toList.drop j) (lee lt)=K4 a.toList b.toList (lee lt)
variable{a b o:Array Kt}{i j k:Nat}
theorem Eq2.done(h:Eq2 lt a b o i j)(c:j=b.size∨i=a.size):(o++a.extract i a.size++b.extract j b.size).toList=K4 a.toList b.toList (lee lt):=by
 rw[<- h,zB6,zB6,qc8,qc8,zAq];congr 1;rw[zAr (by simp),zAr (by simp)];rcases c with rfl | rfl
 . rw[show b.toList.drop b.size=[] by simp,zAd,Mv]
 rw[show a.toList.drop a.size=[] by simp,zB5,Mz]
theorem Eq2.last(h:Eq2 lt a b o i j)(hi:i+1=a.size)(d:∀ n,n < b.size->lt (att b n) (att a i)=true):(o++b.extract j b.size++a.extract i a.size).toList=K4 a.toList b.toList (lee lt):=by
 rw[<- h,zB6,zB6,qc8,qc8,zAq];congr 1;rw[zAr (by simp),zAr (by simp),Ed (a:=a) (i:=i) (by lia),show a.toList.drop (i+1)=[] from List.drop_eq_nil_of_le (by simp;lia)]
 have:=Jd (le:=lee lt) (B2:=[]) (X:=[]) (x:=att a i) (B1:=b.toList.drop j) λ x c=>by
   rw[<- zAr (l:=b.toList.drop j) (zA2 _)] at c;obtain⟨n,_,e,rfl⟩:=qu6 c;simp[d _ e]
 rw[zAd] at this;rw[this];simp
theorem Eq2.pb(h:Eq2 lt a b o i j)(hi:i < a.size)(c:j < b.size)(d:lt (att b j) (att a i)=true):Eq2 lt a b (o.push (att b j)) i (j+1):=by
 unfold Eq2 at h ⊢;rw[<- h,Array.toList_push,zAq,Ed hi,Ed c,zBb,if_neg (by simp[d])];rfl
theorem Eq2.pa(h:Eq2 lt a b o i j)(hi:i < a.size)(c:j < b.size)(d:lt (att b j) (att a i)=false):Eq2 lt a b (o.push (att a i)) (i+1) j:=by
 unfold Eq2 at h ⊢;rw[<- h,Array.toList_push,zAq,Ed hi,Ed c,zBb,if_pos (by simp[d])];rfl
theorem Eq2.ga(h:Eq2 lt a b o i j)(c:j < b.size)(d:∀ n,n < k->i+n < a.size->lt (att b j) (att a (i+n))=false):Eq2 lt a b (o++a.extract i (i+k)) (i+k) j:=by
 unfold Eq2 at h ⊢;rw[<- h,zB6,qc8,zAq,show i+k - i=k by lia,Ed c];congr 1
 conv=>rhs;rw[<- zBg k (a.toList.drop i)]
 rw[Jc (le:=lee lt),Me];intro x e;obtain⟨n,f,g,rfl⟩:=qu6 e;simp[d n f g]
theorem Eq2.gb(h:Eq2 lt a b o i j)(hi:i < a.size)(c:∀ n,n < k->j+n < b.size->lt (att b (j+n)) (att a i)=true):Eq2 lt a b (o++b.extract j (j+k)) i (j+k):=by
 unfold Eq2 at h ⊢;rw[<- h,zB6,qc8,zAq,show j+k - j=k by lia,Ed hi];congr 1
 conv=>rhs;rw[<- zBg k (b.toList.drop j)]
 rw[Jd (le:=lee lt),Me];intro x d;obtain⟨n,e,f,rfl⟩:=qu6 d;simp[c n e f]
section
variable{β:Type}{Q:β->Ku->Prop}
theorem eB{f:Kt->StateT Ku Sem β}(hi:i < a.size)(h:wpS (Kd prog w) A E s (f (att a i)) Q st):wpS (Kd prog w) A E s (elem' a i >>= f) Q st:=Kl (wel (qS5 hi) h)
theorem lB{x y:Kt}{f:Option Bool->StateT Ku Sem β}(a:Cm prog w A s kd P lt)(b:Kv st=kd)(c:P x)(d:P y)(h:lt x y=true->wpS (Kd prog w) A E s (f (some true)) Q st)(h':lt x y=false->wpS (Kd prog w) A E s (f (some false)) Q st):wpS (Kd prog w) A E s (lt' x y >>= f) Q st:=Kl (wlt a b c d (by cases e:lt x y<;>simp_all))
theorem mB{g:Nat}{a:Ku}{f:Unit->StateT Ku Sem β}(c:R a st)(h:∀ b,R a b->wpS (Kd prog w) A E s (f ()) Q b):wpS (Kd prog w) A E s (smg g >>= f) Q st:=Kl (Kr (h _ c))
theorem sB{f:Option Nat->StateT Ku Sem β}(e:Od lt)(g:Cm prog w A s kd P lt)(j:Kv st=kd)(m:P key)(n:∀ i,i < arr.size->P (att arr i))(o:Srt lt (att arr) arr.size)(p:bs < arr.size)(h:∀ k,bs+k<=arr.size->(∀ i,i < k->B lt l key (att arr (bs+i))=true)->(bs+k < arr.size->B lt l key (att arr (bs+k))=false)->wpS (Kd prog w) A E s (f (some k)) Q st):wpS (Kd prog w) A E s (gal l key arr bs (arr.size - bs) 0 >>= f) Q st:=Kl (wgs e g j m (by lia) n o.drop (by lia) λ k a b c=>h k (by lia) b λ d=>c k (zA2 _) (by lia))
end
theorem ltn{x y:Nat}(h:¬ (x == y)=true)(h':x<=y):x < y:=Nat.lt_of_le_of_ne h' λ e=>h (zBt.mpr e)
theorem sa{x i j:Nat}(h:x<=i+j):x+1<=i+1+j:=Nat.succ_add i j ▸ zC2 h
theorem la{x i j k:Nat}(h:x<=i+j):x<=i+(j+k):=by lia
theorem lb{x i j k:Nat}(h:x<=i+j):x<=i+k+j:=by lia
theorem nt{b:Bool}(h:(!b)=true):b=false:=by simpa using h
theorem nf{b:Bool}(h:(!b)=false):b=true:=by simpa using h
theorem wmlo{Q:Array Kt->Ku->Prop}(hO:Od lt)(Y:Cm prog w A s kd P lt)(Z:Kv st=kd)(L:∀ n,n < a.size->P (att a n))(M:∀ n,n < b.size->P (att b n))(a0:Srt lt (att a) a.size)(a1:Srt lt (att b) b.size)(V:0 < a.size)(N:0 < b.size)(h0:lt (att b 0) (att a 0)=true)(hl:∀ n,n < b.size->lt (att b n) (att a (a.size - 1))=true)(h:∀ r f,R st f->r.toList=K4 a.toList b.toList (lee lt)->Q r f):wpS (Kd prog w) A E s (mlo a b) Q st:=by
 have H:∀ i,i+1=a.size->∀ n,n < b.size->lt (att b n) (att a i)=true:=λ i e n hn=>by rw[Nat.eq_sub_of_add_eq e];exact hl n hn
 have e1:Eq2 lt a b #[att b 0] 0 1:=Eq2.pb (o:=#[]) (i:=0) (j:=0) rfl V N h0;rw[qaU9];refine rB (eB N (wif (λ c=>Km (h _ st ⟨rfl,rfl,rfl,rfl⟩ (e1.done (.inl (eq_of_beq c))))) λ c1=>wif (λ c=>Km (h _ st ⟨rfl,rfl,rfl,rfl⟩ (e1.last (eq_of_beq c) (H 0 (eq_of_beq c))))) λ c2=>gB ?_))
 let D (c:Option (Array Kt)):Prop:=∃ r,c=some r/\r.toList=K4 a.toList b.toList (lee lt)
 let G (n:Nat) (o:Array Kt) (i j:Nat):Prop:=Eq2 lt a b o i j/\i+1 < a.size/\j < b.size/\n<=i+j
 refine fB (λ x c f=>R st f/\c.1=none/\G (x+1) c.2.1 c.2.2.1 c.2.2.2.1) (λ c f=>R st f/\D c.1) ?_ ?_ ⟨⟨rfl,rfl,rfl,rfl⟩,rfl,e1,ltn c2 V,ltn c1 N,zA2 _⟩ ?_
 . rintro F z x ⟨_,o,i,j,g⟩ O - hx ⟨W,rfl,g1,g2,g3,g4⟩ K p n
   subst z;refine fB (λ y c f=>R st f/\c.1=none/\G (x+1+y) c.2.1 c.2.2.1 c.2.2.2.1) (λ c f=>R st f/\(D c.1∨c.1=none/\G (x+2) c.2.1 c.2.2.1 c.2.2.2.1)) ?_ ?_ ⟨W,rfl,g1,g2,g3,g4⟩ ?_
   . rintro F z y ⟨_,o,i,j,_,_⟩ S - hy ⟨m,rfl,v,t,l,B⟩ K p n
     subst z;have I:=zC7 t;have k6:=zAj (Nat.le_add_right (x+1) y) B;refine eB l (eB I (lB Y (m.1.trans Z) (M _ l) (L _ I) (λ hb=>?_) λ hb=>?_))
     . have e2:=v.pb I l hb
       exact eB l (wif (λ c=>Km (p _ _ ⟨m,.inl ⟨_,rfl,e2.done (.inl (eq_of_beq c))⟩⟩)) λ c=>wif (λ _=>Km (p _ _ ⟨m,.inr ⟨rfl,e2,t,ltn c l,zC2 k6⟩⟩)) λ _=>Km (n _ _ ⟨m,rfl,e2,t,ltn c l,zC2 B⟩))
     have e2:=v.pa I l hb;exact eB I (wif (λ c=>Km (p _ _ ⟨m,.inl ⟨_,rfl,e2.last (eq_of_beq c) (H _ (eq_of_beq c))⟩⟩)) λ c=>wif (λ _=>Km (p _ _ ⟨m,.inr ⟨rfl,e2,ltn c t,l,sa k6⟩⟩)) λ _=>Km (n _ _ ⟨m,rfl,e2,ltn c t,l,sa B⟩))
   . rintro c S ⟨m,k0,v,t,l,B⟩
     exact⟨m,.inr ⟨k0,v,t,l,by lia⟩⟩
   rintro F z ⟨c,c'⟩ S ⟨m,⟨r,rfl,e⟩ | ⟨e,v,t,l,B⟩⟩
   . subst z;exact Km (p _ _ ⟨m,r,rfl,e⟩)
   cases e;subst z;refine rB (fB (λ y c f=>R st f/\c.1=none/\G (x+2) c.2.1 c.2.2.1 c.2.2.2.1) (λ c f=>R st f/\(D c.1∨c.1=none/\G (x+2) c.2.1 c.2.2.1 c.2.2.2.1)) ?_ ?_ ⟨m,rfl,v,t,l,B⟩ ?_)
   . rintro F z y ⟨_,o,i,j,g,_,_⟩ a2 - hy ⟨r3,rfl,v,t,l,B⟩ K p n
     subst z;have I:=zC7 t;dsimp -zeta only
     extract_lets +onlyGivenNames _ _ _ _ _ _ _ _ _ _ _ _ J
     suffices u:∀ g,wpS (Kd prog w) A E s (J () g) K a2 from wif (λ _=>u _) λ _=>u _
     intro g;dsimp +zetaDelta -zeta only;refine mB r3 λ T C=>eB l (sB hO Y (C.1.trans Z) (M _ l) L a0 I λ k q1 q2 q3=>?_)
     dsimp -zeta only
     extract_lets +onlyGivenNames _ J
     have ea:=v.ga (k:=k) l λ n h1 _=>nt (q2 n h1)
     suffices u:∀ o i,Eq2 lt a b o i j->i+1 < a.size->x+2<=i+j->lt (att b j) (att a i)=true->wpS (Kd prog w) A E s (J () o i) K T from wif (λ c=>wif (λ d=>Km (p _ _ ⟨C,.inl ⟨_,rfl,ea.last (eq_of_beq d) (H _ (eq_of_beq d))⟩⟩)) λ d=>wif (λ X=>Km (p _ _ ⟨C,.inl ⟨_,rfl,ea.done (.inr (eq_of_beq X))⟩⟩)) λ X=>u _ _ ea (ltn d (ltn X q1)) (lb B) (nf (q3 (ltn X q1)))) λ c=>by
       obtain rfl:=Nat.eq_zero_of_not_pos c;exact u _ _ v t B (nf (q3 I))
     intro o i e z1 zb z;dsimp +zetaDelta -zeta only;have U:=zC7 z1;have e2:=e.pb U l z;refine eB l (wif (λ d=>Km (p _ _ ⟨C,.inl ⟨_,rfl,e2.done (.inl (eq_of_beq d))⟩⟩)) λ d=>?_);have z2:=ltn d l;refine eB U (sB hO Y (C.1.trans Z) (L _ U) M a1 z2 λ q p1 p2 p3=>?_);dsimp -zeta only
     extract_lets +onlyGivenNames _ _ J
     have eb:=e2.gb (k:=q) U λ n h1 h2=>p2 n h1
     suffices u:∀ o j,Eq2 lt a b o i j->j < b.size->x+2<=i+j->lt (att b j) (att a i)=false->wpS (Kd prog w) A E s (J () o j) K T from wif (λ c=>wif (λ d=>Km (p _ _ ⟨C,.inl ⟨_,rfl,eb.done (.inl (eq_of_beq d))⟩⟩)) λ d=>u _ _ eb (ltn d p1) (la (la zb)) (p3 (ltn d p1))) λ c=>by
       obtain rfl:=Nat.eq_zero_of_not_pos c;exact u _ _ e2 z2 (la zb) (p3 z2)
     intro o j e3 z3 zc z4;have z5:=e3.pa U z3 z4;refine eB U (wif (λ d=>Km (p _ _ ⟨C,.inl ⟨_,rfl,z5.last (eq_of_beq d) (H _ (eq_of_beq d))⟩⟩)) λ d=>?_);exact wif (λ _=>Km (p _ _ ⟨C,.inr ⟨rfl,z5,ltn d z1,z3,lb zc⟩⟩)) λ _=>Km (n _ _ ⟨C,rfl,z5,ltn d z1,z3,lb zc⟩)
   . exact λ _ _ z=>⟨z.1,.inr z.2⟩
   rintro F z ⟨c,c'⟩ S ⟨m,⟨r,rfl,e⟩ | ⟨e,v,t,l,B⟩⟩<;>subst z
   . exact Km (p _ _ ⟨m,r,rfl,e⟩)
   cases e;exact mB m λ T C=>Km (n _ _ ⟨C,rfl,v,t,l,B⟩)
 . rintro c O ⟨W,_,g1,g2,g3,g4⟩
   lia
 rintro F z ⟨c,c'⟩ O ⟨W,r,rfl,e⟩;subst z;exact Km (h r O W e)
end
section
variable{prog:Ke}{w:Ki}{A:Kf}{E:V'->δ->Prop}{s:δ}{kd:SortKind}{P:Kt->Prop}{lt:Kt->Kt->Bool}{st:Ku}
noncomputable def mhi:Array Kt->Array Kt->StateT Ku Sem (Array Kt):=sortPriv% PySem.Builtin.mergeHi
theorem qaV0(a b:Array Kt):mhi a b=(do
 rule "list.sort.merge-hi"
 let tt:=a.size+b.size
 let dn (o:Array Kt) (i j:Nat):=a.extract 0 i++b.extract 0 j++o.reverse
 let fb (o:Array Kt) (i j:Nat):=b.extract 0 j++a.extract 0 i++o.reverse
 let mut i:=a.size - 1
 let mut j:=b.size
 let mut o:Array Kt:=#[<- elem' a i]
 if i == 0 then return dn o i j
 if j == 1 then return fb o i j
 let mut g:=gallopOf (<- get)
 for _ in [0:tt] do
   let mut x:=0
   let mut y:=0
   for _ in [0:tt] do
     let some t <- lt' (<- elem' b (j - 1)) (<- elem' a (i - 1)) | return dn o i j
     if t then
       i:=i - 1;o:=o.push (<- elem' a i);x:=x+1;y:=0
       if i == 0 then return dn o i j
       if x ≥ g then break
     else
       j:=j - 1;o:=o.push (<- elem' b j);y:=y+1;x:=0
       if j == 1 then return fb o i j
       if y ≥ g then break
   rule "list.sort.gallop"
   g:=g+1
   for _ in [0:tt] do
     if g > 1 then g:=g - 1
     smg g
     let some q <- gal false (<- elem' b (j - 1)) a 0 i (i - 1) | return dn o i j
     let k:=i - q
     x:=k
     if k > 0 then
       o:=o++(a.extract q i).reverse;i:=q
       if i == 0 then return dn o i j
     j:=j - 1;o:=o.push (<- elem' b j)
     if j == 1 then return fb o i j
     let some q <- gal true (<- elem' a (i - 1)) b 0 j (j - 1) | return dn o i j
     let k:=j - q
     y:=k
     if k > 0 then
       o:=o++(b.extract q j).reverse;j:=q
       if j == 1 then return fb o i j
       if j == 0 then return dn o i j
     i:=i - 1;o:=o.push (<- elem' a i)
     if i == 0 then return dn o i j
     if x < 7&&y < 7 then break
   g:=g+1
   smg g
 unsupported "internal:list.sort.merge-bound"):=rfl
def Eq3(lt:Kt->Kt->Bool)(a b o:Array Kt)(i j:Nat):Prop:=K4 (a.toList.take i) (b.toList.take j) (lee lt)++o.toList.reverse=K4 a.toList b.toList (lee lt)
variable{a b o:Array Kt}{i j k:Nat}
theorem Je{a:Array Kt}{k:Nat}{x:Kt}(h:x∈a.toList.take k):∃ j,j < k/\j < a.size/\x=att a j:=by
 obtain⟨j,b,c,e⟩:=qu6 (i:=0) (k:=k) (by simpa using h);exact⟨j,b,by lia,by rw[e,zAb]⟩
theorem qab8{a:Array Kt}{i:Nat}(h:q<=i):a.toList.take i=a.toList.take q++(a.extract q i).toList:=by
 rw[qc8]
 conv=>lhs;rw[show i=q+(i - q) by lia,M6]
theorem ext1{a:Array Kt}{i:Nat}(h:0 < i)(hi:i<=a.size):(a.extract (i - 1) i).toList=[att a (i - 1)]:=by
 rw[qc8,Ed (by lia),show i - (i - 1)=1 by lia];rfl
theorem Eq3.done(h:Eq3 lt a b o i j)(c:i=0∨j=0):(a.extract 0 i++b.extract 0 j++o.reverse).toList=K4 a.toList b.toList (lee lt):=by
 rw[<- h,zB6,zB6,qc8,qc8,Array.toList_reverse];congr 1;rcases c with rfl | rfl
 . simp
 simp
theorem Eq3.first(h:Eq3 lt a b o i j)(c:j=1)(k:0 < b.size)(d:∀ n,n < a.size->lt (att b 0) (att a n)=true):(b.extract 0 j++a.extract 0 i++o.reverse).toList=K4 a.toList b.toList (lee lt):=by
 rw[<- h,zB6,zB6,qc8,qc8,Array.toList_reverse];congr 1;subst c
 have:=mg_r (le:=lee lt) (B2:=[]) (B1:=b.toList.take 1) (X:=a.toList.take i) λ y e x f=>by
   obtain⟨n,_,g,rfl⟩:=Je f;obtain⟨m,l,p,rfl⟩:=Je e;obtain rfl:m=0:=by lia
   simp[d _ g]
 rw[zAd] at this;rw[this];simp
theorem Eq3.ga(h:Eq3 lt a b o i j)(f:Od lt)(c:Srt lt (att b) b.size)(g:q<=i)(s:0 < j)(k:j<=b.size)(l:∀ n,q<=n->n < i->n < a.size->lt (att b (j - 1)) (att a n)=true) :
   Eq3 lt a b (o++(a.extract q i).reverse) q j:=by
 unfold Eq3 at h ⊢;rw[<- h,qab8 g,Jb (le:=lee lt)]
 . simp
 intro x d y p;rw[qc8] at d;obtain⟨n,t,r,rfl⟩:=qu6 d;obtain⟨m,u,v,rfl⟩:=Je p;have e:=l (q+n) (by lia) (by lia) r;show (!lt (att b m) (att a (q+n)))=false;cases e2:lt (att b m) (att a (q+n)) with
 | true=>rfl
 | false=>rw[f.tr _ _ _ e2 (c m (j - 1) (by lia) (by lia))] at e;cases e
theorem Eq3.gb(h:Eq3 lt a b o i j)(f:Od lt)(c:Srt lt (att a) a.size)(g:q<=j)(hi:0 < i)(k:i<=a.size)(l:∀ n,q<=n->n < j->n < b.size->lt (att b n) (att a (i - 1))=false) :
   Eq3 lt a b (o++(b.extract q j).reverse) i q:=by
 unfold Eq3 at h ⊢;rw[<- h,qab8 g,G7 (le:=lee lt)]
 . simp
 intro y d x p;rw[qc8] at d;obtain⟨n,s,r,rfl⟩:=qu6 d;obtain⟨m,t,u,rfl⟩:=Je p;have e:=l (q+n) (by lia) (by lia) r;show (!lt (att b (q+n)) (att a m))=true;rw[f.tr _ _ _ (c m (i - 1) (by lia) (by lia)) e];rfl
theorem Eq3.pa(h:Eq3 lt a b o i j)(f:Od lt)(c:Srt lt (att b) b.size)(hi:0 < i)(d:i<=a.size)(g:0 < j)(e:j<=b.size)(k:lt (att b (j - 1)) (att a (i - 1))=true):Eq3 lt a b (o.push (att a (i - 1))) (i - 1) j:=by
 have:=h.ga f c (q:=i - 1) (by lia) g e λ n l m _=>by rw[show n=i - 1 by lia];exact k
 rwa[show o++(a.extract (i - 1) i).reverse=o.push (att a (i - 1)) from Array.toList_inj.mp (by rw[zB6,Array.toList_reverse,ext1 hi d,Array.toList_push];rfl)] at this
theorem Eq3.pb(h:Eq3 lt a b o i j)(f:Od lt)(c:Srt lt (att a) a.size)(hi:0 < i)(d:i<=a.size)(g:0 < j)(e:j<=b.size)(k:lt (att b (j - 1)) (att a (i - 1))=false):Eq3 lt a b (o.push (att b (j - 1))) i (j - 1):=by
 have:=h.gb f c (q:=j - 1) (by lia) hi d λ n l m _=>by rw[show n=j - 1 by lia];exact k
 rwa[show o++(b.extract (j - 1) j).reverse=o.push (att b (j - 1)) from Array.toList_inj.mp (by rw[zB6,Array.toList_reverse,ext1 g e,Array.toList_push];rfl)] at this
theorem pz{x:Nat}(h:¬ (x == 0)=true):0 < x:=Nat.pos_of_ne_zero λ e=>h (zBt.mpr e)
theorem p1{x:Nat}(h:¬ (x == 1)=true)(h':0 < x):1 < x:=Nat.lt_of_le_of_ne h' λ e=>h (zBt.mpr e.symm)
theorem dy{x y i j:Nat}(h:x+y+i+j<=N):x+i+j<=N:=by lia
theorem lc{x i j:Nat}(h:x+i+j<=N)(h':q<=i):x+q+j<=N:=by lia
theorem ld{x i j:Nat}(h:x+i+j<=N)(h':q<=j):x+i+q<=N:=by lia
theorem mw{x i j:Nat}(h:x+i+j<=N)(h':0 < i):x+1+(i - 1)+j<=N:=by lia
theorem mv{x i j:Nat}(h:x+i+j<=N)(h':0 < j):x+1+i+(j - 1)<=N:=by lia
theorem sH{β:Type}{Q:β->Ku->Prop}{n:Nat}{f:Option Nat->StateT Ku Sem β}(e:Od lt)(g:Cm prog w A s kd P lt)(m:Kv st=kd)(o:P key)(p:∀ i,i < arr.size->P (att arr i))(r:Srt lt (att arr) arr.size)(t:0 < n)(u:n<=arr.size)(h:∀ q,q<=n->(0 < q->B lt l key (att arr (q - 1))=true)->(∀ i,q<=i->i < n->B lt l key (att arr i)=false)->wpS (Kd prog w) A E s (f (some q)) Q st):wpS (Kd prog w) A E s (gal l key arr 0 n (n - 1) >>= f) Q st :=
 Kl (wgs e g m o (by lia) p (λ i j a b=>r _ _ (by lia) (by lia)) (by lia) λ k a b c=>h k a (λ d=>zAb (k - 1) ▸ b _ (Nat.sub_one_lt_of_lt d)) λ i x y=>zAb i ▸ c i x y)
theorem wmhi{Q:Array Kt->Ku->Prop}(S:Od lt)(hC:Cm prog w A s kd P lt)(hk:Kv st=kd)(W:∀ n,n < a.size->P (att a n))(X:∀ n,n < b.size->P (att b n))(T:Srt lt (att a) a.size)(L:Srt lt (att b) b.size)(Y:0 < a.size)(B:0 < b.size)(h0:∀ n,n < a.size->lt (att b 0) (att a n)=true)(hl:lt (att b (b.size - 1)) (att a (a.size - 1))=true)(h:∀ r f,R st f->r.toList=K4 a.toList b.toList (lee lt)->Q r f):wpS (Kd prog w) A E s (mhi a b) Q st:=by
 have e1:Eq3 lt a b #[att a (a.size - 1)] (a.size - 1) b.size :=
   Eq3.pa (o:=#[]) (i:=a.size) (j:=b.size) (by unfold Eq3;rw[show a.toList.take a.size=a.toList from zAr (zCh zB7),show b.toList.take b.size=b.toList from zAr (zCh zB7)];simp) S L Y (zA2 _) B (zA2 _) hl
 rw[qaV0];refine rB (eB (Nat.sub_one_lt_of_lt Y) (wif (λ c=>Km (h _ st ⟨rfl,rfl,rfl,rfl⟩ (e1.done (.inl (eq_of_beq c))))) λ c1=>wif (λ c=>Km (h _ st ⟨rfl,rfl,rfl,rfl⟩ (e1.first (eq_of_beq c) B h0))) λ c2=>gB ?_))
 let D (c:Option (Array Kt)):Prop:=∃ r,c=some r/\r.toList=K4 a.toList b.toList (lee lt)
 let G (n:Nat) (o:Array Kt) (i j:Nat):Prop:=Eq3 lt a b o i j/\0 < i/\i<=a.size/\1 < j/\j<=b.size/\n+i+j<=a.size+b.size
 refine fB (λ x c f=>R st f/\c.1=none/\G (x+1) c.2.2.2.1 c.2.1 c.2.2.1) (λ c f=>R st f/\D c.1) ?_ ?_ ⟨⟨rfl,rfl,rfl,rfl⟩,rfl,e1,pz c1,zCc _ _,p1 c2 B,zA2 _,mw (x:=0) (by lia) Y⟩ ?_
 . rintro F z x ⟨_,i,j,o,g⟩ Z - hx ⟨r1,rfl,g1,g2,g3,g4,g5,g6⟩ K p n
   subst z;refine fB (λ y c f=>R st f/\c.1=none/\G (x+1+y) c.2.2.2.1 c.2.1 c.2.2.1) (λ c f=>R st f/\(D c.1∨c.1=none/\G (x+2) c.2.2.2.1 c.2.1 c.2.2.1)) ?_ ?_ ⟨r1,rfl,g1,g2,g3,g4,g5,g6⟩ ?_
   . rintro F z y ⟨_,i,j,o,_,_⟩ a0 - hy ⟨l,rfl,M,k,m,C,v,H⟩ K p n
     subst z;have U:=zC7 C;have N:=Nat.sub_one_lt_of_le k m;have I:=Nat.sub_one_lt_of_le U v;refine eB I (eB N (lB hC (l.1.trans hk) (X _ I) (W _ N) (λ hb=>?_) λ hb=>?_))
     . have e2:=M.pa S L k m U v hb
       exact eB N (wif (λ c=>Km (p _ _ ⟨l,.inl ⟨_,rfl,e2.done (.inl (eq_of_beq c))⟩⟩)) λ c=>wif (λ _=>Km (p _ _ ⟨l,.inr ⟨rfl,e2,pz c,zBa N,C,v,mw (dy H) k⟩⟩)) λ _=>Km (n _ _ ⟨l,rfl,e2,pz c,zBa N,C,v,mw H k⟩))
     have e2:=M.pb S T k m U v hb;have y0:=Nat.sub_pos_of_lt C;exact eB I (wif (λ c=>Km (p _ _ ⟨l,.inl ⟨_,rfl,e2.first (eq_of_beq c) B h0⟩⟩)) λ c=>wif (λ _=>Km (p _ _ ⟨l,.inr ⟨rfl,e2,k,m,p1 c y0,zBa I,mv (dy H) U⟩⟩)) λ _=>Km (n _ _ ⟨l,rfl,e2,k,m,p1 c y0,zBa I,mv H U⟩))
   . rintro c a0 ⟨l,k0,M,k,m,C,v,H⟩
     exact⟨l,.inr ⟨k0,M,k,m,C,v,by lia⟩⟩
   rintro F z ⟨c,c'⟩ a0 ⟨l,⟨r,rfl,e⟩ | ⟨e,M,k,m,C,v,H⟩⟩
   . subst z;exact Km (p _ _ ⟨l,r,rfl,e⟩)
   cases e;subst z;refine rB (fB (λ y c f=>R st f/\c.1=none/\G (x+2) c.2.2.2.1 c.2.1 c.2.2.1) (λ c f=>R st f/\(D c.1∨c.1=none/\G (x+2) c.2.2.2.1 c.2.1 c.2.2.1)) ?_ ?_ ⟨l,rfl,M,k,m,C,v,H⟩ ?_)
   . rintro F z y ⟨_,i,j,o,g,_,_⟩ a2 - hy ⟨r3,rfl,M,k,m,C,v,H⟩ K p n
     subst z;have U:=zC7 C;have I:=Nat.sub_one_lt_of_le U v;have y0:=Nat.sub_pos_of_lt C;dsimp -zeta only
     extract_lets +onlyGivenNames _ _ _ _ _ _ _ _ _ _ _ _ J
     suffices u:∀ g,wpS (Kd prog w) A E s (J () g) K a2 from wif (λ _=>u _) λ _=>u _
     intro g;dsimp +zetaDelta -zeta only;refine mB r3 λ a1 O=>eB I (sH S hC (O.1.trans hk) (X _ I) W T k m λ q V q2 q3=>?_)
     dsimp -zeta only
     extract_lets +onlyGivenNames _ _ J
     have ea:=M.ga S L V U v λ n h1 h2 _=>nf (q3 n h1 h2)
     suffices u:∀ i o,Eq3 lt a b o i j->0 < i->i<=a.size->x+2+i+j<=a.size+b.size->lt (att b (j - 1)) (att a (i - 1))=false->wpS (Kd prog w) A E s (J () i o) K a1 from wif (λ c=>wif (λ d=>Km (p _ _ ⟨O,.inl ⟨_,rfl,ea.done (.inl (eq_of_beq d))⟩⟩)) λ d=>u _ _ ea (pz d) (zAj V m) (lc H V) (nt (q2 (pz d)))) λ c=>by
       obtain rfl:=Nat.le_antisymm V (Nat.le_of_sub_eq_zero (Nat.eq_zero_of_not_pos c));exact u _ _ M k m H (nt (q2 k))
     intro i o e z1 z2 zb z;dsimp +zetaDelta -zeta only;have N:=Nat.sub_one_lt_of_le z1 z2;have e2:=e.pb S T z1 z2 U v z;refine eB I (wif (λ d=>Km (p _ _ ⟨O,.inl ⟨_,rfl,e2.first (eq_of_beq d) B h0⟩⟩)) λ d=>?_);refine eB N (sH S hC (O.1.trans hk) (W _ N) X L y0 (zBa I) λ q V q2 q3=>?_);dsimp -zeta only
     extract_lets +onlyGivenNames _ _ _ J
     have eb:=e2.gb S T V z1 z2 λ n h1 h2 _=>q3 n h1 h2
     suffices u:∀ j o,Eq3 lt a b o i j->1 < j->j<=b.size->x+2+i+j<=a.size+b.size->lt (att b (j - 1)) (att a (i - 1))=true->wpS (Kd prog w) A E s (J () j o) K a1 from wif (λ c=>wif (λ d=>Km (p _ _ ⟨O,.inl ⟨_,rfl,eb.first (eq_of_beq d) B h0⟩⟩)) λ d=>wif (λ t=>Km (p _ _ ⟨O,.inl ⟨_,rfl,eb.done (.inr (eq_of_beq t))⟩⟩)) λ t=>u _ _ eb (p1 d (pz t)) (zAj V (zBa I)) (ld (ld zb (zCc _ 1)) V) (q2 (pz t))) λ c=>by
       obtain rfl:=Nat.le_antisymm V (Nat.le_of_sub_eq_zero (Nat.eq_zero_of_not_pos c));exact u _ _ e2 (p1 d y0) (zBa I) (ld zb (zCc _ 1)) (q2 y0)
     intro j o e3 y1 y2 y5 y4;have e4:=e3.pa S L z1 z2 (zC7 y1) y2 y4;exact eB N (wif (λ d=>Km (p _ _ ⟨O,.inl ⟨_,rfl,e4.done (.inl (eq_of_beq d))⟩⟩)) λ d=>wif (λ _=>Km (p _ _ ⟨O,.inr ⟨rfl,e4,pz d,zBa N,y1,y2,lc y5 (zCc _ 1)⟩⟩)) λ _=>Km (n _ _ ⟨O,rfl,e4,pz d,zBa N,y1,y2,lc y5 (zCc _ 1)⟩))
   . exact λ _ _ z=>⟨z.1,.inr z.2⟩
   rintro F z ⟨c,c'⟩ a0 ⟨l,⟨r,rfl,e⟩ | ⟨e,M,k,m,C,v,H⟩⟩<;>subst z
   . exact Km (p _ _ ⟨l,r,rfl,e⟩)
   cases e;exact mB l λ a1 O=>Km (n _ _ ⟨O,rfl,M,k,m,C,v,H⟩)
 . rintro c Z ⟨r1,_,g1,g2,g3,g4,g5,g6⟩
   lia
 rintro F z ⟨c,c'⟩ Z ⟨r1,r,rfl,e⟩;subst z;exact Km (h r Z r1 e)
end
theorem qn0{ys:Array Kt}{i j:Nat}(h:xs[i]? = ys[j]?):att xs i=att ys j:=by
 have e:∀(a:Array Kt) k,att a k=(a[k]?).getD (Na,Na):=λ a k=>by simp[att,Array.getD_eq_getD_getElem?]
 rw[e,e,h]
theorem qal4{src d:Nat}(a:src < xs.size)(b:d<=src)(k:Nat) :
   att (bubble xs src d) k=if k=src - d then att xs src else if src - d < k/\k<=src then att xs (k - 1) else att xs k:=by
 have e:=getElem?_bubble a d b k;split at e
 . rw[if_pos (by assumption)];exact qn0 e
 rw[if_neg (by assumption)];split at e
 . rw[if_pos (by assumption)];exact qn0 e
 rw[if_neg (by assumption)];exact qn0 e
theorem qal3{i j:Nat}(a:j<=xs.size)(k:Nat) :
   att (mirror xs i j ((j - i) / 2)) k=if i<=k/\k < j then att xs (i+j - 1 - k) else att xs k:=by
 have e:=getElem?_mirror_all (i:=i) a k;split at e
 . rw[if_pos (by assumption)];exact qn0 e
 rw[if_neg (by assumption)];exact qn0 e
theorem qay1{a:Array Kt}{i:Nat}(h:i < a.size):att a i∈a.toList:=by simp[att,Array.getD,h]
theorem Srt.more{lt:Kt->Kt->Bool}{x:Nat}(h:Srt lt f x)(d:Od lt)(e:0 < x->lt (f x) (f (x - 1))=false):Srt lt f (x+1):=λ i j a b=>by
 by_cases c:j < x
 . exact h i j a c
 obtain rfl:j=x:=by lia
 by_cases q:i=j
 . rw[q];exact d.ir _
 exact d.tr _ _ _ (h i (j - 1) (by lia) (by lia)) (e (by lia))
structure Bt(a0:Array Kt)(lo:Nat)(st st':Ku):Prop where
 kd:Kv st'=Kv st
 fl:Kq st'=Kq st
 pd:Ko st'=Ko st
 pm:(Ks st').Perm a0
 pr:∀ i,i < lo->att (Ks st') i=att (Ks st) i
section
variable{prog:Ke}{w:Ki}{A:Kf}{E:V'->δ->Prop}{s:δ}{kd:SortKind}{lt:Kt->Kt->Bool}{st X:Ku}{Z:Array Kt}{Y:Nat}
theorem Bt.sz(h:Bt Z Y st X):(Ks X).size=Z.size:=h.pm.size_eq
theorem Bt.mem(h:Bt Z Y st X){i:Nat}(hi:i < Z.size):att (Ks X) i∈Z.toList:=(zBn.mp h.pm).mem_iff.mp (qay1 (by rw[h.sz];exact hi))
theorem Bt.set(h:Bt Z Y st X)(b:xs.Perm (Ks X))(c:∀ i,i < Y->att xs i=att (Ks X) i):Bt Z Y st (Kw X xs) :=
 ⟨h.kd,h.fl,h.pd,b.trans h.pm,λ i a=>(c i a).trans (h.pr i a)⟩
abbrev Cn(prog:Ke)(w:Ki)(A:Kf)(s:δ)(kd:SortKind)(Z:Array Kt)(lt:Kt->Kt->Bool):Prop:=Cm prog w A s kd (λ x=>x∈Z.toList) lt
theorem aB{β:Type}{i j:Nat}{Q:β->Ku->Prop}{f:Option Bool->StateT Ku Sem β}(b:Cn prog w A s kd Z lt)(c:Kv st=kd)(h:Bt Z Y st X)(hi:i < Z.size)(a:j < Z.size)(h':lt (att (Ks X) i) (att (Ks X) j)=true->wpS (Kd prog w) A E s (f (some true)) Q X)(d:lt (att (Ks X) i) (att (Ks X) j)=false->wpS (Kd prog w) A E s (f (some false)) Q X):wpS (Kd prog w) A E s (ltAt' i j >>= f) Q X:=by
 refine Kl ?_;rw[ltAt'_eq];refine gB (eB (by rw[h.sz];exact hi) (eB (by rw[h.sz];exact a) (wlt b (h.kd.trans c) (h.mem hi) (h.mem a) ?_)));cases e:lt (att (Ks X) i) (att (Ks X) j) with
 | true=>exact h' e
 | false=>exact d e
theorem wmv{p:Nat}{Q:Unit->Ku->Prop}(h:Q () (Kw X (bubble (Ks X) p (p - q)))):wpS (Kd prog w) A E s (moveDown' p q) Q X:=by
 rw[moveDown'_eq];exact Kr h
theorem qaQ2{p i:Nat}(h:p < xs.size)(a:q<=p)(hi:i < q):att (bubble xs p (p - q)) i=att xs i:=by
 rw[qal4 h (zCc _ _),Nat.sub_sub_self a,if_neg (zAt hi),if_neg λ c=>Nat.lt_asymm hi c.1]
theorem qaZ1{p:Nat}(h:p < xs.size)(a:q<=p):att (bubble xs p (p - q)) q=att xs p:=by
 rw[qal4 h (zCc _ _),Nat.sub_sub_self a,if_pos rfl]
theorem qaZ0{p i:Nat}(h:p < xs.size)(a:q<=p)(h1:q<=i)(h2:i < p):att (bubble xs p (p - q)) (i+1)=att xs i:=by
 rw[qal4 h (zCc _ _),Nat.sub_sub_self a,if_neg (Nat.ne_of_gt (Nat.lt_succ_of_le h1)),if_pos ⟨Nat.lt_succ_of_le h1,h2⟩,Nat.add_sub_cancel]
theorem qaH9{F:Nat->Kt}{x:Kt}{l k:Nat}(e:Od lt)(c:l<=k)(s2:∀ i j,i<=j->j < k->lt (f j) (f i)=false)(g:∀ i,i < l->lt x (f i)=false)(n:∀ i,l<=i->i < k->lt (f i) x=false)(h1:∀ i,i < l->F i=f i)(h2:F l=x)(d:∀ i,l<=i->i < k->F (i+1)=f i)(i j:Nat)(a:i<=j)(o:j < k+1):lt (F j) (F i)=false:=by
 rcases Nat.lt_trichotomy j l with h | h | h
 . rw[h1 j h,h1 i (zC6 a h)]
   exact s2 i j a (zAi h c)
 . subst h
   rw[h2];rcases Nat.lt_or_eq_of_le a with q | rfl
   . rw[h1 i q];exact g i q
   rw[h2];exact e.ir _
 cases j with
 | zero=>exact absurd h (zBx _)
 | succ m =>
   have b:=Nat.lt_of_succ_lt_succ o;rw[d m (zBw h) b];rcases Nat.lt_trichotomy i l with q | q | q
   . rw[h1 i q];exact s2 i m (zAj (zBa q) (zBw h)) b
   . subst q;rw[h2];exact n m (zBw h) b
   cases i with
   | zero=>exact absurd q (zBx _)
   | succ p=>rw[d p (zBw q) (zC6 (Nat.le_of_succ_le_succ a) b)];exact s2 p m (Nat.le_of_succ_le_succ a) b
theorem wbin{n C:Nat}{Q:Bool->Ku->Prop}(D:Od lt)(J:Cn prog w A s kd Z lt)(L:Kv st=kd)(V:Y+n<=Z.size)(M:C<=n)(h1:1<=C)(N:Bt Z Y st X)(O:Srt lt (λ i=>att (Ks X) (Y+i)) C)(h:∀ e,Bt Z Y st e->Srt lt (λ i=>att (Ks e) (Y+i)) n->Q true e):wpS (Kd prog w) A E s (binarySort' Y n C) Q X:=by
 rw[binarySort'_eq];refine fB (λ k c e=>c=(none,())/\Bt Z Y st e/\Srt lt (λ i=>att (Ks e) (Y+i)) (min k n)) (λ c e=>c=(none,())/\Bt Z Y st e/\Srt lt (λ i=>att (Ks e) (Y+i)) n) ?_ ?_ ⟨rfl,N,λ i j a b=>O i j a (by lia)⟩ ?_
 . rintro F z k c f P R ⟨rfl,m,g⟩ K p q
   subst z;rw[show min k n=k by lia] at g;refine fB (λ x c e=>e=f/\∃ l r,c=(none,l,r)/\l<=r/\r<=k/\r - l<=k - x /\
       (∀ i,i < l->lt (att (Ks f) (Y+k)) (att (Ks f) (Y+i))=false)/\(∀ i,r<=i->i < k->lt (att (Ks f) (Y+i)) (att (Ks f) (Y+k))=false)) (λ c e=>e=f/\∃ l,c=(none,l,l)/\l<=k /\
       (∀ i,i < l->lt (att (Ks f) (Y+k)) (att (Ks f) (Y+i))=false)/\(∀ i,l<=i->i < k->lt (att (Ks f) (Y+i)) (att (Ks f) (Y+k))=false)) ?_ ?_ ⟨rfl,0,k,rfl,by lia,by lia,by lia,λ i t=>by lia,λ i h1 I=>by lia⟩ ?_
   . rintro F z x c o - W ⟨rfl,l,r,rfl,S,u,T,v,B⟩ K p q
     subst z;dsimp only;refine wif (λ d=>?_) λ d=>?_
     . obtain rfl:l=r:=by lia
       exact Km (p _ _ ⟨rfl,l,rfl,u,v,B⟩)
     exact aB J L m (by lia) (by lia) (λ G=>Km (q _ _ ⟨rfl,l,_,rfl,by lia,by lia,by lia,v,λ i h1 I=>D.tr _ _ _ (D.as _ _ G) (g _ _ h1 I)⟩)) λ G=>Km (q _ _ ⟨rfl,_,r,rfl,by lia,by lia,by lia,λ i h1=>D.tr _ _ _ (g i _ (by lia) (by lia)) G,B⟩)
   . rintro c o ⟨rfl,l,r,rfl,S,u,T,v,B⟩
     obtain rfl:l=r:=by lia
     exact⟨rfl,l,rfl,u,v,B⟩
   rintro F z c o ⟨rfl,l,rfl,u,v,B⟩;subst z;dsimp only;have z:Y+k < (Ks o).size:=by rw[m.sz];lia
   have y:=Nat.add_le_add_left u Y;refine Kl (wmv (Km (q _ _ ⟨rfl,m.set (bubble_perm _ _ _) λ i t=>?_,?_⟩)))
   . exact qaQ2 z y (zAi t (Nat.le_add_right _ _))
   rw[show min (k+1) n=k+1 by lia];exact qaH9 D u g v B (λ i t=>qaQ2 z y (Nat.add_lt_add_left t Y)) (qaZ1 z y) λ i t H=>qaZ0 z y (Nat.add_le_add_left t Y) (Nat.add_lt_add_left H Y)
 . rintro c f ⟨U,m,g⟩
   rw[show min (max (max C 1) n) n=n by lia] at g;exact⟨U,m,g⟩
 rintro F z c f ⟨rfl,m,g⟩;subst z;exact Km (h f m g)
def Ds(lt:Kt->Kt->Bool)(Z:Array Kt):Prop:=Z.toList.Pairwise λ x y=>lt x y=true∨lt y x=true
theorem Ds.at(h:Ds lt Z)(b:Bt Z Y st X){i j:Nat}(c:i≠j)(hi:i < Z.size)(n:j < Z.size)(e:lt (att (Ks X) i) (att (Ks X) j)=false):lt (att (Ks X) j) (att (Ks X) i)=true:=by
 have d:(Ks X).toList.Pairwise λ x y=>lt x y=true∨lt y x=true:=((zBn.mp b.pm).pairwise_iff λ h=>h.symm).mpr h
 rw[Lx] at d;have g:∀ k,k < Z.size->∃ a,(Ks X).toList[k]'a=att (Ks X) k:=λ k a=>⟨by rw[zB7,b.sz];exact a,by simp[att,Array.getD,show k < (Ks X).size by rw[b.sz];exact a]⟩
 obtain⟨f,l⟩:=g i hi;obtain⟨m,e2⟩:=g j n;rcases Nat.lt_or_gt_of_ne c with q | q
 . have:=d i j f m q
   rw[l,e2,e] at this;simpa using this
 have:=d j i m f q
 rw[l,e2,e] at this;simpa using this
theorem wcnt{m:Nat}{Q:Option Nat->Ku->Prop}(v:Od lt)(D:Cn prog w A s kd Z lt)(M:Ds lt Z)(G:Kv st=kd)(T:Y+m<=Z.size)(h1:1<=m)(r:Bt Z Y st X)(h:∀ n f,Bt Z Y st f->1<=n->n<=m->Srt lt (λ i=>att (Ks f) (Y+i)) n->Q (some n) f):wpS (Kd prog w) A E s (countRun' Y m) Q X:=by
 rw[countRun'_eq];refine fB (λ x c f=>f=X/\c=(none,x)/\Srt lt (λ i=>att (Ks X) (Y+i)) x) (λ c f=>f=X/\∃ n,c=(none,n)/\1<=n/\n<=m/\Srt lt (λ i=>att (Ks X) (Y+i)) n/\(n=m∨lt (att (Ks X) (Y+n)) (att (Ks X) (Y+n - 1))=true)) ?_ ?_ ⟨rfl,rfl,λ i j a b=>by rw[show i=j by lia];exact v.ir _⟩ ?_
 . rintro F z x c g o N ⟨rfl,rfl,t⟩ K p q
   subst z;exact aB D G r (by lia) (by lia) (λ u=>Km (p _ _ ⟨rfl,x,rfl,o,by lia,t,.inr u⟩)) λ u=>Km (q _ _ ⟨rfl,rfl,t.more v λ _=>by rw[<- Nat.add_sub_assoc o];exact u⟩)
 . rintro c g ⟨rfl,rfl,t⟩
   rw[show max 1 m=m by lia] at t ⊢;exact⟨rfl,m,rfl,h1,zA2 _,t,.inl rfl⟩
 rintro F z c g ⟨rfl,n,rfl,J,L,t,d⟩;subst z;dsimp only;refine wif (λ _=>Km (h n g r J L t)) λ c=>?_
 have d:=d.resolve_left (by simpa using c);refine wif (λ P=>aB D G r (by lia) (by lia) (λ _=>Km (h n g r J L t)) λ e=>?_) λ P=>?_
 . rw[M.at r (by lia) (by lia) (by lia) (by rw[Nat.add_sub_assoc J];exact t 0 (n - 1) (by lia) (by lia))] at e;cases e
 obtain rfl:n=1:=by lia
 simp at c;refine rB ?_;have O:Od λ x y=>lt y x:=⟨λ x y q=>v.as _ _ q,λ x y z p q=>v.tr _ _ _ q p⟩
 refine fB (λ x c f=>f=g/\c=(none,x,0)/\Srt (λ x y=>lt y x) (λ i=>att (Ks g) (Y+i)) x) (λ c f=>f=g/\∃ n,c=(none,n,0)/\2<=n/\n<=m/\Srt (λ x y=>lt y x) (λ i=>att (Ks g) (Y+i)) n) ?_ ?_ ⟨rfl,rfl,?_⟩ ?_
 . rintro F z x c l o N ⟨rfl,rfl,B⟩ K p q
   subst z;exact aB D G r (by lia) (by lia) (λ u=>wif (λ _=>wif (λ c=>absurd c (zC5 0)) λ _=>Km (q _ _ ⟨rfl,rfl,B.more O λ _=>by rw[<- Nat.add_sub_assoc (by lia)];exact v.as _ _ u⟩)) λ c=>absurd rfl c) λ u=>aB D G r (by lia) (by lia) (λ _=>Km (p _ _ ⟨rfl,x,rfl,o,by lia,B⟩)) λ e=>by rw[M.at r (by lia) (by lia) (by lia) u] at e;cases e
 . rintro c l ⟨rfl,rfl,B⟩
   rw[show max (1+1) m=m by lia] at B ⊢;exact⟨rfl,m,rfl,by lia,zA2 _,B⟩
 . refine Srt.more (λ i j a b=>?_) O λ _=>v.as _ _ d
   obtain rfl:i=j:=by lia
   exact v.ir _
 rintro F z c l ⟨rfl,n,rfl,J,L,B⟩;subst z;refine wif (λ c=>absurd c (zC5 0)) λ _=>?_
 dsimp only;have z:Y+n<=(Ks l).size:=by rw[r.sz];lia
 have H:=r.set (mirror_perm (Ks l) Y (Y+n) ((Y+n - Y) / 2)) λ i U=>by rw[qal3 z,if_neg (by lia)]
 refine Kl (wpS_reverse ?_);refine fB (λ x c f=>f=Kw l (mirror (Ks l) Y (Y+n) ((Y+n - Y) / 2))/\c=(none,x)/\Srt lt (λ i=>att (Ks f) (Y+i)) x) (λ c f=>f=Kw l (mirror (Ks l) Y (Y+n) ((Y+n - Y) / 2))/\∃ k,c=(none,k)/\1<=k/\k<=m/\Srt lt (λ i=>att (Ks f) (Y+i)) k) ?_ ?_ ⟨rfl,rfl,λ i j a b=>?_⟩ ?_
 . rintro F z x c I o N ⟨rfl,rfl,C⟩ K p q
   subst z;exact aB D G H (by lia) (by lia) (λ _=>Km (p _ _ ⟨rfl,x,rfl,by lia,by lia,C⟩)) λ u=>Km (q _ _ ⟨rfl,rfl,C.more v λ _=>by rw[<- Nat.add_sub_assoc (by lia)];exact u⟩)
 . rintro c I ⟨rfl,rfl,C⟩
   rw[show max n m=m by lia] at C ⊢;exact⟨rfl,m,rfl,by lia,zA2 _,C⟩
 . show lt (att (mirror _ _ _ _) _) (att (mirror _ _ _ _) _)=false
   rw[qal3 z,qal3 z,if_pos (by lia),if_pos (by lia)]
   have:=B (n - 1 - j) (n - 1 - i) (by lia) (by lia)
   rw[show Y+(Y+n) - 1 - (Y+j)=Y+(n - 1 - j) by lia,show Y+(Y+n) - 1 - (Y+i)=Y+(n - 1 - i) by lia];exact this
 rintro F z c I ⟨rfl,k,rfl,R,S,C⟩;subst z;exact Km (h k _ H R S C)
end
theorem qaV1(i:Nat):mergeAt' i=(do
 let s <- get
 let (some (p,n,pw),some (q,m,_)):=((Ko s)[i]?,(Ko s)[i+1]?) | unsupported "internal:list.sort.pending"
 set (Kx s (((Ko s).setIfInBounds i (p,n+m,pw)).eraseIdxIfInBounds (i+1)))
 let some k <- gal false (<- elem' (Ks s) q) (Ks s) p n 0 | return false
 let (p,n):=(p+k,n - k)
 if n == 0 then return true
 let some m <- gal true (<- elem' (Ks s) (p+n - 1)) (Ks s) q m (m - 1) | return false
 if m == 0 then return true
 let x:=(Ks s).extract p q
 let y:=(Ks s).extract q (q+m)
 let r <- if n<=m then mlo x y else mhi x y
 modify λ s=>Kw s (r.toList.zipIdx.foldl (λ a (z,j)=>a.setIfInBounds (p+j) z) (Ks s))
 return (Kq (<- get)).isNone):=rfl
theorem wr{p:Nat}:∀(L:List Kt)(n:Nat)(a:Array Kt),p+n+L.length<=a.size ->
   ((L.zipIdx n).foldl (λ(a:Array Kt)(z:Kt×Nat)=>a.setIfInBounds (p+z.2) z.1) a).toList=a.toList.take (p+n)++L++a.toList.drop (p+n+L.length)
 | [],n,a,_=>by simp
 | x::L,n,a,h=>by
   rw[zAk] at h;rw[List.zipIdx_cons,Mw,wr L (n+1) _ (by rw[Array.size_setIfInBounds];lia),Array.toList_setIfInBounds,<- Nat.add_assoc,zAk,
     List.drop_set_of_lt (by lia),List.take_set,zBq,show a.toList[p+n]?.toList=[att a (p+n)] from ?_,Mc _ _ (by simp;lia),show p+n+1+L.length=p+n+(L.length+1) by lia]
   . simp[show min (p+n) a.size=p+n by lia]
   rw[Array.getElem?_toList,qS5 (by lia)];rfl
theorem qay2{a:Array Kt}{i j n:Nat}(h:i+n < j)(b:j<=a.size):att (a.extract i j) n=att a (i+n) :=
 qn0 (by rw[Array.getElem?_extract];rw[if_pos (by lia)])
section
variable{prog:Ke}{w:Ki}{A:Kf}{E:V'->δ->Prop}{s:δ}{kd:SortKind}{lt:Kt->Kt->Bool}{st:Ku}{a0:Array Kt}
theorem wset{a:Ku}{Q:PUnit->Ku->Prop}(h:Q ⟨⟩ a):wpS (Kd prog w) A E s (set a:StateT Ku Sem PUnit) Q st:=by
 unfold wpS;rw[StateT.run_set];exact G' ⟨rfl,h⟩
theorem wmat{Q:Bool->Ku->Prop}{n m F pv:Nat}(G:Od lt)(I:Cn prog w A s kd a0 lt)(J:Kv st=kd)(K:Kq st=none)(Y:Ko st = #[(0,n,F),(n,m,pv)])(H:(Ks st).Perm a0)(Z:0 < n)(hm:0 < m)(hz:n+m=a0.size)(h1:Srt lt (att (Ks st)) n)(h2:Srt lt (λ i=>att (Ks st) (n+i)) m)(h:∀ u,Kq u=none->Ko u = #[(0,n+m,F)]->(Ks u).toList=K4 ((Ks st).toList.take n) ((Ks st).toList.drop n) (lee lt)->Q true u):wpS (Kd prog w) A E s (mergeAt' 0) Q st:=by
 have a1:(Ks st).size=n+m:=H.size_eq.trans hz.symm;have D:∀ i,i < (Ks st).size->att (Ks st) i∈a0.toList:=λ i C=>(zBn.mp H).mem_iff.mp (qay1 C)
 rw[qaV1];refine gB ?_;rw[Y];have ep:(#[(0,n,F),(n,m,pv)].setIfInBounds 0 (0,n+m,F)).eraseIdxIfInBounds (0+1) = #[(0,n+m,F)]:=by simp[Array.eraseIdxIfInBounds]
 refine Kl (wset ?_);rw[ep];refine eB (by lia) (Kl (wgs G I J (D _ (by lia)) (by lia) D (λ i j a b=>by dsimp only;rw[zAb,zAb];exact h1 i j a b) Z λ k S T N=>?_));simp only[zAb] at T N ⊢;have sD:(Ks st).toList.drop n=att (Ks st) n::(Ks st).toList.drop (n+1):=Ed (by lia);have O:K4 ((Ks st).toList.take n) ((Ks st).toList.drop n) (lee lt)=(Ks st).toList.take k++K4 (((Ks st).toList.drop k).take (n - k)) ((Ks st).toList.drop n) (lee lt):=by
   rw[<- List.drop_take,<- show ((Ks st).toList.take n).take k=(Ks st).toList.take k by rw[M3,Nat.min_eq_left S]]
   conv=>lhs;rw[<- zBg k ((Ks st).toList.take n)]
   rw[sD,Jc (le:=lee lt)];intro x L;rw[M3,Nat.min_eq_left S] at L;obtain⟨i,U,i2,rfl⟩:=Je L;exact T i U
 refine wif (λ c=>Km (h _ K rfl ?_)) λ c=>?_
 . obtain rfl:k=n:=by simp at c;lia
   rw[O,Nat.sub_self,Mf,Mz,zBg]
 have c:k < n:=by simp at c;lia
 rw[show k+(n - k) - 1=n - 1 by lia];refine eB (by lia) (Kl (wgs G I J (D _ (by lia)) (by lia) D h2 (by lia) λ v v1 v2 v3=>?_));have V:K4 (((Ks st).toList.drop k).take (n - k)) ((Ks st).toList.drop n) (lee lt)=K4 (((Ks st).toList.drop k).take (n - k)) (((Ks st).toList.drop n).take v) (lee lt)++(Ks st).toList.drop (n+v):=by
   conv=>lhs;rw[<- zBg v ((Ks st).toList.drop n)]
   rw[Me,G7 (le:=lee lt)];intro y W x L;obtain⟨i,U,i2,rfl⟩:=qu6 L;rw[<- zAr (l:=(Ks st).toList.drop (n+v)) (zA2 _)] at W;obtain⟨j,_,j2,rfl⟩:=qu6 W;have e1:=h1 (k+i) (n - 1) (by lia) (by lia);have e2:lt (att (Ks st) (n+(v+j))) (att (Ks st) (n - 1))=false:=v3 (v+j) (by lia) (by lia);rw[<- Nat.add_assoc] at e2;show (!lt _ _)=true;rw[G.tr _ _ _ e1 e2];rfl
 dsimp only;refine wif (λ c=>Km (h _ K rfl ?_)) λ d=>?_
 . obtain rfl:v=0:=by simpa using c
   rw[O,V,Mf,Mv,Nat.add_zero,<- zAq,<- M6,show k+(n - k)=n by lia,zBg]
 have d:0 < v:=by simp at d;lia
 have P:((Ks st).extract k n).size=n - k:=by rw[Array.size_extract];lia
 have X:((Ks st).extract n (n+v)).size=v:=by rw[Array.size_extract];lia
 have g:∀ i,i < n - k->att ((Ks st).extract k n) i=att (Ks st) (k+i):=λ i C=>qay2 (by lia) (by lia)
 have o:∀ i,i < v->att ((Ks st).extract n (n+v)) i=att (Ks st) (n+i):=λ i C=>qay2 (by lia) (by lia)
 have post:∀(r:Array Kt)(f:Ku),R (Kx st #[(0,n+m,F)]) f ->
     r.toList=K4 ((Ks st).extract k n).toList ((Ks st).extract n (n+v)).toList (lee lt)->wpS (Kd prog w) A E s (do
       modify λ s=>Kw s (Lq (λ(a:Array Kt)(x:Kt×Nat)=>match x with | (z,j)=>a.setIfInBounds (k+j) z) (Ks s) r.toList.zipIdx)
       let t <- get
       pure (Kq t).isNone) Q f:=by
   intro r f M e;have len:r.toList.length=n - k+v:=by rw[e,List.length_merge,zB7,zB7,P,X]
   refine Kl (Kr (gB ?_));show wpS _ _ _ _ (pure (Kq f).isNone) Q _;rw[M.2.2.2];show wpS _ _ _ _ (pure (Kq st).isNone) Q _;rw[K];refine Km (h _ (M.2.2.2.trans K) M.2.2.1 ?_);show (Lq _ (Ks f) _).toList=_;rw[show Ks f=Ks st from M.2.1];have q:=wr (p:=k) r.toList 0 (Ks st) (by lia);rw[Nat.add_zero,len,show k+(n - k+v)=n+v by lia,e,qc8,qc8,show n+v - n=v by lia,zAq,<- V,<- O] at q;rw[e,qc8,qc8,show n+v - n=v by lia];exact q
 refine wif (λ _=>Kl (wmlo G I J (λ i C=>?_) (λ i C=>?_) (λ i j a b=>?_) (λ i j a b=>?_) (by lia) (by lia) ?_ (λ i C=>?_) post)) λ _=>Kl (wmhi G I J (λ i C=>?_) (λ i C=>?_) (λ i j a b=>?_) (λ i j a b=>?_) (by lia) (by lia) (λ i C=>?_) ?_ post)
 . rw[g i (by lia)];exact D _ (by lia)
 . rw[o i (by lia)];exact D _ (by lia)
 . rw[g i (by lia),g j (by lia)];exact h1 _ _ (by lia) (by lia)
 . rw[o i (by lia),o j (by lia)];exact h2 _ _ (by lia) (by lia)
 . rw[g 0 (by lia),o 0 (by lia)];simpa[B] using N k (zA2 _) c
 . rw[P,g _ (by lia),o i (by lia),show k+(n - k - 1)=n - 1 by lia];exact v2 i (by lia)
 . rw[g i (by lia)];exact D _ (by lia)
 . rw[o i (by lia)];exact D _ (by lia)
 . rw[g i (by lia),g j (by lia)];exact h1 _ _ (by lia) (by lia)
 . rw[o i (by lia),o j (by lia)];exact h2 _ _ (by lia) (by lia)
 . rw[g i (by lia),o 0 (by lia)];simpa[B] using N (k+i) (by lia) (by lia)
 rw[P,X,g _ (by lia),o _ (by lia),show k+(n - k - 1)=n - 1 by lia];exact v2 _ (by lia)
end
section
variable{prog:Ke}{w:Ki}{A:Kf}{E:V'->δ->Prop}{s:δ}{kd:SortKind}{lt:Kt->Kt->Bool}{st:Ku}{a0:Array Kt}
theorem qaz3{i n:Nat}(a:Srt lt (λ j=>att xs (i+j)) n)(f:i+n<=xs.size):((xs.toList.drop i).take n).Pairwise λ x y=>lee lt x y=true:=by
 rw[Lx];intro p q b c d;rw[zBk,K8,zB7] at b c;have e:∀ p (h:p < ((xs.toList.drop i).take n).length),((xs.toList.drop i).take n)[p]=att xs (i+p):=λ p h=>by
   rw[Mr,Ms];rw[zBk,K8,zB7] at h;simp[att,Array.getD,show i+p < xs.size by lia]
 rw[e,e];show (!lt _ _)=true;rw[a p q (by lia) (by lia)];rfl
def Gm(lt:Kt->Kt->Bool)(a0:Array Kt)(st:Ku):Prop:=(Ks st).toList.Perm a0.toList/\(Ks st).toList.Pairwise (λ x y=>lee lt x y=true)/\Kq st=none
structure One(lt:Kt->Kt->Bool)(kd:SortKind)(a0:Array Kt)(n:Nat)(st:Ku):Prop where
 pm:(Ks st).Perm a0
 k:Kv st=kd
 f:Kq st=none
 p:Ko st = #[(0,n,0)]
 s:Srt lt (att (Ks st)) n
structure Two(lt:Kt->Kt->Bool)(kd:SortKind)(a0:Array Kt)(n m pw:Nat)(st:Ku):Prop where
 pm:(Ks st).Perm a0
 k:Kv st=kd
 f:Kq st=none
 p:Ko st = #[(0,n,pw),(n,m,0)]
 s:Srt lt (att (Ks st)) n
 t:Srt lt (λ i=>att (Ks st) (n+i)) m
theorem One.fin{n:Nat}(h:One lt kd a0 n st)(c:n=a0.size):Gm lt a0 st:=by
 refine⟨zBn.mp h.pm,?_,h.f⟩
 have:=qaz3 (i:=0) (n:=n) (xs:=Ks st) (λ i j a b=>by dsimp only;rw[zAb,zAb];exact h.s i j a b) (by rw[h.pm.size_eq];lia)
 rwa[Lu,zAr (by rw[zB7,h.pm.size_eq];lia)] at this
theorem wrun{Q:Unit->Ku->Prop}(D:Od lt)(J:Cn prog w A s kd a0 lt)(T:Ds lt a0)(O:Kv st=kd)(hf:Kq st=none)(P:Ko st = #[])(L:(Ks st).Perm a0)(G:a0.size=64)(h:∀ l,Gm lt a0 l->Q () l):wpS (Kd prog w) A E s sortRuns' Q st:=by
 rw[sortRuns'_eq];refine gB ?_;dsimp only;rw[L.size_eq.trans G];have hm:minRun' 64 64 0=32:=rfl;rw[hm];refine fB (λ x c l=>(x=0/\c=(none,0)/\l=st)∨(x=1/\∃ n,c=(none,n)/\32<=n/\n<=64/\One lt kd a0 n l)∨(2<=x/\c=(none,64)/\∃ n m B,n+m=64/\0 < n/\0 < m/\Two lt kd a0 n m B l)) (λ c l=>c=(none,64)/\(One lt kd a0 64 l∨∃ n m B,n+m=64/\0 < n/\0 < m/\Two lt kd a0 n m B l)) ?_ ?_ (.inl ⟨rfl,rfl,rfl⟩) ?_
 . rintro F z x c u - hx (⟨rfl,rfl,rfl⟩ | ⟨rfl,n,rfl,I,n2,o⟩ | ⟨x2,rfl,n,m,B,e,I,R,o⟩) K p q<;>subst z
   . dsimp only
     refine wif (λ c=>absurd c (by lia)) λ _=>?_
     have S:Bt a0 0 u u:=⟨rfl,rfl,rfl,L,λ _ _=>rfl⟩
     refine Kl (wcnt D J T O (by lia) (by lia) S λ n r C I n2 M=>?_);have fin:∀ k g,Bt a0 0 u g->32<=k->k<=64->Srt lt (λ i=>att (Ks g) (0+i)) k->One lt kd a0 k (Kx g ((Ko g).push (0,k,0))):=λ k g v _ _ H =>
       ⟨v.pm,v.kd.trans O,v.fl.trans hf,by show (Ko g).push _=_;rw[v.pd,P];rfl,λ i j a b=>by have:=H i j a b;dsimp only at this;rwa[zAb,zAb] at this⟩
     refine wif (λ c=>?_) λ c=>?_
     . refine rB ?_
       refine Kl (wbin D J O (by lia) (by lia) I C M λ g v H=>?_);refine wif (λ c=>by cases c) λ _=>?_
       refine gB ?_;rw[show (Ko g).back? = none by rw[v.pd,P];rfl];exact Kl (Kr (Km (q _ _ (.inr (.inl ⟨rfl,_,rfl,by lia,by lia,fin _ g v (by lia) (by lia) H⟩)))))
     refine gB ?_;rw[show (Ko r).back? = none by rw[C.pd,P];rfl];exact Kl (Kr (Km (q _ _ (.inr (.inl ⟨rfl,_,rfl,by lia,by lia,by rw[zAb];exact fin _ r C (by lia) (by lia) M⟩)))))
   . dsimp only
     refine wif (λ c=>?_) λ c=>?_
     . obtain rfl:n=64:=by lia
       exact Km (p _ _ ⟨rfl,.inl o⟩)
     have S:Bt a0 n u u:=⟨rfl,rfl,rfl,o.pm,λ _ _=>rfl⟩
     refine Kl (wcnt D J T o.k (by lia) (by lia) S λ k r C k1 k2 M=>?_);have U:∀ q g,Bt a0 n u g->q=64 - n->Srt lt (λ i=>att (Ks g) (n+i)) q->∀ B,Two lt kd a0 n q B (Kx (Kx g ((Ko g).modify ((Ko g).size - 1) λ x=>(x.fst,x.2.fst,B))) (((Ko g).modify ((Ko g).size - 1) λ x=>(x.fst,x.2.fst,B)).push (n,q,0))):=λ q g v hq H B =>
       ⟨v.pm,v.kd.trans o.k,v.fl.trans o.f,by show ((Ko g).modify _ _).push _=_;rw[v.pd,o.p];rfl,λ i j a b=>by show lt (att (Ks g) j) (att (Ks g) i)=false;rw[v.pr i (by lia),v.pr j b];exact o.s i j a b,H⟩
     have N:∀ g,Bt a0 n u g->(Ko g).back? = some (0,n,0)/\¬ (Ko g).size > 1:=λ g v=>by rw[v.pd,o.p];exact⟨rfl,zC5 1⟩
     refine wif (λ d=>?_) λ d=>?_
     . refine rB ?_
       refine Kl (wbin D J o.k (by lia) (by lia) k1 C M λ g v H=>?_);refine wif (λ c=>by cases c) λ _=>?_
       refine gB ?_;rw[(N g v).1];refine fB (λ x c l=>l=g/\c=(none,())) (λ c l=>l=g/\c=(none,())) ?_ (λ _ _ h=>h) ⟨rfl,rfl⟩ ?_
       . rintro F z x c y - - ⟨rfl,rfl⟩ K p q
         subst z;refine gB ?_;rw[if_neg (N y v).2];exact Km (p _ _ ⟨rfl,rfl⟩)
       rintro F z c y ⟨rfl,rfl⟩;subst z;exact Kl (Kr (Kl (Kr (Km (q _ _ (.inr (.inr ⟨zA2 2,by rw[show n+min (64 - n) 32=64 by lia],n,_,_,by lia,by lia,by lia,U _ y v (by lia) H _⟩)))))))
     refine gB ?_;rw[(N r C).1];refine fB (λ x c l=>l=r/\c=(none,())) (λ c l=>l=r/\c=(none,())) ?_ (λ _ _ h=>h) ⟨rfl,rfl⟩ ?_
     . rintro F z x c y - - ⟨rfl,rfl⟩ K p q
       subst z;refine gB ?_;rw[if_neg (N y C).2];exact Km (p _ _ ⟨rfl,rfl⟩)
     rintro F z c y ⟨rfl,rfl⟩;subst z;exact Kl (Kr (Kl (Kr (Km (q _ _ (.inr (.inr ⟨zA2 2,by rw[show n+k=64 by lia],n,_,_,by lia,by lia,by lia,U _ y C (by lia) M _⟩)))))))
   dsimp only;exact wif (λ _=>Km (p _ _ ⟨rfl,.inr ⟨n,m,B,e,I,R,o⟩⟩)) λ c=>absurd (zA2 _) c
 . rintro c u (⟨V,_⟩ | ⟨V,_⟩ | ⟨x2,rfl,o⟩)
   . lia
   . lia
   exact⟨rfl,.inr o⟩
 rintro F z c u ⟨rfl,o⟩;subst z;refine fB (λ x c l=>c=(none,())/\(x=0/\l=u∨Gm lt a0 l/\(Ko l).size<=1)) (λ c l=>c=(none,())/\Gm lt a0 l) ?_ ?_ ⟨rfl,.inl ⟨rfl,rfl⟩⟩ ?_
 . rintro F t x c r - - ⟨rfl,⟨rfl,rfl⟩ | ⟨f,z⟩⟩ K W q'<;>subst t
   . refine gB ?_
     rcases o with o | ⟨n,m,B,e,I,R,o⟩
     . rw[if_pos (by rw[o.p];exact zA2 1)]
       exact Km (W _ _ ⟨rfl,o.fin G.symm⟩)
     rw[o.p];refine wif (λ c=>absurd c (by simp)) λ _=>?_
     refine Kl (wmat D J o.k o.f o.p o.pm I R (by lia) o.s o.t λ g f3 p3 X=>?_);refine Km (q' _ _ ⟨rfl,.inr ⟨⟨?_,?_,f3⟩,by rw[p3];exact zA2 1⟩⟩)
     . rw[X]
       have q:=List.merge_perm_append (le:=lee lt) (xs:=(Ks r).toList.take n) (ys:=(Ks r).toList.drop n);rw[zBg] at q;exact q.trans (zBn.mp o.pm)
     rw[X];have sz:(Ks r).size=64:=o.pm.size_eq.trans G;refine List.pairwise_merge (λ a b c Y Z=>?_) (λ a b=>?_) _ _ ?_ ?_
     . simp only[Bool.not_eq_true',lee] at Y Z ⊢
       exact D.tr _ _ _ Y Z
     . cases q:lt b a with
       | false=>simp[lee,q]
       | true=>simp[lee,q,D.as _ _ q]
     . have:=qaz3 (i:=0) (n:=n) (xs:=Ks r) (λ i j a b=>by dsimp only;rw[zAb,zAb];exact o.s i j a b) (by lia)
       rwa[Lu] at this
     have:=qaz3 o.t (by lia)
     rwa[zAr (by rw[K8,zB7];lia)] at this
   refine gB ?_;rw[if_pos z];exact Km (W _ _ ⟨rfl,f⟩)
 . rintro c r ⟨rfl,⟨V,_⟩ | ⟨f,z⟩⟩
   . lia
   exact⟨rfl,f⟩
 rintro F z c r ⟨rfl,f⟩;subst z;exact Km (h r f)
end
noncomputable def plt(p q:Int×Int):Bool:=decide (p.1 < q.1∨p.1=q.1/\p.2 < q.2)
def TP(h:Heap)(v:V')(p:Int×Int):Prop:=∃ b t u o n,v=.ref b/\h.get? b=some o/\o.cls=.type "tuple" /\ o.data=.seq #[.int p.1 t,.int p.2 u] n
section
variable{prog:Ke}{w:Ki}{A:Kf}{E:V'->δ->Prop}{s:δ}{kd:SortKind}{lt:Kt->Kt->Bool}{X:Ku}{U:Array Kt}
theorem wrunS{Q:Unit->Ku->Prop}(D:Od lt)(G:Cn prog w A s kd U lt)(I:Ds lt U)(u:Kv X=kd)(J:Kq X=none)(v:Ko X = #[])(t:(Ks X).Perm U)(h2:2<=U.size)(y:U.size < 64)(h:∀ d,Gm lt U d->Q () d):wpS (Kd prog w) A E s sortRuns' Q X:=by
 rw[sortRuns'_eq];refine gB ?_;obtain⟨f,L⟩:∃ f,U.size=f+1:=⟨U.size - 1,by lia⟩
 have M:minRun' U.size U.size 0=U.size:=by
   conv=>lhs;rw[show minRun' U.size=minRun' (f+1) by rw[L]]
   rw[minRun'_succ,if_pos y];rfl
 dsimp only;rw[t.size_eq,M];refine fB (λ x c d=>(x=0/\c=(none,0)/\d=X)∨(1<=x/\c=(none,U.size)/\One lt kd U U.size d)) (λ c d=>c=(none,U.size)/\One lt kd U U.size d) ?_ ?_ (.inl ⟨rfl,rfl,rfl⟩) ?_
 . rintro F z x c l - R (⟨rfl,rfl,rfl⟩ | ⟨N,rfl,o⟩) K p q<;>subst z
   . dsimp only
     refine wif (λ c=>absurd c (by lia)) λ _=>?_
     have O:Bt U 0 l l:=⟨rfl,rfl,rfl,t,λ _ _=>rfl⟩
     refine Kl (wcnt D G I u (by lia) (by lia) O λ n m B P S H=>?_);have fin:∀ k g,k=U.size->Bt U 0 l g->Srt lt (λ i=>att (Ks g) (0+i)) k->One lt kd U U.size (Kx g ((Ko g).push (0,k,0))):=λ k g e r C =>
       ⟨r.pm,r.kd.trans u,r.fl.trans J,by show (Ko g).push _=_;rw[r.pd,v,e];rfl,λ i j a b=>by have:=C i j a (by lia);dsimp only at this;rwa[zAb,zAb] at this⟩
     refine wif (λ c=>?_) λ c=>?_
     . refine rB ?_
       refine Kl (wbin D G u (by lia) (by lia) P B H λ g r C=>?_);refine wif (λ c=>by cases c) λ _=>?_
       refine gB ?_;rw[show (Ko g).back? = none by rw[r.pd,v];rfl];exact Kl (Kr (Km (q _ _ (.inr ⟨by lia,by rw[show 0+min (U.size - 0) U.size=U.size by lia],fin _ g (by lia) r C⟩))))
     refine gB ?_;rw[show (Ko m).back? = none by rw[B.pd,v];rfl];exact Kl (Kr (Km (q _ _ (.inr ⟨by lia,by rw[show 0+n=U.size by lia],fin _ m (by lia) B H⟩))))
   dsimp only;exact wif (λ _=>Km (p _ _ ⟨rfl,o⟩)) λ c=>absurd (zA2 _) c
 . rintro c l (⟨T,_⟩ | ⟨N,rfl,o⟩)
   . lia
   exact⟨rfl,o⟩
 rintro F z c l ⟨rfl,o⟩;subst z;refine fB (λ x c d=>c=(none,())/\d=l) (λ c d=>c=(none,())/\d=l) ?_ (λ _ _ h=>h) ⟨rfl,rfl⟩ ?_
 . rintro F z x c m - - ⟨rfl,rfl⟩ K p q
   subst z;refine gB ?_;rw[if_pos (by rw[o.p];exact zA2 1)];exact Km (p _ _ ⟨rfl,rfl⟩)
 rintro F z c m ⟨rfl,rfl⟩;subst z;exact Km (h m (o.fin rfl))
theorem cmpP{x y:V'}{p q:Int×Int}{Q:Bool->δ->Prop}(f:TP s.heap x p)(g:TP s.heap y q)(h:Q (plt p q) s):Kc (Kd prog w) A (keyLt' (tuples' true) x y) Q E s:=by
 obtain⟨b,t,u,o,n,rfl,i,_,j⟩:=f;obtain⟨c,m,v,B,C,rfl,k,_,l⟩:=g;have z:∀ r:Bool,r=plt p q->Q r s:=λ r e=>e ▸ h
 refine W.kat_lt i j k l (W.kat_cons (wpAny_eqBool_int (W.kat_go (λ a=>W.kat_yes (W.kat_cons (wpAny_eqBool_int (W.kat_go (λ d=>W.kat_yes (W.kat_nil (z _ ?_))) λ d=>W.kat_no (W.kat_one _ _ (lt_int (z _ ?_))))))) λ a=>W.kat_no (oneLt_int (z _ ?_)))))
 . simp at a d;simp[plt,a,d]
 . simp at a d;simp[plt,a]
 simp at a;simp[plt,a]
theorem TP.keep{h h':Heap}{v:V'}{p:Int×Int}(t:TP h v p)(k:∀ b o,h.get? b=some o->o.cls=.type "tuple" -> h'.get? b=some o):TP h' v p:=by
 obtain⟨b,t,u,o,n,rfl,c,a,d⟩:=t;exact⟨b,t,u,o,n,rfl,k _ _ c a,a,d⟩
end
def kl(kf:V'->Int×Int)(x y:Kt):Bool:=plt (kf x.1) (kf y.1)
theorem kl_od(kf:V'->Int×Int):Od (kl kf) :=
 ⟨λ x y h=>by simp[kl,plt] at h ⊢;lia,λ x y z a b=>by simp[kl,plt] at a b ⊢;lia⟩
section
variable{prog:Ke}{w:Ki}{A:Kf}{E:V'->δ->Prop}{s:δ}
theorem kl_ds(c:(vs.map kf).Nodup):Ds (kl kf) (pairsOf vs):=by
 unfold Ds;rw[pairsOf_toList,show vs.zip vs=vs.map λ v=>(v,v) by induction vs with | nil=>rfl | cons v vs d=>simp at c;rw[List.zip_cons_cons,d c.2];rfl,zC9];unfold List.Nodup at c;rw[zC9] at c;refine c.imp λ{a b} h=>?_
 have e:¬ ((kf a).1=(kf b).1/\(kf a).2=(kf b).2):=λ q=>h (Prod.ext q.1 q.2)
 simp only[kl,plt,zB8];lia
theorem qan9{a:γ}{n:Nat}{P:PySem.Fin->δ->Prop}{kd:SortKind}(g:s.heap.get? a=some (seqObj "list" vs.toArray n))(C:vs.length<=64)(k:(vs.map kf).Nodup)(D:∀ h',(∀ b o,s.heap.get? b=some o->o.cls=.type "tuple" -> h'.get? b=some o)->2<=vs.length ->
     (∀(Q':SortKind->δ->Prop),Q' kd { s with heap:=h' }->Kc (Kd prog w) A (keyKind' vs.toArray) Q' E { s with heap:=h' })/\Cm prog w A { s with heap:=h' } kd (λ x=>x.1∈vs) (kl kf))(h:∀ out:List V',out.Perm vs->(out.map kf).Pairwise (λ p q=>plt q p=false)->P (.done (.ret .none)) { s with heap:=sortedHeap s.heap a vs out.toArray }) :
   Kc (Kd prog w) A (Builtin.«list.sort» ⟨[.ref a],[]⟩) P E s:=by
 have F:vs.toArray.size=vs.length:=zA3;have la:a < s.heap.objs.size:=zAc g;obtain⟨l,m⟩:∃ e,(s.heap.update a (Obj.mapSeq λ _=>#[])).get? a=some (seqObj "list" #[] e):=⟨_,get?_update_seq g λ _=>#[]⟩
 have r:(((s.heap.update a (Obj.mapSeq λ _=>#[])).push (seqObj "tuple" vs.toArray 0)).push (seqObj "list" #[] 0)).get? a=some (seqObj "list" #[] l):=zA5 _ (zA5 _ m);have G:∀ b o,s.heap.get? b=some o->o.cls=.type "tuple" -> (((s.heap.update a (Obj.mapSeq λ _=>#[])).push (seqObj "tuple" vs.toArray 0)).push (seqObj "list" #[] 0)).get? b=some o:=λ b o q H=>by
   have I:b≠a:=λ z=>by rw[z,g] at q;cases q;simp at H
   exact zA5 _ (zA5 _ (by rw[Heap.get?_update_ne _ _ _ _ I];exact q))
 rw[list_sort_plain];refine E' (listItems_at g rfl (E' (listUpdate_at g rfl (E' (seqEpoch_at m rfl (E' (wpAny_newTuple (E' (wpAny_newList (Jt ?_) (zBl _))) (by show vs.length<=_;rw[Jx];lia))))) (by rw[F,Jx];lia) (zBl _))));show Kc (Kd prog w) A _ P E { s with heap:=((s.heap.update a (Obj.mapSeq λ _=>#[])).push (seqObj "tuple" vs.toArray 0)).push (seqObj "list" #[] 0) };have last:∀ d:Ku,(Ks d).toList.Perm (pairsOf vs).toList->(Ks d).toList.Pairwise (λ x y=>lee (kl kf) x y=true)->Kq d=none ->
     P (.done (.ret .none)) { s with heap:=sortedHeap s.heap a vs ((Ks d).map (·.2)) }/\((Ks d).map (·.2)).size<=Jq+1:=λ d i J _=>by
   rw[pairsOf_toList] at i;have u:∀ p∈(Ks d).toList,p.1=p.2:=λ p K=>(mem_zip_self (i.mem_iff.mp K)).1
   have e2:((Ks d).map (·.2))=((Ks d).toList.map (·.2)).toArray:=Array.toList_inj.mp (by rw[Array.toList_map]);have pv:((Ks d).toList.map (·.2)).Perm vs:=by
     have:=i.map Prod.snd
     rwa[List.map_snd_zip (zA2 _)] at this
   rw[e2];refine⟨h _ pv ?_,by rw[zA3,pv.length_eq,Jx];lia⟩;rw[K7,zC9];refine(List.Pairwise.and_mem.mp J).imp λ{x y} ⟨L,M,q⟩=>?_
   show plt (kf y.2) (kf x.2)=false;rw[<- u x L,<- u y M];simpa[lee,kl] using q
 have tail:∀ d:Ku,Gm (kl kf) (pairsOf vs) d->Kc (Kd prog w) A (do
     let t:=(<- seqEpoch a) != l
     Builtin.List.listUpdate (.ref a) λ _=>(Ks d).map (·.2)
     if let some e:=Kq d then rule "list.sort.comparison-raised";throw e
     if t then rule "list.sort.modified";raiseError "ValueError" "list modified during sort"
     ret .none) P E { s with heap:=((s.heap.update a (Obj.mapSeq λ _=>#[])).push (seqObj "tuple" vs.toArray 0)).push (seqObj "list" #[] 0) }:=λ d f=>by
   have z:=last d f.1 f.2.1 f.2.2;refine E' (seqEpoch_at r rfl (E' (listUpdate_at r rfl ?_ (zBl _) z.2)));rw[f.2.2];simp only[bne_self_eq_false,Bool.false_eq_true,if_false];exact G' z.1
 by_cases c:vs.toArray.size < 2
 . rw[if_pos c,if_pos c]
   refine E' (G' ?_);dsimp only;rw[StateT.run_pure];refine E' (G' (tail (SortSt.mk' general' (vs.toArray.zip vs.toArray) #[] 7 none) ⟨List.Perm.refl _,?_,rfl⟩));show (pairsOf vs).toList.Pairwise _;rw[pairsOf_toList]
   match vs,c with
   | [],_=>exact .nil
   | [v],_=>simp
   | _::_::_,c=>simp at c;lia
 rw[if_neg c,if_neg c];obtain⟨N,O⟩:=D _ G (by lia);refine E' (N _ ?_);have B:Cn prog w A { s with heap:=((s.heap.update a (Obj.mapSeq λ _=>#[])).push (seqObj "tuple" vs.toArray 0)).push (seqObj "list" #[] 0) } kd (pairsOf vs) (kl kf):=λ x y Q R=>O x y (mem_zip_self (pairsOf_toList vs ▸ Q)).2 (mem_zip_self (pairsOf_toList vs ▸ R)).2
 have j:wpS (Kd prog w) A E { s with heap:=((s.heap.update a (Obj.mapSeq λ _=>#[])).push (seqObj "tuple" vs.toArray 0)).push (seqObj "list" #[] 0) } sortRuns' (λ _ d=>Gm (kl kf) (pairsOf vs) d) (SortSt.mk' kd (vs.toArray.zip vs.toArray) #[] 7 none):=by
   rcases Nat.lt_or_ge vs.length 64 with q | q
   . exact wrunS (kl_od kf) B (kl_ds k) rfl rfl rfl (Array.Perm.refl _) (by rw[pairsOf_size];lia) (by rw[pairsOf_size];exact q) λ _ f=>f
   exact wrun (kl_od kf) B (kl_ds k) rfl rfl rfl (Array.Perm.refl _) (by rw[pairsOf_size];lia) λ _ f=>f
 refine E' (J1 j ?_ λ _ _ e=>e);rintro⟨⟨⟩,d⟩ S ⟨rfl,f⟩;exact tail d f
theorem sorted6{l:γ}{Q:V'->δ->Prop}{kd:SortKind}(f:s.heap.IsList l vs.toArray)(a:vs.length<=64)(g:(vs.map kf).Nodup)(i:∀(A:Kf)(E:V'->δ->Prop) h',(∀ b o,s.heap.get? b=some o->o.cls=.type "tuple" -> h'.get? b=some o)->2<=vs.length ->
     (∀(Q':SortKind->δ->Prop),Q' kd { s with heap:=h' }->Kc (Kd prog w) A (keyKind' vs.toArray) Q' E { s with heap:=h' })/\Cm prog w A { s with heap:=h' } kd (λ x=>x.1∈vs) (kl kf))(h:∀ out:List V',out.Perm vs->(out.map kf).Pairwise (λ p q=>plt q p=false)->Q (.ref (s.heap.objs.size+1)) { s with heap:=sortedAll s.heap vs out.toArray }) :
   Kc (Kd prog w) A (call (.builtin "sorted") [.ref l]) Q E s:=by
 refine Calls.call_function_entry kind_sorted plain_sorted entry_sorted (args_sorted1 _) ?_;unfold Builtin.«sorted»;refine E' (m:=checkCount "sorted" 1 1 _) (G' (E' (collect_list f (E' (wpAny_newList ?_ (by rw[Jx];lia))) (by rw[Jx];lia))));have d:((s.heap.push (seqObj "list" #[] 0)).update s.heap.objs.size (Obj.mapSeq (·++vs.toArray))).objs.size=s.heap.objs.size+1:=by rw[Heap.size_update,size_push']
 have e:(((s.heap.push (seqObj "list" #[] 0)).update s.heap.objs.size (Obj.mapSeq (·++vs.toArray))).push (seqObj "list" vs.toArray 0)).get? (s.heap.objs.size+1)=some (seqObj "list" vs.toArray 0):=by
   rw[<- d];exact zB1 _ rfl
 have j:∀ b o,s.heap.get? b=some o->(((s.heap.push (seqObj "list" #[] 0)).update s.heap.objs.size (Obj.mapSeq (·++vs.toArray))).push (seqObj "list" vs.toArray 0)).get? b=some o:=λ b o q =>
   zA5 _ (by rw[Heap.get?_update_ne _ _ _ _ (zAt (zAc q))];exact zA5 _ q)
 show Kc _ _ _ _ _ { s with heap:=((s.heap.push (seqObj "list" #[] 0)).update s.heap.objs.size (Obj.mapSeq (·++vs.toArray))).push (seqObj "list" vs.toArray 0) };rw[d];refine E' (Jt (wpAny_call_entry slot_list_sort ⟨_,e,rfl⟩ entry_list_sort (qan9 e a g (λ h' k c=>i _ _ h' (λ b o q n=>k b o (j _ _ q) n) c) λ out r t=>⟨_,rfl,?_⟩) (args_list_sort _)));exact G' ⟨_,rfl,h out r t⟩
end
end S6
namespace LV
open PySem L2 PyProof.Rows
variable{ps:List (Int×Int)}
abbrev Dh(ps:List (Int×Int)):List (Int×Int):=ps.mergeSort λ p q=>!S6.plt q p
def PrA(H:Hp)(v:V)(p:Int×Int):Prop:=∃ b,v=.ref b/\H b=some (.q [.int p.1,.int p.2])
noncomputable def kfh(h:Heap):V'->Int×Int
 | .ref b=>match h.get? b with
   | some o=>match o.data with
     | .seq xs _=>(numOf (xs.getD 0 .none),numOf (xs.getD 1 .none))
     | _=>(0,0)
   | none=>(0,0)
 | _=>(0,0)
theorem qaV6{h:Heap}{v:V'}{p:Int×Int}(t:S6.TP h v p):kfh h v=p:=by
 obtain⟨b,t,u,o,n,rfl,a,d,c⟩:=t;simp only[kfh,a,c];rfl
noncomputable def vOf:V'->V
 | .ref b=>.ref b
 | _=>.non
section
variable{X:Cx}{D6:List (γ×Obj)}{σ:List (Option V)}{H:Hp}{s:δ}
theorem qaJ5(I:Oz X D6 σ H s){vs:List V}{its:List V'}(r:Ox vs its)(t:Paired (PrA H) vs ps) :
   its.map (kfh s.heap)=ps/\∀ u∈its,S6.TP s.heap u (kfh s.heap u)/\∃ b,u=.ref b/\H b=some (.q [.int (kfh s.heap u).1,.int (kfh s.heap u).2]):=by
 induction t generalizing its with
 | nil=>cases r;exact⟨rfl,nofun⟩
 | @cons v p vs ps h t f =>
   cases r with
   | @cons _ u _ its ru rt =>
     obtain⟨b,rfl,c⟩:=h;cases ru;obtain⟨w,q,⟨o,g,i,n,j⟩,_⟩:=I.tuple (.inl (.inl c));have d:S6.TP s.heap (.ref b) p:=by
       obtain⟨x,y,rfl,⟨t1,rfl⟩,t2,rfl⟩:=Ox.two q;exact⟨b,t1,t2,o,n,rfl,g,i,j⟩
     have e:=qaV6 d;obtain⟨k,l⟩:=f rt;refine⟨by rw[zAy,e,k],λ u a=>?_⟩;rcases zAo.mp a with rfl | a
     . rw[e];exact⟨d,b,rfl,c⟩
     exact l u a
theorem qav2{h:Heap}:∀{out:List V'},(∀ u∈out,∃ b,u=.ref b/\H b=some (.q [.int (kfh h u).1,.int (kfh h u).2]))->Ox (out.map vOf) out/\Paired (PrA H) (out.map vOf) (out.map (kfh h))
 | [],_=>⟨.nil,.nil⟩
 | u::out,k=>by
   obtain⟨b,rfl,c⟩:=k u zAf;have a:=qav2 (out:=out) λ v d=>k v (zA7 _ d)
   exact⟨.cons rfl a.1,.cons ⟨b,rfl,c⟩ a.2⟩
theorem qS9{h:Heap}{kf:V'->Int×Int}:∀{its:List V'},(∀ u∈its,S6.TP h u (kf u))->∃ fs,W.KatTups h its fs/\fs.length=its.length/\∀ f∈fs,∃ i t,f=Nb i t
 | [],_=>⟨[],trivial,rfl,nofun⟩
 | u::its,k=>by
   obtain⟨fs,f1,f2,f3⟩:=qS9 (its:=its) λ v c=>k v (zA7 _ c)
   obtain⟨b,t,w,o,n,rfl,d,e,g⟩:=k u zAf;refine⟨Nb _ t::fs,W.KatTups.cons d e g rfl f1,by rw[zAk,f2];rfl,λ f a=>?_⟩;rcases zAo.mp a with rfl | a
   . exact⟨_,_,rfl⟩
   exact f3 f a
theorem qac5(ps:List (Int×Int)):(Dh ps).Pairwise λ p q=>S6.plt q p=false:=by
 refine(List.pairwise_mergeSort (λ a b c d e=>?_) (λ a b=>?_) ps).imp λ{a b} h=>by simpa using h
 . simp[S6.plt] at d e ⊢;lia
 simp[S6.plt];lia
theorem qaz6{c:List (Int×Int)}(d:c.Perm ps)(e:c.Pairwise λ p q=>S6.plt q p=false):c=Dh ps:=by
 refine List.Perm.eq_of_pairwise (le:=λ p q=>S6.plt q p=false) (λ a b _ _ f g=>?_) e (qac5 ps) (d.trans (Mj _ _).symm);simp[S6.plt] at f g;exact Prod.ext (by lia) (by lia)
def qaI3(K:No):List V->Hp->VK->Prop:=λ xs H Q=>∃ a vs ps,xs=[.ref a]/\SqL K H a vs/\Paired (PrA H) vs ps/\ps.Nodup/\ps.length<=64/\∀ l b,H l=none->Paired (PrA H) b (Dh ps)->Q (.ref l) (upd H l (.l b))
theorem qal0:CallR X (.builtin "sorted") (qaI3 X.K):=by
 intro D6 s σ H V Y Q I r h;obtain⟨a,Z,B,rfl,C,t,D,hl,q⟩:=h;obtain⟨u,rfl,F⟩:=B6 r;cases F;obtain⟨f,G,J,hz⟩:=I.list C;obtain⟨j,g⟩:=qaJ5 I G t;have L:f.length<=64:=by have:=congrArg K5 j;rw[zAg] at this;lia
 refine S6.sorted6 (kf:=kfh s.heap) (kd:=tuples' true) J.isList L (by rw[j];exact D) (λ A E h' k c=>⟨λ Q' l=>?_,λ x y M N E Q l=>?_⟩) λ d m O=>?_
 . obtain⟨fs,f1,f2,f3⟩:=qS9 λ u n=>(g u n).1.keep k
   refine W.kat_kind (T:=.type "int") f1 (by lia) (λ v P=>?_) rfl l;obtain⟨i,t,rfl⟩:=f3 v P;exact W.Looks.of_pure rfl
 . exact S6.cmpP ((g _ M).1.keep k) ((g _ N).1.keep k) l
 obtain⟨R,p⟩:=qav2 (H:=H) (h:=s.heap) (out:=d) λ u n=>(g u (m.mem_iff.mp n)).2
 obtain⟨e,S⟩:=sortedAll_at s.heap f d.toArray;have U:d.map (kfh s.heap)=Dh B:=qaz6 (j ▸ m.map _) O;rw[U] at p;refine⟨.ref _,_,I.laid (t':=s.toks) (λ b o z=>sortedAll_old z) (Nat.le_succ _) (show ObjOk X.prog X.w _ _ _ (.l (d.map vOf)) from⟨?_,d,e,R,S⟩),rfl,q _ _ (I.hok.fresh (Nat.le_succ _)) p⟩;rw[zAg,m.length_eq,Jx];lia
noncomputable def Ho:D->Option (Int×Int)
 | .q [.int a,.int b]=>some (a,b)
 | _=>none
noncomputable def prD2(p:Int×Int):D:=.q [.int p.1,.int p.2]
def qax0(x:D):Option D:=match x with
 | .l _ ys=>(ys.mapM Ho).bind λ ps=>gd (ps.Nodup/\ps.length<=64) (.l false ((Dh ps).map prD2))
 | _=>none
theorem qae2:∀{ys:List D}{ps:List (Int×Int)},ys.mapM Ho=some ps->ys=ps.map prD2
 | [],ps,h=>by cases h;rfl
 | y::ys,ps,h=>by
   rw[M4] at h;obtain⟨p,a,h⟩:=zA1.mp h;obtain⟨c,b,h⟩:=zA1.mp h;cases h;rw[zAy,qae2 b];congr 1;unfold Ho at a;split at a
   . cases a;rfl
   cases a
theorem qaJ6{F:γ->Prop}{H:Hp}:∀{ps:List (Int×Int)}{vs:List V}{A:List γ},Os F H vs (ps.map prD2) A->Paired (PrA H) vs ps
 | [],_,_,r=>by cases r;exact .nil
 | p::ps,_,_,r=>by
   cases r with
   | cons h t =>
     cases h with
     | q e r =>
       refine .cons ⟨_,rfl,?_⟩ (qaJ6 t);cases r with
       | cons a t1 =>
         cases a;cases t1 with
         | cons b t2=>cases b;cases t2;exact e
theorem qaA8{F:γ->Prop}{H:Hp}{a:List V}(t:Paired (PrA H) a ps):Os F H a (ps.map prD2) []:=by
 induction t with
 | nil=>exact .nil
 | cons h t c =>
   obtain⟨b,rfl,d⟩:=h;exact .cons (A:=[]) (B:=[]) (.q d (.cons (A:=[]) (B:=[]) (.int _) (.cons (A:=[]) (B:=[]) (.int _) .nil))) c
theorem qaF2{K:No}:CS1 true (qaI3 K) qax0:=by
 intro F H v x B d Q r h q;cases x with
 | l z n =>
   obtain⟨c,e,f⟩:=zA1.mp h;obtain⟨⟨g,i⟩,rfl⟩:=qu1 f;cases qae2 e;obtain⟨a,j,A,rfl,k,m,_⟩:=r.lst_inv;exact⟨a,j,c,rfl,.inl (.inl k),qaJ6 m,g,i,λ l o b t=>q _ _ [l] (qz4 b (qaA8 t)) (Same.new b) (qh1 b)⟩
 | _=>cases h
end
theorem qV1{F:γ->Prop}{H:Hp}:∀ ns:List Int,Os F H (ns.map V.int) (ns.map D.int) []
 | []=>.nil
 | n::ns=>.cons (A:=[]) (B:=[]) (.int n) (qV1 ns)
end LV
namespace LV
open PySem L2
mutual
def D.plain:D->Bool
 | .q ds=>D.plains ds
 | .l z ds=>!z&&D.plains ds
 | .non=>true | .bl _=>true | .int _=>true | .str _=>true
 | _=>false
def D.plains:List D->Bool
 | []=>true
 | d::r=>d.plain&&D.plains r
end
theorem Oy.plain{F F':γ->Prop}{H:Hp}{v:V}{d:D}{A:List γ}(r:Oy F H v d A):d.plain=true->Oy F' H v d A:=by
 induction r using Oy.rec (motive_2:=λ c a A _=>D.plains a=true->Os F' H c a A) with
 | q e r i=>exact λ h=>.q e (i h)
 | l e r i=>exact λ h=>.l e (i h)
 | non=>exact λ _=>.non
 | bl b=>exact λ _=>.bl b
 | int i=>exact λ _=>.int i
 | str x=>exact λ _=>.str x
 | nil=>exact Os.nil
 | cons _ _ i j h=>exact Os.cons (i (zAh.mp h).1) (j (zAh.mp h).2)
 | _=>nofun
end LV
namespace LV
open PySem L2 PyProof.Rows
section
variable{c:Vc}{X:Cx}{e:Kj}{o n:VT}{s:VSp}
def tOrT(o n:VT):VT:=λ ds Q xe=>o ds Q xe∨n ds Q xe
theorem eAlt(g:VE c X e o)(i:VE c X e n):VE c X e (tOrT o n):=by
 refine⟨λ D6 s l H Q I b=>?_,λ d Q Q' f k j a=>Or.imp (g.m _ _ _ _ _ j a) (i.m _ _ _ _ _ j a)⟩;obtain⟨F,d,A,f,S,a,q⟩:=b;rcases q with q | q
 . exact g.h D6 s l H Q I ⟨F,d,A,f,S,a,q⟩
 exact i.h D6 s l H Q I ⟨F,d,A,f,S,a,q⟩
end
end LV
namespace L2
open PySem PySem.Spec PyProof.Rows
def qau7:V->List V->Hp->VK->Prop:=λ x vs H Q=>∃(l:γ)(ns:List Int)(k:Int),x=.ref l/\vs=[.int k]/\H l=some (.l (ns.map V.int))/\k∈ns/\Q .non (upd H l (.l ((ns.erase k).map V.int)))
theorem qW5{k:Int}:∀{ns:List Int},k∈ns->∃ j,ns[j]? = some k/\(∀(m:Nat)(x:Int),m < j->ns[m]? = some x->x≠k)/\ns.eraseIdx j=ns.erase k
 | y::ns,h=>by
   by_cases e:y=k
   . subst e
     exact⟨0,rfl,λ m x a=>absurd a (zBx _),by rw[List.erase_cons_head];rfl⟩
   obtain⟨j,c,d,f⟩:=qW5 ((zAo.mp h).resolve_left λ z=>e z.symm);refine⟨j+1,c,λ m x a b=>?_,by rw[List.erase_cons_tail (by simpa using e),<- f];rfl⟩;cases m with
   | zero=>cases b;exact e
   | succ m=>exact d m x (by lia) b
theorem qG2{X:Cx}:MtM X "list.remove" qau7:=by
 intro D6 s U H x R v S Q I J K h;obtain⟨l,d,k,rfl,rfl,D,L,q⟩:=h;cases J;obtain⟨u,rfl,M,rfl⟩:=K.one;obtain⟨z,b,n,r,T,e⟩:=I.lstM D;have f:=r.length;rw[zAg] at f;have g:∀ m (c:m < b.length),∃ t,b[m]=Nb (d[m]'(by lia)) t:=λ m c=>by
   obtain⟨w,E,t,rfl⟩:=r.get (i:=m) (x:=.int (d[m]'(by lia))) (by simp[show m < d.length by lia]);exact⟨t,by rw[zAw c] at E;exact Nm E⟩
 let G:V'->Bool:=λ y=>match y with | .int i _=>i == k | _=>false
 obtain⟨j,N,p,A⟩:=qW5 L;obtain⟨O,B⟩:=zA4.mp N;have o:∀ m (c:m < b.toArray.size),G b.toArray[m]=(d[m]'(by simp at c;lia) == k):=λ m c=>by
   obtain⟨t,e⟩:=g m (by simpa using c);have e:b.toArray[m]=Nb (d[m]'(by simp at c;lia)) t:=by simpa using e
   rw[e]
 refine J' Nx ⟨_,e,rfl⟩ F.entry_list_remove (F.args_list_remove_2 _ _) (MeetsSeq.list_remove l b.toArray n (.int k M) G (λ y P=>?_) j (by simp;lia) ?_ (λ m c C=>?_) (by rw[zA3];lia)) ⟨e,?_⟩
 . obtain⟨m,c,rfl⟩:=List.getElem_of_mem (by simpa using P:y∈b)
   obtain⟨t,e⟩:=g m c;rw[e];exact MeetsSeq.EqGives.int _ _ _ _
 . rw[o];simp[B]
 . rw[o]
   exact beq_false_of_ne (p m _ C (by simp[show m < d.length by simp at c;lia]))
 refine⟨.non,_,I.lset (its':=b.eraseIdx j) (ys:=(d.erase k).map V.int) D e (by simp) ?_ ?_,rfl,q⟩
 . rw[<- A,show (d.eraseIdx j).map V.int=(d.map V.int).eraseIdx j from by simp[K6,La,Mi]]
   exact r.eraseIdx _
 rw[zAg];have:=List.length_erase_le (a:=k) (l:=d);lia
end L2
namespace LV
open PySem L2 PyProof.Rows
def gRem(ys xs:Ds):Option (Ds×D):=match xs with
 | [.int k]=>(intsD ys).bind λ ns=>if k∈ns then some ((ns.erase k).map D.int,.non) else none
 | _=>none
theorem qaD0:Fx qau7 gRem:=by
 intro F H a s t Ael u j T m d Q n r o h q;cases j with
 | nil=>cases h
 | cons e l =>
 cases l with
 | cons=>cases e<;>cases h
 | nil =>
 cases e with
 | int k =>
   obtain⟨w,rfl,f⟩:=o.one_inv;cases f;obtain⟨i,p,c⟩:=zA1.mp h;by_cases g:k∈i
   . rw[if_pos g] at c
     cases c;cases r.intsD p;exact⟨a,i,k,rfl,rfl,n,g,q _ .non [] [] (qV1 _) .non λ b=>by simp⟩
   rw[if_neg g] at c;cases c
 | _=>cases h
end LV
namespace LV
open PySem L2
def tSlN(i:Nat)(tb:VT):VT:=λ ds Q xe=>(rdN i ds).isSome=true/\tb ds (λ y ds1=>orF y.asI λ h=>orF ((rdN i ds1).bind λ x=>if noT x=true then gSl x none (some h) else none) λ d=>Q d ds1) xe
theorem eslN{c:Vc}{X:Cx}{b:Kj}{tb:VT}(i:Nat){x:Str}{p0 p2 pos:Pos}(k:VE c X b tb)(t:X.N[i]? = some x:=by rfl)(j:Vis X.env.scope x:=by first | exact Oo rfl | exact On (Oo rfl) | exact On (On rfl))(G:N' x:=by decide)(l:(x == ("__classdict__" : Str))=false:=by decide) :
   VE c X (.Subscript (.Name x p0) (.Slice none (some b) none p2) pos) (tSlN i tb):=by
 refine⟨λ D6 s σ H Q I n=>?_,λ u Q Q' C J K e=>Nl (k.m _ _ _ _ _ (λ d f=>qa5 λ h=>qa5 λ z=>K z f) e)⟩;obtain⟨F,u,A,C,S,x,L,q⟩:=n;refine qQ2 qac7 (qn3 t j G l) qae5 (qae4 k.h) D6 s σ H Q I ?_;have D:=qn9 t D6 σ H s I;obtain⟨W,o⟩:=zB0.mp L;obtain⟨v,B0,j,_,_⟩:=S.name D o;refine⟨v,j,F,u,A,C,S,x,k.m _ _ _ _ _ (λ Y f q w H1 F1 T A1 M S1 Z O=>?_) (λ _ _ z=>z) q⟩;have p:O0 F H A F1 H1 A1:=O.count λ b=>by rw[zA0];lia
 obtain⟨h,P,q⟩:=qa7.mp q;obtain⟨d,a,q⟩:=qa7.mp q;obtain⟨y,R,a⟩:=zA1.mp a;obtain⟨v',B,g,U,_⟩:=S1.name D R;rw[j] at g;cases g;by_cases e:noT y=true
 . rw[if_pos e] at a
   refine⟨h,M.asI P,os_sl U a (λ ys z=>by subst z;cases e) λ w H' B' V r E=>?_⟩;exact q w H' F1 B' A1 V (S1.same r) (S1.new E r) (p.trans (E.stp r))
 rw[if_neg e] at a;cases a
end LV
namespace L2
open PySem PySem.Spec PyProof.Rows
theorem O2.u64{cm:Bool}{k:Nat}{A:Kf}(a:O2 cm k A):A.units+64 < cLine:=a.units
end L2
namespace LV
open PySem L2
abbrev VH:=Exn->VTS
end LV
namespace LV
open PySem L2
variable{ds:Ds}
section
variable{F:γ->Prop}{H:Hp}
theorem Locs.fz{F':γ->Prop}{x:List (Option V)}{A:List γ}(r:Locs F H x ds A):(∀ b,F b->F' b)->(∀ b∈A,F' b)->Locs F' H x (D.fzs ds) []:=by
 induction r with
 | nil=>exact λ _ _=>.nil
 | no t a=>exact λ h q=>.no (a h q)
 | so h t a=>exact λ m q=>.so (h.fz m λ b c=>q b (zA8.mpr (.inl c))) (a m λ b c=>q b (zA8.mpr (.inr c)))
theorem Locs.but{x y:List (Option V)}{A:List γ}{i:Nat}{d:D}(L:Locs F H x ds A)(f:ds[i]? = some d)(g:y.length=x.length)(k:∀ j,j≠i->y[j]? = x[j]?):∃ A',Locs F H y (ds.set i .u) A'/\∀ b,A'.count b<=A.count b:=by
 obtain⟨σ1,o,σ2,l,n,A1,B,A2,rfl,rfl,p,q,rfl,r,w,s⟩:=L.split f;obtain⟨a,t⟩:∃ a,y[i]? = some a:=⟨_,zAw (by rw[g,zA6,zAk];lia)⟩
 have e:y=σ1++a::σ2:=by
   apply List.ext_getElem?;intro j;by_cases c:j=i
   . subst c;rw[t,qA0 p]
   rw[k j c];rcases Nat.lt_or_ge j i with h | h
   . rw[zAp (by lia),zAp (by lia)]
   rw[zBo (by lia),zBo (by lia)];obtain⟨m,u⟩:∃ m,j - σ1.length=m+1:=⟨j - σ1.length - 1,by lia⟩
   rw[u];rfl
 rw[e,qo0 q];refine⟨A1++([]++A2),r.append (Locs.cons (o:=a) (d:=.u) (B:=[]) (by cases a with | none=>exact .no | some v=>exact .so (.u v)) s),λ b=>?_⟩;simp only[zA0,zB5];lia
end
section
variable{c:Vc}{X:Cx}{N:Kk}{t:VTS}
def Jf(i:Nat)(t:VTS):VTS:=λ e ds=>orF ds[i]? λ _=>t ⟨λ _=>e.nx (ds.set i .u),λ d _=>d.plain=true/\e.rt d (ds.set i .u),λ _=>False,λ _=>False,λ _ _=>False⟩ (D.fzs ds)
theorem slent(i:Nat)(h:∀ av,VS ⟨c.E,λ j=>!(j == i),av,c.gv⟩ X N t)(C:c.W i=false:=by rfl):VS c X N (Jf i t):=by
 refine⟨λ D6 s M H E I q=>?_,λ e L n f q=>?_⟩
 rotate_left
 . obtain⟨d,p,q⟩:=qa7.mp q
   refine qa7.mpr ⟨d,p,(h []).m _ _ _ ?_ q⟩;exact⟨λ _=>f.nx _,λ d _ z=>⟨z.1,f.rt _ _ z.2⟩,λ _ z=>z,λ _ z=>z,λ _ _ z=>z⟩
 obtain⟨F,n,A,e,S,l,q⟩:=q;obtain⟨d,p,q⟩:=qa7.mp q;refine(h (M++c.gv)).h D6 s M H E I ⟨λ b=>F b∨b∈A,D.fzs n,[],_,⟨S.loc.fz (λ _=>.inl) (λ _=>.inr),⟨λ b=>by simp,λ b _=>by simp,λ b h=>h.elim (S.ok.ex b) λ h=>let ⟨o,e,_⟩:=S.loc.cells b h;⟨o,e⟩⟩,rfl,λ _ _=>rfl⟩,?_,q⟩;have fin:∀{a M' H' F' A' T},O1 ⟨c.E,λ j=>!(j == i),M++c.gv,c.gv⟩ F' H' M' a A'->Ok F' H' (T++A')->O0 (λ b=>F b∨b∈A) H [] F' H' (T++A')->∃ A2,O1 c F H' M' (n.set i .u) A2/\Ok F H' (T++A2)/\O0 F H A F H' (T++A2):=λ{a M' H' F' A' T} S' G s=>by
   have u:Same H H':=λ b o e=>s.fr b o e (by simp)
   have f:(M'++c.gv).length=(M++c.gv).length:=S'.len.symm;have x:∀ j,j≠i->(M'++c.gv)[j]? = (M++c.gv)[j]? := λ j g=>S'.ag j (by simp[g])
   obtain⟨A2,L2,J⟩:=(S.loc.same u).but p f x;have y:New H T:=⟨λ b=>by have:=G.sep b;rw[zA0] at this;lia,λ b o e=>by have:=s.sub b o e (by simp);rw[zA0] at this;lia⟩
   have k:∀ b,(T++A2).count b<=(T++A).count b:=λ b=>by rw[zA0,zA0];have:=J b;lia
   have B:Ok F H' (T++A2):=(y.ok S.ok S.loc.cells u).count k;exact⟨A2,⟨L2,B.right,by rw[S.len,f],λ j g=>by rw[x j (λ z=>by rw[z,C] at g;cases g)];exact S.ag j g⟩,B,(y.stp u).count k⟩
 refine⟨λ a M' H' F' A' q S' s=>?_,λ d a v M' H' F' T A' q r S' o s=>?_,λ _ _ _ _ _ q=>q.elim,λ _ _ _ _ _ q=>q.elim,λ _ _ _ _ _ _ _ q=>q.elim⟩
 . obtain⟨A2,S2,_,w⟩:=fin (T:=[]) S' S'.ok s
   exact l.nx _ _ _ _ _ q S2 w
 obtain⟨A2,S2,K,w⟩:=fin S' o s;exact l.rt _ _ _ _ _ _ _ _ q.2 (r.plain q.1) S2 K w
end
theorem qaM5{i:Nat}{t:VTS}{e:VEnds}{d:D}(h:ds[i]? = some d)(q:t ⟨λ _=>e.nx (ds.set i .u),λ d _=>d.plain=true/\e.rt d (ds.set i .u),λ _=>False,λ _=>False,λ _ _=>False⟩ (D.fzs ds)):Jf i t e ds:=by
 unfold Jf;rw[h];exact q
end LV
namespace LV.My
open PySem L2 Row _root_.My
variable{N i j l r:Nat}{Q:DK}{R:Ds->D->Prop}{b p z':Bool}{d x y:D}{ds ys:Ds}{e:VEnds}{f fa fb:FV}{fs:List (Str×D)}{g':Nat->Option Int}{k:Int}{ks ns:List Int}{m:Str}{pf:PF}{qc:VTT}{s:VSp}{t u:VTS}{ta tb te:VT}{tr:VTB}{xe:XKd}{α:Type}
noncomputable def _root_.LV.D.whole:D->Bool
 | .int _=>true
 | _=>false
noncomputable def _root_.LV.D.within(l m:Int):D->Bool
 | .int i=>decide (l<=i)&&decide (i<=m)
 | _=>false
def _root_.LV.D.num:D->Bool:=D.within 0 1000000000000000000
noncomputable def fx3(g:D->D->D->Option D):Ds->Option D
 | [x,y,z]=>g x y z
 | _=>none
theorem qah6{g:D->Option D}(h:Bw (fx1 g) ds Q xe):ds.length=1:=by
 match ds,h with
 | [_],_=>rfl
theorem qaN0{g:D->D->D->Option D}(h:Bw (fx3 g) ds Q xe):ds.length=3:=by
 match ds,h with
 | [_,_,_],_=>rfl
theorem imm1{g:D->Option D}(h:Bw (fx1 g) ds Q xe):Gi (wOf [true]) 0 ds=true:=by
 match ds,h with
 | [_],_=>rfl
theorem imm3{g:D->D->D->Option D}(h:Bw (fx3 g) ds Q xe):Gi (wOf [true,true,true]) 0 ds=true:=by
 match ds,h with
 | [_,_,_],_=>rfl
theorem Jg{g:D->Option D}(h:Bw (fx1 g) ds Q xe):∃ x d,ds=[x]/\g x=some d/\Q d [x]:=by
 match ds,h with
 | [x],h=>obtain⟨d,e,q⟩:=qa7.mp h;exact⟨x,d,rfl,e,q⟩
theorem pure3{g:D->D->D->Option D}(h:Bw (fx3 g) ds Q xe):∃ x y z d,ds=[x,y,z]/\g x y z=some d/\Q d [x,y,z]:=by
 match ds,h with
 | [x,y,z],h=>obtain⟨d,e,q⟩:=qa7.mp h;exact⟨x,y,z,d,rfl,e,q⟩
theorem qm3{t:String}(h:x.kind=some t):x.known=true:=by
 cases x<;>first | rfl | cases h
def Ay(P:Ds->D->Prop):VSp:=λ ds Q _=>∃ d,P ds d/\Q d ds
theorem qb2{P:Ds->D->Prop}:Bn (Ay P):=λ _ _ _ _ _ a _ ⟨d,p,q⟩=>⟨d,p,a _ _ q⟩
noncomputable def Ov(ps:Pr):Ds:=ps.map λ p=>.q [.int p.1,.int p.2]
noncomputable def kvD(ps:Pr):List (Key×D):=ps.map λ p=>(.inl p.1,.int p.2)
def Aa(z:Bool)(C:γ)(n:Int)(wr:Bool)(ps:Pr):D:=.ins z C [("rooms",.int n),("wraps",.bl wr),("homes",.l z (Ov ps)),("home_numbers",.dct z (kvD ps))]
noncomputable def Di:Option Int->D
 | none=>.non
 | some k=>.int k
def Ou(n:Nat)(g:Nat->Option Int):Ds:=(Kz n).map λ i=>Di (g i)
noncomputable def Ot(ks:List Int):Ds:=ks.map .int
theorem qL1:∀ ps:Pr,D.imms (Ov ps)=true
 | []=>rfl
 | p::r=>by show (D.imms [.int p.1,.int p.2]&&D.imms (Ov r))=true;rw[qL1 r];rfl
theorem qh9:∀ ks:List Int,D.imms (Ot ks)=true
 | []=>rfl
 | k::r=>by show (true&&D.imms (Ot r))=true;rw[qh9 r];rfl
theorem qai9{α:Type}{f:α->D}(h:∀ a,(f a).imm=true):∀ l:List α,D.imms (l.map f)=true
 | []=>rfl
 | a::r=>by show ((f a).imm&&D.imms (r.map f))=true;rw[h a,qai9 h r];rfl
theorem qaN9(o:Option Int):(Di o).imm=true:=by cases o<;>rfl
theorem qD9(n:Nat)(g:Nat->Option Int):D.imms (Ou n g)=true:=qai9 (λ i=>qaN9 _) _
theorem qai6:∀ ks:List Int,intsD (Ot ks)=some ks
 | []=>rfl
 | k::r=>by show (intsD (Ot r)).map (λ is=>k::is)=some (k::r);rw[qai6 r];rfl
theorem qA1:∀ ks:List Int,flats (Ot ks)=some (ks.map V.int)
 | []=>rfl
 | k::r=>by show (Option.bind (some (V.int k)) λ v=>(flats (Ot r)).bind λ a=>some (v::a))=_;rw[qA1 r];rfl
theorem qf4(ks:List Int):(Ot ks).length=ks.length:=zAg _
theorem qo4(n:Nat)(g:Nat->Option Int):(Ou n g).length=n:=by simp[Ou]
theorem qL6{n:Nat}{g:Nat->Option Int}(h:i < n):(Ou n g)[i]? = some (Di (g i)):=by
 unfold Ou;rw[zB3,List.getElem?_range h];rfl
theorem qad0{n:Nat}{g:Nat->Option Int}{o:Option Int}:(Ou n g).set i (Di o)=Ou n (λ j=>if j=i then o else g j):=by
 apply List.ext_getElem?;intro j;by_cases a:j < n
 . rw[qL6 a]
   by_cases e:i=j
   . subst e
     rw[List.getElem?_set_self (by rw[qo4];exact a),if_pos rfl]
   rw[zBm e,qL6 a,if_neg (Ne.symm e)]
 rw[List.getElem?_eq_none (by rw[L9,qo4];lia),List.getElem?_eq_none (by rw[qo4];lia)]
theorem qaf2:∀ ps:Pr,qZ7 (Ov ps)=some (kvD ps)
 | []=>rfl
 | p::r=>by
   show (Option.bind (some ((Sum.inl p.1:Key),D.int p.2)) λ q=>(qZ7 (Ov r)).bind λ ps=>some (q::ps))=_;rw[qaf2 r];rfl
theorem qao5{ps:Pr}{m:Int}(h:¬ k∈ps.map (·.1)):Eu (kvD ps) (.inl k) (.int m)=kvD (ps++[(k,m)]):=by
 unfold Eu;rw[if_neg]
 . unfold kvD;rw[zBf];rfl
 intro e;obtain⟨q,a,e⟩:=List.any_eq_true.mp e;obtain⟨r,b,rfl⟩:=zBc.mp a;have e:(Sum.inl r.1:Key)=Sum.inl k:=zAe e;exact h (zBc.mpr ⟨r,b,Sum.inl.inj e⟩)
theorem qU3:∀(a ps:Pr),((ps++a).map (·.1)).Nodup->qu5 (kvD ps) (kvD a)=kvD (ps++a)
 | [],ps,_=>by rw[zAd];rfl
 | q::a,ps,h=>by
   show qu5 (Eu (kvD ps) (.inl q.1) (.int q.2)) (kvD a)=_;have b:¬ q.1∈ps.map (·.1):=by
     rw[zBf,zAy,zBr] at h;exact λ z=>h.2.2 _ z _ zAf rfl
   rw[qao5 b,qU3 a (ps++[(q.1,q.2)]) (by rw[zAq];exact h),zAq];rfl
theorem qap9{ps:Pr}(h:(ps.map (·.1)).Nodup):qu5 [] (kvD ps)=kvD ps:=qU3 ps [] h
theorem qax3{z:Bool}{ps:Pr}(h:(ps.map (·.1)).Nodup):G0 (.l z (Ov ps))=some (.dct false (kvD ps)):=by
 show (qZ7 (Ov ps)).map (λ ps=>D.dct false (qu5 [] ps))=_;rw[qaf2];show some (D.dct false (qu5 [] (kvD ps)))=_;rw[qap9 h]
theorem qat6(k:Int):∀ ps:Pr,Dm (kvD ps) (.inl k)=(ps.lookup k).map .int
 | []=>rfl
 | (p,m)::r=>by
   show Dm ((.inl p,.int m)::kvD r) _=_;by_cases e:p=k
   . subst e
     simp[Dm,zAv]
   have a:Dm ((.inl p,D.int m)::kvD r) (.inl k)=Dm (kvD r) (.inl k):=by simp[Dm,zBy,e]
   rw[a,qat6 k r]
   have:(k == p)=false:=by simpa using λ z=>e z.symm
   simp only[zAv,this]
theorem qa0{o:Option α}{a:α}{k:α->Prop}(e:o=some a)(h:k a):orF o k:=by rw[e];exact h
theorem B8{p:Prop}[Decidable p]{a b:Prop}(h:p)(x:a):if p then a else b:=by rw[if_pos h];exact x
theorem Dk{p:Prop}[Decidable p]{a b:Prop}(h:¬ p)(x:b):if p then a else b:=by rw[if_neg h];exact x
theorem ite_b{a b:Prop}(h1:p=true->a)(h2:p=false->b):if p=true then a else b:=by cases p with | true=>exact h1 rfl | false=>exact h2 rfl
noncomputable def Gn:Option Int->D
 | some f=>.int f
 | none=>.non
theorem Jh(b:rdN i ds=some x)(h:s [x] (λ d ys=>orF (Ap [.sl i] ys (ds.set i .u)) λ a=>Q d a) (λ e ys=>orF (Ap [.sl i] ys (ds.set i .u)) λ a=>xe e a)):qj3 s [] (tbN i Ax) ds Q xe :=
 ⟨by rw[b];rfl,by show orF (rdN i ds) _;rw[b];exact h⟩
theorem qF8{f:Ds->Option D}(e:f ds=some d)(q:Q d ds):Bw f ds Q xe:=qa0 e q
theorem qm0(e:R ds d)(q:Q d ds):Ay R ds Q xe:=⟨d,e,q⟩
theorem qc2{K:Ds->List Pl->Ds->Prop}(a:rdN i ds=some x)(h:tr ds (λ xs ps ds1=>orF (rdN i ds1) λ d=>K (d::xs) (.sl i::ps) (ds1.set i .u)) xe):tbN i tr ds K xe:=⟨by rw[a];rfl,h⟩
theorem qe8{K:Ds->List Pl->Ds->Prop}(b:f ds=some y)(h:tr ds (λ xs ps a=>K (y::xs) (.no::ps) a) xe):tbV (B7 f) tr ds K xe:=qa0 (k:=λ y=>tr ds (λ xs ps a=>K (y::xs) (.no::ps) a) xe) b h
theorem rd0{r:Ds}(h:d.known=true):rdN 0 (d::r)=some d:=ql8.mpr ⟨rfl,h⟩
theorem qak0{β:Type}(f:α->β)(l:List α):l.filterMap (λ a=>some (f a))=l.map f:=by simp
section
variable{z:Bool}{C:γ}{n:Int}{wr:Bool}{ps:Pr}
theorem qE2{f:Str}(h:fs.lookup f=some d):D.fld C f (.ins z C fs)=some d:=by
 show (if C=C then fs.lookup f else none)=some d;rw[if_pos rfl,h]
theorem qe1:D.fld C "rooms" (Aa z C n wr ps)=some (.int n):=qE2 (by rfl)
theorem qw5:D.fld C "wraps" (Aa z C n wr ps)=some (.bl wr):=qE2 (by rfl)
theorem qaa8:D.fld C "home_numbers" (Aa z C n wr ps)=some (.dct z (kvD ps)):=qE2 (by rfl)
theorem qaw7(h:fs.lookup m=none):(D.ins z C fs).isM C m=true:=by
 show (decide (C=C)&&(fs.lookup m).isNone)=true;rw[zAl rfl,h];rfl
theorem qg0(h:([("rooms",.int n),("wraps",.bl wr),("homes",.l z (Ov ps)),("home_numbers",.dct z (kvD ps))]:List (Str×D)).lookup m=none):(Aa z C n wr ps).isM C m=true:=qaw7 h
theorem A5{g:D->Option D}(h:fa ds=some x)(h':g x=some y):f1 g fa ds=some y:=qaE8.mpr ⟨x,h,h'⟩
theorem Ae{g:D->D->Option D}(h:fa ds=some x)(h':fb ds=some y)(h2:g x y=some d):f2 g fa fb ds=some d:=qaE7.mpr ⟨x,y,h,h',h2⟩
theorem qk2:(D.ins false C fs).ownI C=some fs:=by
 show (if C=C then some fs else none)=some fs;rw[if_pos rfl]
end
theorem qC0{C:γ}{p:D}(b:rdN i ds=some p)(hm:p.isM C m=true)(h:tr ds (λ xs ps ds1=>orF (rdN i ds1) λ d=>s (d::(xs++[])) (λ r ys=>orF (Ap (.sl i::ps) ys (ds1.set i .u)) λ a=>Q r a) (λ x ys=>orF (Ap (.sl i::ps) ys (ds1.set i .u)) λ a=>xe x a)) xe):qw8 C m s [] i tr ds Q xe:=⟨qa0 b hm,h⟩
theorem qJ6{f:Ds->Option D}(a:rdN i ds=some x)(e:f [x]=some d)(b:Ap [.sl i] [x] (ds.set i .u)=some ds)(q:Q d ds):qj3 (Bw f) [] (tbN i Ax) ds Q xe:=Jh a (qF8 e (qa0 b q))
theorem qaV3(a:rdN i ds=some x)(r:R [x] d)(b:Ap [.sl i] [x] (ds.set i .u)=some ds)(q:Q d ds):qj3 (Ay R) [] (tbN i Ax) ds Q xe:=Jh a (qm0 r (qa0 b q))
theorem qK8(c:rdN i ds=some x)(b:rdN j ds=some y)(a:rdN i (ds.set j .u)=some x)(r:R [x,y] d)(e:Ap [.sl i,.sl j] [x,y] ((ds.set j .u).set i .u)=some ds)(q:Q d ds):qj3 (Ay R) [] (tbN i (tbN j Ax)) ds Q xe :=
 qc2 c (qc2 b (qa0 b (qa0 a (qm0 r (qa0 e q)))))
theorem qR2{w:D}(e:rdN i ds=some x)(f:rdN j ds=some y)(c:rdN l ds=some w)(a:rdN j (ds.set l .u)=some y)(b:rdN i ((ds.set l .u).set j .u)=some x)(r:R [x,y,w] d)(g:Ap [.sl i,.sl j,.sl l] [x,y,w] (((ds.set l .u).set j .u).set i .u)=some ds)(q:Q d ds):qj3 (Ay R) [] (tbN i (tbN j (tbN l Ax))) ds Q xe :=
 qc2 e (qc2 f (qc2 c (qa0 c (qa0 a (qa0 b (qm0 r (qa0 g q)))))))
theorem qK7{C:γ}{p:D}(c:rdN i ds=some p)(hm:p.isM C m=true)(b:rdN j ds=some x)(a:rdN i (ds.set j .u)=some p)(r:R [p,x] d)(e:Ap [.sl i,.sl j] [p,x] ((ds.set j .u).set i .u)=some ds)(q:Q d ds):qw8 C m (Ay R) [] i (tbN j Ax) ds Q xe :=
 qC0 c hm (qc2 b (qa0 b (qa0 a (qm0 r (qa0 e q)))))
theorem qaq0{C:γ}{p:D}(e:rdN i ds=some p)(hm:p.isM C m=true)(f:rdN j ds=some x)(c:rdN l ds=some y)(a:rdN j (ds.set l .u)=some x)(b:rdN i ((ds.set l .u).set j .u)=some p)(r:R [p,x,y] d)(g:Ap [.sl i,.sl j,.sl l] [p,x,y] (((ds.set l .u).set j .u).set i .u)=some ds)(q:Q d ds):qw8 C m (Ay R) [] i (tbN j (tbN l Ax)) ds Q xe :=
 qC0 e hm (qc2 f (qc2 c (qa0 c (qa0 a (qa0 b (qm0 r (qa0 g q)))))))
theorem Fo{t:VT}{n:VTS}(h:∀(Q:DK)(xe:XKd),Q (.bl true) ds->t ds Q xe)(h2:u e ds):Gg (sIf (D9 (ttE t)) n Gf) u e ds:=h _ _ h2
theorem if_e{t:VT}{v:VTS}(h:∀(Q:DK)(xe:XKd),Q (.bl b) ds->t ds Q xe)(h1:b=true->u e ds)(h2:b=false->v e ds):sIf (ttE t) u v e ds:=h _ _ (by
 show if b=true then u e ds else v e ds
 exact ite_b h1 h2)
theorem if_v{v:VTS}(h:f ds=some (.bl b))(h1:b=true->u e ds)(h2:b=false->v e ds):sIf (ttV f) u v e ds:=by
 show orF ((f ds).bind D.asB) _;rw[h];exact ite_b h1 h2
theorem Fp{u v:VT}(h:f ds=some (.bl b))(h1:b=true->u ds Q xe)(h2:b=false->v ds Q xe):tIfE (ttV f) u v ds Q xe:=by
 show orF ((f ds).bind D.asB) _;rw[h];exact ite_b h1 h2
theorem qv9(e:f ds=some d)(q:Q d ds):B7 f ds Q xe:=qa0 e q
theorem qj1{w:VTS}(b:Bool)(h:f ds=some (.bl b))(h1:b=true->u { e with nx:=w e } ds)(h2:b=false->w e ds):Gg (sIf (ttV f) u Gf) w e ds:=if_v (u:=u) (v:=Gf) h h1 h2
theorem qk0{t:VT}(h:t ds e.rt e.xe):sRet t e ds:=h
theorem qf3(d:D)(h:f ds=some d)(q:e.rt d ds):sRet (B7 f) e ds:=qa0 h q
theorem At(a:Ds)(h:ds=a)(q:t e a):t e ds:=h ▸ q
theorem qai5{z:Bool}(h:rdN i ds=some (.l z ys)):Ba (fx2 gIsi) (A6 (rdN i) (A6 (kC (D.ty "list")) λ _=>some [])) ds=some (.bl true):=by
 unfold Ba A6;rw[h];rfl
theorem qm1{z:Bool}(h:rdN i ds=some (.l z ys)):Ba (fx1 Fa) (A6 (rdN i) λ _=>some []) ds=some (.int (ys.length:Nat)):=by
 unfold Ba A6;rw[h];rfl
theorem qf6{Q:Bool->Ds->Prop}(h:f ds=some (.bl b))(q:Q b ds):ttV f ds Q xe:=by
 show orF ((f ds).bind D.asB) _;rw[h];exact q
theorem qw2{Q:Bool->Ds->Prop}(h:f ds=some (.bl b))(q:Q (!b) ds):D9 (ttV f) ds Q xe:=qf6 (Q:=λ b ds=>Q (!b) ds) h q
theorem qI2{t u:VTT}{Q:Bool->Ds->Prop}(b c:Bool)(h1:∀ Q:Bool->Ds->Prop,Q b ds->t ds Q xe)(h2:b=false->∀ Q:Bool->Ds->Prop,Q c ds->u ds Q xe)(q:Q (b||c) ds):ttOr t u ds Q xe:=h1 _ (by
 cases b with
 | false=>exact h2 rfl _ q
 | true=>exact q)
theorem qg6{t u:VTT}{Q:Bool->Ds->Prop}(b c:Bool)(h1:∀ Q:Bool->Ds->Prop,Q b ds->t ds Q xe)(h2:b=true->∀ Q:Bool->Ds->Prop,Q c ds->u ds Q xe)(q:Q (b&&c) ds):ttAnd t u ds Q xe:=h1 _ (by
 cases b with
 | false=>exact q
 | true=>exact h2 rfl _ q)
theorem G8(b:Bool)(h:∀ Q:Bool->Ds->Prop,Q b ds->qc ds Q e.xe)(h1:b=true->t e ds)(h2:b=false->u e ds):sIf qc t u e ds:=h _ (ite_b h1 h2)
theorem qh2{w:VTS}(b:Bool)(h:∀ Q:Bool->Ds->Prop,Q b ds->qc ds Q e.xe)(h1:b=true->t { e with nx:=w e } ds)(h2:b=false->w e ds):Gg (sIf qc t Gf) w e ds:=h _ (ite_b h1 h2)
theorem qaj3{t:VT}{n:VTS}(h:∀(Q:DK)(xe:XKd),Q (.bl true) ds->t ds Q xe)(h2:e.nx ds):sIf (D9 (ttE t)) n Gf e ds:=h _ _ h2
theorem qaO1{n:VTS}(h:f ds=some (.bl true))(h2:u e ds):Gg (sIf (D9 (ttV f)) n Gf) u e ds:=qw2 (Q:=λ k a=>if k=true then n { e with nx:=u e } a else u e a) (xe:=e.xe) h h2
theorem qaD9{z:Bool}{C:γ}{n:Int}{wr:Bool}{ps:Pr}:gIsO C (Aa z C n wr ps) (.adr C)=some (.bl true):=by
 show (if C=C then (Aa z C n wr ps).isC C else none)=_;rw[if_pos rfl];show (if C=C then some (D.bl true) else none)=_;rw[if_pos rfl]
theorem qd7{g:VTG}{t:VTS}{e:VEnds}(I:Nat->Ds->Prop):∀(xs:List D)(i:Nat)(ds:Ds),I i ds->(∀(j:Nat)(x:D),xs[j]? = some x->∀ ds,I (i+j) ds->∀ K:Ds->Prop,(∀ a,I (i+j+1) a->K a)->g x ds λ ds1=>t { e with nx:=K,ct:=K,bk:=e.nx } ds1)->(∀ a,I (i+xs.length) a->e.nx a)->Dg g t e xs ds
 | [],_,ds,h,_,hn=>hn ds h
 | x::xs,i,ds,h,hs,hn=>hs 0 x rfl ds h _ λ a f=>qd7 I xs (i+1) a f (λ j y k b c K l=>hs (j+1) y k b (by rw[show i+(j+1)=i+1+j by lia];exact c) K λ d m=>l d (by rw[show i+1+j+1=i+(j+1)+1 by lia];exact m)) λ b c=>hn b (by rw[zAk,show i+(xs.length+1)=i+1+xs.length by lia];exact c)
theorem qR7{g:VTG}{n:Int}(h:f ds=some (.int n))(a:Fd n=true)(k:Dg g t e (Bp 0 n.toNat) ds):I9 (Gj (tbV (Db f) Ax)) g t e ds:=by
 show orF (f ds) _;rw[h];exact⟨rfl,a,k⟩
theorem qR1{n:Int}(a:0<=n)(h1:n<=1000):Fd n=true:=by
 unfold Fd;rw[zAl (by lia),zAl (by lia)];rfl
theorem qF6{m:Nat}(h:(Bp 0 m)[j]? = some x):j < m/\x=.int (j:Int):=by
 by_cases a:j < m
 . rw[qad9 a] at h
   cases h;exact⟨a,by rw[Int.zero_add]⟩
 rw[List.getElem?_eq_none (by unfold Bp;rw[zAg,zB4];lia)] at h;cases h
def Em(p:Int->Bool)(y:D):Option D:=y.asI.bind λ k=>if p k=true then some (.int k) else none
theorem qU7{p:Int->Bool}(h:p k=true):Em p (.int k)=some (.int k):=if_pos h
theorem qU8{p:Int->Bool}(h:p k=false):Em p (.int k)=none:=if_neg (by rw[h];decide)
theorem qz7(p:Int->Bool):∀ ks:List Int,(Ot ks).filterMap (Em p)=Ot (ks.filter p)
 | []=>rfl
 | k::ks=>by
   show M5 (Em p) (D.int k::Ot ks)=_;rw[zC0];cases h:p k with
   | true=>rw[qU7 h,Lh h];show D.int k::(Ot ks).filterMap (Em p)=_;rw[qz7 p ks];rfl
   | false=>rw[qU8 h,Lg (by rw[h];decide),qz7 p ks]
theorem qaX4{a:Bool}(h1:fa ds=some (.bl a))(h2:fb ds=some (.bl b)):fOr fa fb ds=some (.bl (a||b)):=by
 unfold fOr;rw[h1,h2];cases a<;>rfl
theorem qak1{a:Bool}(h1:fa ds=some (.bl a))(h2:fb ds=some (.bl b)):fAnd fa fb ds=some (.bl (a&&b)):=by
 unfold fAnd;rw[h1,h2];cases a<;>rfl
theorem qb1(ds1:Ds)(h1:∀ K:Ds->Prop,K ds1->t { e with nx:=K } ds)(h2:u e ds1):Gg t u e ds:=h1 (u e) h2
theorem qb8(R:Ds->Prop)(h1:∀ K:Ds->Prop,(∀ ds1,R ds1->K ds1)->t { e with nx:=K } ds)(h2:∀ ds1,R ds1->u e ds1):Gg t u e ds:=h1 (u e) h2
theorem qE4(I:Nat->Ds->Prop)(n:Nat)(h:I n ds)(c:∀ n ds,I n ds->∀ K:Ds->Prop,(∀ m a,m < n->I m a->K a)->qc ds (λ b ds1=>if b=true then t { e with nx:=K,ct:=K,bk:=e.nx } ds1 else e.nx ds1) e.xe):qaI2 qc t e ds:=by
 have d:∀ N n ds,n < N->I n ds->whN qc t e N ds:=by
   intro N
   induction N with
   | zero=>intro n ds h;exact absurd h (zBx _)
   | succ N f=>intro n ds i h;exact c n ds h _ λ m a j g=>f m a (by lia) g
 exact⟨n+1,d (n+1) n ds (Nat.lt_succ_self n) h⟩
theorem qaF7(f:rdN i ds=some x)(c:rdN j ds=some y)(b:rdN i (ds.set j .u)=some x)(h:s [x,y] (λ d ys=>orF (Ap [.sl i,.sl j] ys ((ds.set j .u).set i .u)) λ a=>Q d a) (λ e ys=>orF (Ap [.sl i,.sl j] ys ((ds.set j .u).set i .u)) λ a=>xe e a)):qj3 s [] (tbN i (tbN j Ax)) ds Q xe :=
 qc2 f (qc2 c (qa0 c (qa0 b h)))
theorem qaY8{w:D}(g:rdN i ds=some x)(k:rdN j ds=some y)(f:rdN l ds=some w)(b:rdN j (ds.set l .u)=some y)(c:rdN i ((ds.set l .u).set j .u)=some x)(h:s [x,y,w] (λ d ys=>orF (Ap [.sl i,.sl j,.sl l] ys (((ds.set l .u).set j .u).set i .u)) λ a=>Q d a) (λ e ys=>orF (Ap [.sl i,.sl j,.sl l] ys (((ds.set l .u).set j .u).set i .u)) λ a=>xe e a)):qj3 s [] (tbN i (tbN j (tbN l Ax))) ds Q xe :=
 qc2 g (qc2 k (qc2 f (qa0 f (qa0 b (qa0 c h)))))
theorem qaV2{C:γ}{k:Nat}{p w:D}(f:rdN i ds=some p)(hm:p.isM C m=true)(g:rdN j ds=some x)(h:rdN l ds=some y)(e:rdN k ds=some w)(a:rdN l (ds.set k .u)=some y)(b:rdN j ((ds.set k .u).set l .u)=some x)(c:rdN i (((ds.set k .u).set l .u).set j .u)=some p)(r:R [p,x,y,w] d)(n:Ap [.sl i,.sl j,.sl l,.sl k] [p,x,y,w] ((((ds.set k .u).set l .u).set j .u).set i .u)=some ds)(q:Q d ds):qw8 C m (Ay R) [] i (tbN j (tbN l (tbN k Ax))) ds Q xe :=
 qC0 f hm (qc2 g (qc2 h (qc2 e (qa0 e (qa0 a (qa0 b (qa0 c (qm0 r (qa0 n q)))))))))
theorem qaz7(h:ds[j]? = some d):ds.set j d=ds:=by
 obtain⟨a,e⟩:=zA4.mp h;rw[<- e];exact List.set_getElem_self a
theorem qi6(h:ds[i]? = some d)(a:d.known=true):rdN i ds=some d:=ql8.mpr ⟨h,a⟩
def O3(ns:List Int)(b:D):Prop:=∃ x y z,b=bagD x y z ns/\Bg x y z ns
theorem O3.known{b:D}(h:O3 ns b):b.known=true:=by obtain⟨x,y,z,rfl,_⟩:=h;rfl
def qO8:VSp:=λ ds Q _=>∃ b m ns,ds=[b,.int m]/\O3 ns b/\0 < m/\m < 2 ^ 200/\∀ v a,0<=v->v < m->O3 ns a->Q (.int v) [a,.int m]
theorem qc4{b:D}{m:Int}(d:ds[i]? = some b)(B:O3 ns b)(e:f ds=some (.int m))(g:0 < m)(h1:m < 2 ^ 200)(q:∀ v a,0<=v->v < m->O3 ns a->Q (.int v) (ds.set i a)):qj3 qO8 [] (tbN i (tbV (B7 f) Ax)) ds Q xe:=by
 have c:=qi6 d B.known;refine qc2 c (qe8 e (qa0 c ⟨b,m,ns,rfl,B,g,h1,λ v a h j B'=>?_⟩));show Q (.int v) ((ds.set i .u).set i a);rw[Mo];exact q v a h j B'
theorem qw7{b:D}{m:Int}(f:ds[i]? = some b)(B:O3 ns b)(c:ds[j]? = some (.int m))(d:i≠j)(g:0 < m)(h1:m < 2 ^ 200)(q:∀ v a,0<=v->v < m->O3 ns a->Q (.int v) (ds.set i a)):qj3 qO8 [] (tbN i (tbN j Ax)) ds Q xe:=by
 have h:=qi6 f B.known;have k:rdN j ds=some (.int m):=qi6 c rfl;have o:j < ds.length:=(zA4.mp c).1;refine qaF7 h k (qi6 (by rw[zBm (Ne.symm d)];exact f) B.known) ⟨b,m,ns,rfl,B,g,h1,λ v a l n B'=>?_⟩;show Q (.int v) ((((ds.set j .u).set i .u).set i a).set j (.int m));have e:(((ds.set j .u).set i .u).set i a).set j (.int m)=ds.set i a:=by
   rw[Mo,List.set_comm _ _ (Ne.symm d),Mo];exact qaz7 (by rw[zBm d];exact c)
 rw[e];exact q v a l n B'
theorem Ji{i j:Int}(h:small j=true):Hf (.int i) (.int j)=some (.int (i * j)):=ql2 (by rw[h,Bool.or_true])
theorem mulL{i j:Int}(h:small i=true):Hf (.int i) (.int j)=some (.int (i * j)):=ql2 (by rw[h,Bool.true_or])
theorem qaF1{i j:Int}(h:0 < j)(h1:j < 2 ^ 200):gDiv (.int i) (.int j)=some (.int (i / j)):=ql2 (by show (decide (0 < j)&&decide (j < 2 ^ 200))=true;rw[zAl h,zAl h1];rfl)
theorem Eg{x n:Int}(h:0 < n):Hg (.int x) (.int n)=some (.int (x % n)):=ql2 (zAl h)
theorem qac6{i:Int}(h:-(2 ^ 64) < i)(h':i < 2 ^ 64):small i=true:=by unfold small;rw[zAl h,zAl h'];rfl
theorem E3{z:Bool}{g:Nat->Option Int}(h:r < N):gIx (.l z (Ou N g)) (.int (r:Int))=some (Di (g r)):=qY3 (qL6 h)
theorem Hq{g:Nat->Option Int}(h:r < N):ixN (Ou N g).length (r:Int)=some r:=by
 rw[qo4];unfold ixN;simp[h]
theorem qF0{n:Nat}{g:Nat->Option Int}{c:Int}:(Ou n g).set i (.int c)=Ou n (Row.set g i c):=qad0 (o:=some c)
theorem qaC6(N:Nat):(Ky N [D.non]).flatten=Ou N (λ _=>none):=by
 unfold Ou
 induction N with
 | zero=>rfl
 | succ N a=>rw[List.replicate_succ',List.flatten_append,a,Ma,zBf];rfl
theorem qR0{n:Int}(a:0<=n)(h1:n<=64):Hf (.l false [.non]) (.int n)=some (.l false (Ou n.toNat λ _=>none)):=by
 show gd _ _=_;rw[<- qaC6];exact ql2 ⟨rfl,by show 1 * n.toNat<=1000000;lia,by lia,by lia⟩
theorem qj9{g:Nat->Option Int}(h:∀ i,i < N->g i=g' i):Ou N g=Ou N g':=by
 unfold Ou;apply List.map_congr_left;intro i a;rw[h i (zAs.mp a)]
theorem qV9{g:VTG}{n:Int}(h:f ds=some (.int n))(a:Fd n=true)(k:Dg g t e (Bp 0 n.toNat) ds):I9 (Gj (tbV (B7 f) Ax)) g t e ds:=by
 show orF (f ds) _;rw[h];exact⟨a,k⟩
theorem qW0{g:VTG}{n:Int}(h:rdN i ds=some (.int n))(a:Fd n=true)(k:Dg g t e (Bp 0 n.toNat) (ds.set i .u)):I9 (Gj (tbN i Ax)) g t e ds:=by
 refine⟨by rw[h];rfl,?_⟩;exact qa0 h ⟨a,k⟩
theorem qQ8{z:Bool}:Gd true (.int k) (.l z (Ot ks))=some (.bl (!decide (k∈ks))):=by
 show ((flats (Ot ks)).bind λ a=>some (D.bl (if true=true then !inV (.int k) a else inV (.int k) a)))=_;rw[qA1];show some (D.bl (!inV (.int k) (ks.map V.int)))=_;rw[qai8]
theorem qaN5{z:Bool}:Gd false (.int k) (.l z (Ot ks))=some (.bl (decide (k∈ks))):=by
 show ((flats (Ot ks)).bind λ a=>some (D.bl (if false=true then !inV (.int k) a else inV (.int k) a)))=_;rw[qA1];show some (D.bl (inV (.int k) (ks.map V.int)))=_;rw[qai8]
theorem qL0(lo:Int)(n:Nat):(Bp lo n).length=n:=by unfold Bp;rw[zAg,zB4]
theorem qz9(e:f ds=some d)(hi:d.imm=true)(q:Q d ds):Db f ds Q xe:=qa0 (a:=d) (k:=λ(d:D)=>d.imm=true/\Q d ds) e ⟨hi,q⟩
theorem qT4(h:f ds=some d)(hi:d.imm=true)(q:e.nx (ds.set i d)):Ea (Db f) (gNm i) e ds:=qz9 (Q:=λ d a=>gNm i d a e.nx) h hi q
theorem qq7(h:f ds=some d)(q:e.nx (ds.set i d)):Ea (B7 f) (gNm i) e ds:=qv9 (Q:=λ d a=>gNm i d a e.nx) h q
theorem qaw9{n:Nat}{K:Ds->Prop}(hi:ds[i]? = some (.l false ys))(b:fb ds=some (.int k))(c:ixN ys.length k=some n)(q:K (ds.set i (.l false (ys.set n d)))):Fj (λ _=>some (i,[])) fb d ds K:=by
 refine qa0 (a:=(i,([]:List Nat))) rfl ?_;refine qa0 (a:=ys) (by show (A9 ds i []).bind D.own=_;rw[qH2 hi];rfl) ?_;refine qa0 (a:=k) (by rw[b];rfl) ?_;refine qa0 c ?_;show K (Bf ds i [] (.l false (ys.set n d)));rw[qE9 hi];exact q
theorem qI5{n:Nat}(b:f ds=some d)(c:d.imm=true)(hi:ds[i]? = some (.l false ys))(g:fb ds=some (.int k))(h:ixN ys.length k=some n)(q:e.nx (ds.set i (.l false (ys.set n d)))):Ea (Db f) (Fj (λ _=>some (i,[])) fb) e ds :=
 qz9 (Q:=λ d a=>Fj (λ _=>some (i,[])) fb d a e.nx) b c (qaw9 hi g h q)
theorem qT1{n:Nat}(b:f ds=some d)(hi:ds[i]? = some (.l false ys))(c:fb ds=some (.int k))(g:ixN ys.length k=some n)(q:e.nx (ds.set i (.l false (ys.set n d)))):Ea (B7 f) (Fj (λ _=>some (i,[])) fb) e ds :=
 qv9 (Q:=λ d a=>Fj (λ _=>some (i,[])) fb d a e.nx) b (qaw9 hi c g q)
theorem qd8{K:Ds->List Pl->Ds->Prop}(c:f ds=some y)(hi:y.imm=true)(h:tr ds (λ xs ps a=>K (y::xs) (.no::ps) a) xe):tbV (Db f) tr ds K xe:=qz9 (Q:=λ y b=>tr b (λ xs ps a=>K (y::xs) (.no::ps) a) xe) c hi h
theorem qA6(hi:ds[i]? = some (.l false ys))(b:f ds=some d)(c:ys.length < big)(q:Q .non (ds.set i (.l false (ys++[d])))):Eb F9 i (tbV (B7 f) Ax) ds Q xe:=by
 have e:(rdN i ds).bind D.own=some ys:=by rw[qi6 hi rfl];rfl
 refine⟨by rw[e];rfl,qe8 b ?_⟩;refine qa0 (k:=λ ys=>orF (F9 ys [d]) λ z=>Q z.2 (ds.set i (.l false z.1))) e ?_;exact qa0 (a:=(ys++[d],D.non)) (if_pos c) q
theorem qaQ5(hi:ds[i]? = some (.l false ys))(b:ds[j]? = some d)(c:d.known=true)(f:i≠j)(g:ys.length < big)(q:Q .non ((ds.set j .u).set i (.l false (ys++[d])))):Eb F9 i (tbN j Ax) ds Q xe:=by
 have e:(rdN i ds).bind D.own=some ys:=by rw[qi6 hi rfl];rfl
 have e2:(rdN i (ds.set j .u)).bind D.own=some ys:=by rw[qi6 (d:=.l false ys) (by rw[zBm (Ne.symm f)];exact hi) rfl];rfl
 refine⟨by rw[e];rfl,qc2 (qi6 b c) ?_⟩;refine qa0 (k:=λ d=>orF ((rdN i (ds.set j .u)).bind D.own) λ ys=>orF (F9 ys [d]) λ z=>Q z.2 ((ds.set j .u).set i (.l false z.1))) (qi6 b c) ?_;refine qa0 (k:=λ ys=>orF (F9 ys [d]) λ z=>Q z.2 ((ds.set j .u).set i (.l false z.1))) e2 ?_;exact qa0 (a:=(ys++[d],D.non)) (if_pos g) q
theorem qag1{g:Ds->Ds->Option (Ds×D)}{p:List Nat}{d0:D}(h1:pf ds=some (i,p))(h2:(A9 ds i p).bind D.own=some ys)(a:ds[i]? = some d0)(h:tr (ds.set i .u) (λ xs _ ds1=>orF (g ys xs) λ z=>Q z.2 (Bf (ds1.set i d0) i p (.l false z.1))) xe):El g pf tr ds Q xe:=by
 unfold El;rw[h1];show orF ((A9 ds i p).bind D.own) _;rw[h2];show orF ds[i]? _;rw[a];exact h
theorem qaZ4{f:Int->Int->Int}{b:FV}{x y:Int}(hi:ds[i]? = some (.l false ys))(c:fb ds=some (.int k))(d:0<=k)(g:ys[k.toNat]? = some (.int x))(h:b ds=some (.int y))(q:e.nx (ds.set i (.l false (ys.set k.toNat (.int (f x y)))))):sAugV f (λ _=>some (i,[])) fb b e ds:=by
 refine qa0 (a:=(i,([]:List Nat))) rfl ?_;refine qa0 (a:=ys) (by show (A9 ds i []).bind D.own=_;rw[qH2 hi];rfl) ?_;refine qa0 (a:=k) (by rw[c];rfl) ⟨d,?_⟩;refine qa0 (a:=x) (by rw[g];rfl) ?_;refine qa0 (a:=y) (by rw[h];rfl) ?_;show e.nx (Bf ds i [] _);rw[qE9 hi];exact q
theorem E4(b:Bool)(h:fa ds=some (.bl b))(h1:b=true->tb ds Q xe)(h2:b=false->Q (.bl false) ds):G1 (B7 fa) tb ds Q xe :=
 qv9 (xe:=xe) (Q:=λ x ds=>orF x.asB λ k=>if k=true then tb ds Q xe else Q (.bl false) ds) h (ite_b h1 h2)
theorem qm4{K:Ds->Prop}(h:K (ds.set i d)):gNm i d ds K:=h
theorem qb9{K:Ds->List Pl->Ds->Prop}(h:K [] [] ds):Ax ds K xe:=h
theorem qf5(h:te ds (λ _ a=>e.nx a) e.xe):sExpr te e ds:=h
theorem qH1{K:Ds->Prop}(h:K ((ds.set i x).set j y)):gTupV 2 (qaE4 (gNm i) (qaE4 (gNm j) gNilV)) (.q [x,y]) ds K:=⟨rfl,h⟩
theorem qam2{Q:Bool->Ds->Prop}(h:Q true ds):qYes ds Q xe:=h
theorem qD8{S:List Int}:Ot S++[.int k]=Ot (S++[k]):=by unfold Ot;rw[zBf];rfl
theorem qat7{a:VTB}{K:Ds->List Pl->Ds->Prop}(h:tr ds (λ xs _ ds1=>xs.length<=big/\a ds1 (λ ys c b=>K (.q xs::ys) (.no::c) b) xe) xe):tbV (Ix tr) a ds K xe:=h
theorem qf7{K:Ds->List Pl->Ds->Prop}(h:ta ds (λ x ds1=>tr ds1 (λ xs ps a=>K (x::xs) (.no::ps) a) xe) xe):tbV ta tr ds K xe:=h
theorem qaH0(a:fa ds=some x)(b:fb ds=some y)(c:x.imm=true)(d:y.imm=true):Ba gTup (A6 fa (A6 fb λ _=>some [])) ds=some (.q [x,y]):=by
 unfold Ba A6;rw[a,b];show gd (D.imms [x,y]=true/\[x,y].length<=big) (.q [x,y])=_;refine ql2 ⟨?_,by show 2<=1000000;decide⟩;show (x.imm&&(y.imm&&true))=true;rw[c,d];rfl
theorem qH4:Dl ys none (some (r:Int))=ys.take r:=by
 unfold Dl;have a:HT.sIx ys.length ys.length (some ((r:Nat):Int))=min r ys.length:=HT.qau1 _ _ r;rw[a,HT.qad6,Lu,Nat.sub_zero];by_cases h:r<=ys.length
 . rw[Nat.min_eq_left h]
 rw[Nat.min_eq_right (by lia),zBu,zAr (by lia)]
theorem qaX8(h:y∈enD ys):∃ i v,y=.q [.int (i:Nat),v]/\ys[i]? = some v:=by
 obtain⟨⟨v,i⟩,a,rfl⟩:=zBc.mp h;exact⟨i,v,rfl,List.mem_zipIdx_iff_getElem?.mp a⟩
theorem Jj{g:Nat->Option Int}(h:d∈Ou N g):d=.non∨∃ k,d=.int k:=by
 unfold Ou at h;obtain⟨i,_,rfl⟩:=zBc.mp h;cases g i with
 | none=>exact .inl rfl
 | some k=>exact .inr ⟨k,rfl⟩
theorem qJ5{g:D->D->Option D}{Q:Bool->Ds->Prop}(h:ta ds (λ x ds1=>orF ((fb ds1).bind (g x)) λ d=>orF d.asB λ b=>Q b ds1) xe):ttE (t2v g ta fb) ds Q xe:=h
theorem qh3(h:tr ds (λ xs ps ds1=>s (xs++[]) (λ d ys=>orF (Ap ps ys ds1) λ a=>Q d a) (λ x ys=>orF (Ap ps ys ds1) λ a=>xe x a)) xe):qj3 s [] tr ds Q xe:=h
theorem Jk:∀(l:Ds),(∀ d∈l,d=.non∨∃ k,d=.int k)->De (eqN 20) l l=some true
 | [],_=>rfl
 | d::l,h=>by
   have c:eqN 20 d d=some true:=by
     rcases h d zAf with rfl | ⟨k,rfl⟩
     . rfl
     show some (k == k)=_;rw[zBd]
   show ((eqN 20 d d).bind λ a=>(De (eqN 20) l l).bind λ b=>some (a&&b))=_;rw[c,Jk l λ x e=>h x (zA7 _ e)];rfl
theorem qaX1{z:Bool}{g:Nat->Option Int}(h:∀ i,i < N->g i=g' i):gEq (.l z (Ou N g)) (.l z' (Ou N g'))=some (.bl true):=by
 rw[qj9 h];show (De (eqN 20) (Ou N g') (Ou N g')).map D.bl=_;rw[Jk _ λ _=>Jj];rfl
theorem qI4{g:D->D->Option D}(c:fa ds=some x)(h:tb ds (λ y a=>orF (g x y) λ d=>Q d a) xe):t2 g (B7 fa) tb ds Q xe:=qv9 (xe:=xe) (Q:=λ x b=>tb b (λ y a=>orF (g x y) λ d=>Q d a) xe) c h
theorem qA7{g:D->D->Option D}(h:ta ds (λ x ds1=>orF ((fb ds1).bind (g x)) λ d=>Q d ds1) xe):t2v g ta fb ds Q xe:=h
theorem qaH5{g:D->D->Option D}(h:ta ds (λ x ds1=>orF (fb ds1) λ y=>y.imm=true/\orF (g x y) λ d=>Q d ds1) xe):Ik g ta fb ds Q xe:=h
theorem qG5(h:tr ds (λ xs _ ds1=>xs.length<=big/\Q (.l false xs) ds1) xe):tLstV tr ds Q xe:=h
theorem qe7(h:te ds (λ d a=>e.nx (a.set i d)) e.xe):Ea te (gNm i) e ds:=h
theorem qaG0(h:ta ds (λ x ds1=>orF x.asB λ k=>if k=true then tb ds1 Q xe else Q (.bl false) ds1) xe):G1 ta tb ds Q xe:=h
theorem qaw4{C:γ}(h:tr ds (λ xs ps ds1=>s (.ins false C []::(xs++[])) (λ d ys=>d.isN=some true/\orF ys.head? λ self=>orF (Ap ps ys.tail ds1) λ a=>Q self a) (λ x ys=>orF (Ap ps ys.tail ds1) λ a=>xe x a)) xe):qO0 C s [] tr ds Q xe:=h
theorem eq_ks:∀ ks c:List Int,De (eqN 20) (Ot ks) (Ot c)=some (decide (ks=c))
 | [],[]=>rfl
 | [],_::_=>rfl
 | _::_,[]=>rfl
 | k::ks,l::c=>by
   show ((some (k == l)).bind λ a=>(De (eqN 20) (Ot ks) (Ot c)).bind λ b=>some (a&&b))=_;rw[eq_ks ks c];show some ((k == l)&&decide (ks=c))=_;by_cases h:k=l
   . subst h;simp
   simp[h]
theorem qaX0{z:Bool}(ks a:List Int):gNe (.l z (Ot ks)) (.l z' (Ot a))=some (.bl (!decide (ks=a))):=by
 show (De (eqN 20) (Ot ks) (Ot a)).map (λ b=>D.bl (!b))=_;rw[eq_ks];rfl
theorem Jl(h:te ds (λ d ds1=>Q d.fz ds1) xe):tFzV te ds Q xe:=h
def okN:Nat->D->Bool
 | n+1,.l _ xs=>xs.all (okN n)
 | n+1,.q xs=>xs.all (okN n)
 | _,x=>x.d0||x.flat.isSome
theorem qm8{f:D->D->Option Bool}:∀{xs:List D},(∀ x∈xs,f x x=some true)->De f xs xs=some true
 | [],_=>rfl
 | x::xs,h=>by
   show ((f x x).bind λ a=>(De f xs xs).bind λ b=>some (a&&b))=_;rw[h x zAf,qm8 λ y c=>h y (zA7 _ c)];rfl
theorem qR8(h:(x.d0||x.flat.isSome)=true):eqZ x x=some true:=by
 unfold eqZ;split
 . rfl
 rename_i hn
 have a:x.d0=false:=by
   cases e:x.d0 with
   | false=>rfl
   | true=>rw[e] at hn;exact absurd rfl hn
 rw[a,Bool.false_or] at h;cases x with
 | non=>rfl
 | bl b=>show some (eqV (.bl b) (.bl b))=_;rw[qA2 rfl]
 | int i=>show some (eqV (.int i) (.int i))=_;rw[qA2 rfl]
 | str i=>show some (eqV (.str i) (.str i))=_;rw[qA2 rfl]
 | _=>cases h
theorem qA3:∀{n:Nat}{x:D},okN n x=true->eqN n x x=some true
 | 0,x,h=>by
   rw[qR9];refine qR8 ?_;cases x<;>exact h
 | n+1,x,h=>by
   cases x with
   | l z b=>exact qm8 λ y a=>qA3 (zBh.mp h y a)
   | q b=>exact qm8 λ y a=>qA3 (zBh.mp h y a)
   | _=>exact qR8 h
theorem qaj7(h:okN 21 x=true):gNe x x=some (.bl false):=by
 have e:eqT x x=some true:=by
   cases x with
   | l z b=>exact qm8 λ y a=>qA3 (zBh.mp h y a)
   | q b=>exact qm8 λ y a=>qA3 (zBh.mp h y a)
   | _=>exact qR8 h
 unfold gNe;rw[e];rfl
theorem qaY6{src:List (Option Nat)}{g:VTG}{qf:VTT}(h:tr ds (λ xs _ ds1=>orF (Hm xs) λ j=>Fd j=true/\Fn src g qf te (Bp 0 j.toNat) ds1 Q) xe):tCR1 src (Gj tr) g qf te ds Q xe:=h
theorem qaq3(h:(Ot ks)[i]? = some y):∃ z,ks[i]? = some z/\y=.int z:=by
 unfold Ot at h;rw[zB3] at h;cases e:ks[i]? with
 | none=>rw[e] at h;cases h
 | some z=>rw[e] at h;exact⟨z,rfl,(Nm h).symm⟩
theorem qw6(h:ks[i]? = some k):ks.take (i+1)=ks.take i++[k]:=by rw[zBq,h];rfl
theorem qQ9(b:ks.Nodup)(h:ks[i]? = some k):¬ k∈ks.take i:=λ z=>by
 obtain⟨j,a⟩:=List.getElem?_of_mem z;rw[List.getElem?_take] at a;split at a
 . rename_i hlt
   obtain⟨d,c⟩:=zA4.mp h;obtain⟨e,e2⟩:=zA4.mp a
   have:=(Mt b).mp (e2.trans c.symm)
   lia
 cases a
theorem qaO8:∀ ks:List Int,D.fzs (Ot ks)=Ot ks
 | []=>rfl
 | k::r=>congrArg (D.int k::·) (qaO8 r)
theorem qV6:∀ ps:Pr,D.fzs (Ov ps)=Ov ps
 | []=>rfl
 | p::r=>congrArg (D.q [.int p.1,.int p.2]::·) (qV6 r)
theorem qaO9:∀ ps:Pr,D.fzk (kvD ps)=kvD ps
 | []=>rfl
 | p::r=>congrArg ((Sum.inl p.1,D.int p.2)::·) (qaO9 r)
theorem qaj8{z:Bool}{C:γ}{n:Int}{wr:Bool}{ps:Pr}:(Aa z C n wr ps).fz=Aa true C n wr ps:=by
 show D.ins true C [("rooms",.int n),("wraps",.bl wr),("homes",.l true (D.fzs (Ov ps))),("home_numbers",.dct true (D.fzk (kvD ps)))]=_;rw[qV6,qaO9];rfl
theorem fz_ks{z:Bool}(ks:List Int):(D.l z (Ot ks)).fz=.l true (Ot ks):=congrArg (D.l true) (qaO8 ks)
theorem qaY4{z:Bool}{S T:List Int}{lo hi:FO}{l h:Option Int}(a:rdN i ds=some (.l z (Ot S)))(h1:lo ds=some l)(h2:hi ds=some h)(e:Dl (Ot S) l h=Ot T):fsl (rdN i) lo hi ds=some (.l false (Ot T)):=by
 unfold fsl;rw[a,Option.bind_some,h1,Option.bind_some,h2,Option.bind_some,if_pos (show noT (D.l z (Ot S))=true from rfl)];show gd (D.imms (Dl (Ot S) l h)=true) (D.l false (Dl (Ot S) l h))=_;rw[e];exact ql2 (qh9 T)
theorem qaG1{z:Bool}{A B:List Int}(h:A.length+B.length<=1000):Gc (.l z (Ot A)) (.l z' (Ot B))=some (.l false (Ot (A++B))):=by
 show gd _ (D.l false (Ot A++Ot B))=_;rw[show Ot (A++B)=Ot A++Ot B from zBf];exact ql2 ⟨qh9 A,qh9 B,by rw[qf4,qf4];unfold big;lia⟩
theorem qaI8{g:D->D->Option D}{Q:Bool->Ds->Prop}(h:ta ds (λ x ds1=>tb ds1 (λ y a=>orF (g x y) λ d=>orF d.asB λ b=>Q b a) xe) xe):ttE (t2 g ta tb) ds Q xe:=h
theorem Jm{gc:Ds->Option D}(h:tr ds (λ xs _ ds1=>orF (gc xs) λ d=>Q d ds1) xe):tcO gc (Gj tr) ds Q xe:=h
theorem qax9{g:VTG}{qf:VTT}{te:VT}{K:Ds->Ds->Prop}(I:Nat->Ds->Ds->Prop):∀(xs:Ds)(i:Nat)(acc l:Ds),I i acc l->(∀(j:Nat)(x:D),xs[j]? = some x->∀ acc l,I (i+j) acc l->∀ R:Ds->Ds->Prop,(∀ acc' l',I (i+j+1) acc' l'->R acc' l')->g x l λ ι1=>qf ι1 (λ b ι2=>if b=true then te ι2 (λ d ι3=>acc.length < big/\R (acc++[d]) ι3) (λ _ _=>False) else R acc ι2) (λ _ _=>False))->(∀ acc l,I (i+xs.length) acc l->K acc l)->Ef g qf te K xs acc l
 | [],_,acc,l,h,_,hn=>hn acc l h
 | x::xs,i,acc,l,h,hs,hn=>hs 0 x rfl acc l h _ λ acc' l' c=>qax9 I xs (i+1) acc' l' c (λ j y e acc2 ι2 a R f=>hs (j+1) y e acc2 ι2 (by rw[show i+(j+1)=i+1+j by lia];exact a) R λ acc3 ι3 k=>f acc3 ι3 (by rw[show i+1+j+1=i+(j+1)+1 by lia];exact k)) λ acc2 ι2 a=>hn acc2 ι2 (by rw[zAk,show i+(xs.length+1)=i+1+xs.length by lia];exact a)
theorem qS6{l m n:Int}(h1:l<=n)(h2:n<=m):(D.int n).within l m=true:=by
 show (decide (l<=n)&&decide (n<=m))=true;rw[zAl h1,zAl h2];rfl
theorem qk7{p:List Nat}{w:V}{ps:List Pl}(h:A9 ds i p=some (.hole w)):Ap (.pl i p w::ps) (y::ys) ds=Ap ps ys (Bf ds i p y):=by
 show (match A9 ds i p with | some (.hole a)=>if a=w then Ap ps ys (Bf ds i p y) else none | _=>none)=_;rw[h];exact if_pos rfl
theorem qG6{C:γ}{p:D}(a:rdN i ds=some p)(hm:p.isM C m=true)(r:R [p] d)(b:Ap [.sl i] [p] (ds.set i .u)=some ds)(q:Q d ds):qw8 C m (Ay R) [] i Ax ds Q xe :=
 qC0 a hm (qb9 (qa0 a (qm0 r (qa0 b q))))
theorem qag7{C:γ}{p:List Nat}(h1:pf ds=some (i,p))(h2:A9 ds i p=some d)(hm:d.isM C m=true)(h:∀ w,tr (Bf ds i p (.hole w)) (λ xs ps ds1=>s (d::(xs++[])) (λ r ys=>orF (Ap (Pl.pl i p w::ps) ys ds1) λ b=>Q r b) (λ x ys=>orF (Ap (Pl.pl i p w::ps) ys ds1) λ b=>xe x b)) xe):qN9 C m s [] pf tr ds Q xe :=
 qa0 (a:=(i,p)) h1 (qa0 (a:=d) h2 ⟨hm,h⟩)
theorem qaG9(h:tr ds (λ xs _ ds1=>xs.length<=big/\Q (.q xs) ds1) xe):Ix tr ds Q xe:=h
theorem qaH7{g:D->D->Option D}(h:ta ds (λ x ds1=>tb ds1 (λ y a=>orF (g x y) λ d=>Q d a) xe) xe):t2 g ta tb ds Q xe:=h
theorem qaR6(h:rdN i ds=some d)(q:Q d.fz (ds.set i d.fz)):tFz i ds Q xe:=qa0 h q
def Op(n:Int)(wr:Bool)(ps:Pr):D:=.q [.int n,.bl wr,.l true (Ov ps)]
theorem qY4(hi:ds[i]? = some (.l false ys))(b:f ds=some d)(c:d.imm=true)(g:ys.length < big)(q:Q .non (ds.set i (.l false (ys++[d])))):Eb F9 i (tbV (Db f) Ax) ds Q xe:=by
 have e:(rdN i ds).bind D.own=some ys:=by rw[qi6 hi rfl];rfl
 refine⟨by rw[e];rfl,qd8 b c ?_⟩;refine qa0 (k:=λ ys=>orF (F9 ys [d]) λ z=>Q z.2 (ds.set i (.l false z.1))) e ?_;exact qa0 (a:=(ys++[d],D.non)) (if_pos g) q
local macro_rules | `(tactic| walk_at "s")=>`(tactic| exact⟨rfl,rfl,rfl,by decide +kernel,rfl,by decide +kernel,by decide +kernel⟩)
local macro_rules | `(tactic| walk_at "m")=>`(tactic| (intro _ _ _ _ _ k l;repeat' first | exact id | exact k _ _ | exact l _ _ | refine Exists.imp λ _=>?_ | refine And.imp ?_ ?_ | refine Or.imp ?_ ?_ | refine forall_imp λ _=>?_))
local macro_rules | `(tactic| walk_at "l")=>`(tactic| (intro _ _ _ h;(repeat (first | refine Exists.elim h λ _ h=>?_ | refine And.elim (λ h _=>?_) h));rw[h];exact⟨rfl,rfl⟩))
theorem lt2:2<=big:=by show 2<=1000000;decide
theorem lt3:3<=big:=by show 3<=1000000;decide
theorem lt4:4<=big:=by show 4<=1000000;decide
noncomputable def top(i:Nat):Kk:=PySem.Challenge.pw_homeward_k34_whole_any_order.main.body.getD i (.Pass ⟨0,0,0,0⟩)
abbrev qau0:Kk:=top 0
abbrev qx9:Kk:=top 12
abbrev qf8:Kk:=top 13
abbrev qt1:Kk:=top 14
abbrev qp0:Kk:=top 15
abbrev qg8:Kk:=top 16
abbrev qj5:Kk:=top 17
abbrev qt5:Kk:=qh8 (top 18) 0
abbrev qj7:Kk:=qh8 (top 18) 2
abbrev qt6:Kk:=qh8 (top 18) 4
abbrev qy6:Kk:=qh8 (top 18) 5
abbrev qf9:Kk:=qh8 (top 18) 6
abbrev qo9:Kk:=top 20
abbrev qe2:Kk:=top 21
abbrev qx8:Kk:=top 22
abbrev qt0:Kk:=top 23
abbrev qy0:Kk:=top 24
abbrev qt3:Kk:=top 26
abbrev qj6:Kk:=top 27
abbrev qj4:Kk:=top 28
abbrev qy1:Kk:=top 29
abbrev ql5:Kk:=top 31
abbrev qi1:Kk:=top 32
abbrev qt2:Kk:=top 33
abbrev qy5:Kk:=qh8 (top 34) 0
abbrev qg9:Kk:=qh8 (top 34) 1
abbrev qi2:Kk:=qh8 (top 34) 2
abbrev qy4:Kk:=qh8 (top 34) 3
abbrev ql6:Kk:=qh8 (top 34) 4
abbrev qF4:Kk:=qh8 (top 34) 5
abbrev qy3:Kk:=qh8 (top 34) 6
abbrev qy2:Kk:=qh8 (top 34) 7
abbrev qt4:Kk:=qh8 (top 34) 8
abbrev qP6:Kk:=top 36
abbrev qaz9:Kk:=top 37
abbrev qad3:Kk:=top 38
abbrev qad4:Kk:=top 39
abbrev qy7:Kk:=top 40
abbrev qF5:Kk:=top 41
abbrev qj8:Kk:=top 42
abbrev qP9:Kk:=top 43
abbrev qy8:Kk:=top 44
abbrev qP8:Kk:=top 45
abbrev qad5:Kk:=top 46
abbrev qP7:Kk:=top 47
abbrev ql7:Kk:=top 48
abbrev Ga:Kk:=top 49
set_option genInjectivity false in
set_option genSizeOf false in
structure Adr where
 f0:γ
 d0:ε
 f1:γ
 d1:ε
 f2:γ
 d2:ε
 f3:γ
 d3:ε
 f4:γ
 d4:ε
 f5:γ
 d5:ε
 f6:γ
 d6:ε
 f7:γ
 d7:ε
 f8:γ
 d8:ε
 f9:γ
 d9:ε
 f10:γ
 d10:ε
 f11:γ
 d11:ε
 f12:γ
 d12:ε
 f13:γ
 d13:ε
 f14:γ
 d14:ε
 f15:γ
 d15:ε
 f16:γ
 d16:ε
 f17:γ
 d17:ε
 f18:γ
 d18:ε
 f19:γ
 d19:ε
 f20:γ
 d20:ε
 f21:γ
 d21:ε
 f22:γ
 d22:ε
 f23:γ
 d23:ε
 f24:γ
 d24:ε
 f25:γ
 d25:ε
 f26:γ
 d26:ε
 f27:γ
 d27:ε
 f28:γ
 d28:ε
 f29:γ
 d29:ε
 f30:γ
 d30:ε
 f31:γ
 d31:ε
 f32:γ
 d32:ε
 f33:γ
 d33:ε
 f34:γ
 d34:ε
 f35:γ
 d35:ε
 f36:γ
 d36:ε
 f37:γ
 d37:ε
 f38:γ
 d38:ε
 f39:γ
 d39:ε
 f40:γ
 d40:ε
 f41:γ
 d41:ε
 f42:γ
 d42:ε
 f43:γ
 d43:ε
 f44:γ
 d44:ε
 f45:γ
 d45:ε
 f46:γ
 d46:ε
 Ce:Tok
 Ch:Tok
 Cg:Tok
 C3:γ
 C4:γ
structure Txt(K:No)(mg:Str->Option V')(a:Adr):Prop where
 d0:Df K mg "_wall" "_wall" qau0 a.f0 a.d0 ["k"]
 d1:Df K mg "is_whole" "is_whole" qx9 a.f1 a.d1 ["thing"]
 d2:Df K mg "is_whole_within" "is_whole_within" qf8 a.f2 a.d2 ["thing", "least", "most"]
 d3:Df K mg "is_number" "is_number" qt1 a.f3 a.d3 ["thing"]
 d4:Df K mg "are_parted" "are_parted" qp0 a.f4 a.d4 ["numbers"]
 d5:Df K mg "is_number_pair" "is_number_pair" qg8 a.f5 a.d5 ["thing"]
 d6:Df K mg "is_home_list" "is_home_list" qj5 a.f6 a.d6 ["thing"]
 d7:Md K a.C3 "__init__" "Plan.__init__" qt5 a.f7 a.d7 ["self", "rooms", "wraps", "homes"]
 d8:Md K a.C3 "is_room" "Plan.is_room" qj7 a.f8 a.d8 ["self", "thing"]
 d9:Md K a.C3 "home" "Plan.home" qt6 a.f9 a.d9 ["self", "key"]
 d10:Md K a.C3 "far" "Plan.far" qy6 a.f10 a.d10 ["self", "key", "room"]
 d11:Md K a.C3 "goes_ahead" "Plan.goes_ahead" qf9 a.f11 a.d11 ["self", "room", "one", "other"]
 d12:Df K mg "room_ahead" "room_ahead" qo9 a.f12 a.d12 ["plan", "room"]
 d13:Df K mg "word_by_room_ahead" "word_by_room_ahead" qe2 a.f13 a.d13 ["plan", "rooms", "room"]
 d14:Df K mg "word_due" "word_due" qx8 a.f14 a.d14 ["plan", "rooms", "room"]
 d15:Df K mg "is_turned" "is_turned" qt0 a.f15 a.d15 ["plan", "rooms"]
 d16:Df K mg "fault_of" "fault_of" qy0 a.f16 a.d16 ["plan", "rooms"]
 d17:Df K mg "are_crowd" "are_crowd" qt3 a.f17 a.d17 ["plan", "keys", "room"]
 d18:Df K mg "crowded_room" "crowded_room" qj6 a.f18 a.d18 ["plan", "keys"]
 d19:Df K mg "refuse_crowd" "refuse_crowd" qj4 a.f19 a.d19 ["plan", "keys"]
 d20:Df K mg "bring_in" "bring_in" qy1 a.f20 a.d20 ["plan", "rooms", "key"]
 d21:Df K mg "room_behind" "room_behind" ql5 a.f21 a.d21 ["plan", "room"]
 d22:Df K mg "is_drawn_from" "is_drawn_from" qi1 a.f22 a.d22 ["plan", "rooms", "room"]
 d23:Df K mg "draw_back" "draw_back" qt2 a.f23 a.d23 ["plan", "rooms", "room"]
 d24:MdN K a.C4 "__init__" "Row.__init__" qy5 a.f24 a.d24 ["self", "plan", "rooms"]
 d25:Md K a.C4 "rooms_held" "Row.rooms_held" qg9 a.f25 a.d25 ["self"]
 d26:Md K a.C4 "keys_held" "Row.keys_held" qi2 a.f26 a.d26 ["self"]
 d27:Md K a.C4 "many" "Row.many" qy4 a.f27 a.d27 ["self"]
 d28:Md K a.C4 "room_of" "Row.room_of" ql6 a.f28 a.d28 ["self", "key"]
 d29:Md K a.C4 "put" "Row.put" qF4 a.f29 a.d29 ["self", "key"]
 d30:Md K a.C4 "take" "Row.take" qy3 a.f30 a.d30 ["self", "key"]
 d31:Md K a.C4 "undo" "Row.undo" qy2 a.f31 a.d31 ["self"]
 d32:Md K a.C4 "deeds" "Row.deeds" qt4 a.f32 a.d32 ["self"]
 d33:Df K mg "_law_whole" "_law_whole" qP6 a.f33 a.d33 ["_law_found"]
 d34:Df K mg "_law_bag" "_law_bag" qaz9 a.f34 a.d34 ["_law_script"]
 d35:Df K mg "_law_take" "_law_take" qad3 a.f35 a.d35 ["_law_bag_here", "_law_many"]
 d36:Df K mg "_law_home" "_law_home" qad4 a.f36 a.d36 ["_law_plan", "_law_key"]
 d37:Df K mg "_law_passing" "_law_passing" qy7 a.f37 a.d37 ["_law_plan", "_law_keys"]
 d38:Df K mg "_law_housed" "_law_housed" qF5 a.f38 a.d38 ["_law_plan", "_law_keys"]
 d39:Df K mg "_law_drawn_homes" "_law_drawn_homes" qj8 a.f39 a.d39 ["_law_bag_here", "_law_size", "_law_many"]
 d40:Df K mg "_law_drawn" "_law_drawn" qP9 a.f40 a.d40 ["_law_bag_here", "_law_most"]
 d41:Df K mg "_law_fitting" "_law_fitting" qy8 a.f41 a.d41 ["_law_plan", "_law_keys"]
 d42:Df K mg "_law_steps" "_law_steps" qP8 a.f42 a.d42 ["_law_bag_here", "_law_plan", "_law_keys", "_law_goal"]
 d43:Df K mg "_law_done" "_law_done" qad5 a.f43 a.d43 ["_law_row", "_law_steps_here", "_law_plan", "_law_asked"]
 d44:Df K mg "_law_tells" "_law_tells" qP7 a.f44 a.d44 ["_law_row", "_law_rooms", "_law_keys"]
 d45:Df K mg "_law_all_undone" "_law_all_undone" ql7 a.f45 a.d45 ["_law_row", "_law_many"]
 d46:Df K mg "law" "law" Ga a.f46 a.d46 ["_law_script"]
 Ck:mg "MOST_NUMBER" = some (.int 1000000000000000000 a.Ce)
 Cp:mg "MOST_ROOMS" = some (.int 64 a.Ch)
 Cr:mg "MOST_HOMES" = some (.int 64 a.Cg)
 D5:mg "abs" = none
 D3:mg "all" = none
 Cq:mg "bool" = none
 Cy:mg "dict" = none
 Cs:mg "enumerate" = none
 Ct:mg "int" = none
 C8:mg "isinstance" = none
 Ca:mg "len" = none
 Cj:mg "list" = none
 D2:mg "max" = none
 Cv:mg "min" = none
 Ci:mg "range" = none
 D4:mg "set" = none
 Cw:mg "sorted" = none
 Cz:mg "tuple" = none
 C6:Cl K mg "Plan" a.C3
 D1:Mk K a.C3 a.f7
 C7:qg1 K a.C3 "rooms"
 Cb:qg1 K a.C3 "wraps"
 Co:qg1 K a.C3 "homes"
 Cf:qg1 K a.C3 "home_numbers"
 D0:IsO K a.C3
 C5:Cl K mg "Row" a.C4
 Cu:Mk K a.C4 a.f24
 Cd:qg1 K a.C4 "plan"
 C9:qg1 K a.C4 "held"
 Cc:qg1 K a.C4 "done"
section
variable{P:Ke}{w:Ki}{K:No}{mg:Str->Option V'}{base:Heap}{a:Adr}
theorem qC7:qa9 ["thing"] ["thing"] (qa3 qx9):=by walk_at "s"
def qY6:VSp:=Bw (fx1 λ x=>x.kind.map λ _=>.bl x.whole)
theorem qZ9(T:Txt K mg a):VFn P w K mg base 1 a.f1 a.d1 ["thing"] qY6:=by
 refine VFn.mk' T.d1.F qC7 (wOf [true]) qw4 (λ _ _ _=>qah6) (λ _ _ _=>imm1) (λ _ _ _ _ _ _ _ c=>⟨_,(Ag (Aq (qa4 (vand (vbi qh5 qH5.ops T.C8 (qa2 (vnm 0) (qa2 (vty "int" T.Ct) qa6 rfl) rfl)) (Iw (vnot (vbi qh5 qH5.ops T.C8 (qa2 (vnm 0) (qa2 (vty "bool" T.Cq) qa6 rfl) rfl)))))))),λ f Q g h=>?_⟩);obtain⟨x,d,rfl,e,q⟩:=Jg h;obtain⟨t,b,rfl⟩:=zA9.mp e;cases x<;>first | exact q | cases b
theorem qi5:qa9 ["thing", "least", "most"] ["thing", "least", "most"] (qa3 qf8):=by walk_at "s"
def qs3:VSp:=Bw (fx3 λ x l m=>x.kind.bind λ _=>l.asI.bind λ i=>m.asI.map λ j=>.bl (x.within i j))
theorem qf1(T:Txt K mg a):VFn P w K mg base 2 a.f2 a.d2 ["thing", "least", "most"] qs3:=by
 refine VFn.mk' T.d2.F qi5 (wOf [true,true,true]) qw4 (λ _ _ _=>qaN0) (λ _ _ _=>imm3) (λ _ _ _ _ _ _ _ b=>⟨_,(Ag (Aq (Ev (Ah T.d1 (qZ9 T) qa1 (rm b) (vaN 0 Ad)) (F7 (qa4 (vch Gq os_le Gq os_le (vnm 1) (vnm 0) (vnm 2))))))),λ o Q p h=>?_⟩);obtain⟨x,l,m,d,rfl,e,q⟩:=pure3 h;obtain⟨t,c,e⟩:=zA1.mp e;obtain⟨i,f,e⟩:=zA1.mp e;obtain⟨j,g,rfl⟩:=zA9.mp e;cases l<;>cases f
 cases m<;>cases g
 cases x with
 | int n =>
   refine⟨rfl,?_⟩;show orF (f3 gLe gLe (rdN 1) (rdN 0) (rdN 2) [.int n,.int i,.int j]) _;have k:f3 gLe gLe (rdN 1) (rdN 0) (rdN 2) [.int n,.int i,.int j]=some (.bl (decide (i<=n)&&decide (n<=j))):=by
     show (if decide (i<=n)=true then some (D.bl (decide (n<=j))) else some (.bl false))=_;cases decide (i<=n)<;>rfl
   rw[k];exact q
 | _=>first | exact⟨rfl,q⟩ | cases c
theorem qJ4:qa9 ["numbers"] ["numbers"] (qa3 qp0):=by walk_at "s"
def qI9:VSp:=Ay λ ds d=>∃ z ks,ds=[.l z (Ot ks)]/\ks.length<=1000/\d=.bl (decide ks.Nodup)
theorem qK3(T:Txt K mg a):VFn P w K mg base 1 a.f4 a.d4 ["numbers"] qI9:=by
 refine VFn.mk2 T.d4.F qJ4 (wOf [true]) qb2 (by walk_at "l") (λ _ _ _ _ _ _ _ e=>⟨_,(Ag (Aq (qa4 (v2 (A4 (qn6 e.u64) (qb0 _)) Bm (vlenS T.Ca T.D4 (vnm 0)) (vbi ql4 ql3.ops T.Ca (qa2 (vnm 0) qa6 rfl)))))),λ j Q k h=>?_⟩);obtain⟨d,⟨z,b,rfl,f,rfl⟩,q⟩:=h;have g:f1 G6 (rdN 0) [.l z (Ot b)]=some (.int (qm6 b)):=by
   show ((intsD (Ot b)).bind λ c=>gd (c.length<=1000) (.int (qm6 c)))=_;rw[qai6];exact ql2 f
 have e2:f2 gEq (f1 G6 (rdN 0)) (Ba (fx1 Fa) (A6 (rdN 0) λ x=>some [])) [.l z (Ot b)]=some (.bl (decide b.Nodup)):=by
   show ((f1 G6 (rdN 0) [.l z (Ot b)]).bind λ x=>gEq x (.int (Ot b).length))=_;rw[g,qf4];show some (D.bl ((qm6 b:Int) == (b.length:Int)))=_
   have:=qS0 b
   by_cases h:b.Nodup
   . rw[zAl h,this.mpr h,zBd]
   have i:¬ ((qm6 b:Int)=(b.length:Int)):=λ z=>h (this.mp (by exact_mod_cast z))
   rw[zBe h,beq_false_of_ne i]
 exact qa0 e2 q
theorem qx5:qa9 ["thing"] ["thing"] (qa3 qt1):=by walk_at "s"
def qo7:VSp:=Bw (fx1 λ x=>x.kind.map λ _=>.bl x.num)
theorem qc6(T:Txt K mg a):VFn P w K mg base 3 a.f3 a.d3 ["thing"] qo7:=by
 refine VFn.mk' T.d3.F qx5 (wOf [true]) qw4 (λ _ _ _=>qah6) (λ _ _ _=>imm1) (λ _ _ _ _ _ _ _ b=>⟨_,(Ag (Aq (Ah T.d2 (qf1 T) qa1 (rm b) (vaN 0 (vaV (qa4 Af) (vaV (qa4 (vgi T.Ck)) Ad)))))),λ f Q g h=>?_⟩);obtain⟨x,d,rfl,e,q⟩:=Jg h;obtain⟨t,c,rfl⟩:=zA9.mp e;cases x<;>first | exact⟨rfl,q⟩ | cases c
theorem qv2:qa9 ["thing"] ["thing"] (qa3 qg8):=by walk_at "s"
def _root_.LV.D.pairB:D->Bool
 | .q [x,y]=>x.num&&y.num
 | _=>false
def _root_.LV.D.kinded:D->Bool
 | .q ds=>(ds.all λ d=>d.kind.isSome&&d.imm)&&decide (ds.length<=1000)
 | _=>true
def qv0:VSp:=Bw (fx1 λ x=>if x.kinded=true then x.kind.map λ _=>.bl x.pairB else none)
theorem qv8(T:Txt K mg a):VFn P w K mg base 4 a.f5 a.d5 ["thing"] qv0:=by
 refine VFn.mk' T.d5.F qv2 (wOf [true]) qw4 (λ _ _ _=>qah6) (λ _ _ _=>imm1) (λ _ _ _ _ _ _ _ f=>⟨_,(Ag (Aq (Ev (qa4 (vbi qh5 qH5.ops T.C8 (qa2 (vnm 0) (qa2 (vty "tuple" T.Cz) qa6 rfl) rfl))) (Ev (qa4 (v2 (A4 (qn6 f.u64) (qb0 _)) Bm (vbi ql4 ql3.ops T.Ca (qa2 (vnm 0) qa6 rfl)) Af)) (Ev (Ah T.d3 (qc6 T) qa1 (rm f) (vaV (qb5 (v2 (Aw qb4) An (vnm 0) Af)) Ad)) (F7 (Ah T.d3 (qc6 T) qa1 (rm f) (vaV (qb5 (v2 (Aw qb4) An (vnm 0) Af)) Ad)))))))),λ b Q m h=>?_⟩);obtain⟨x,d,rfl,e,q⟩:=Jg h;cases x with
 | q b =>
   by_cases c:(D.q b).kinded=true
   . rw[if_pos c] at e
     cases e;have c:=zAh.mp c;have i:=zBh.mp c.1
     match b with
     | []=>exact q
     | [_]=>exact q
     | [x,y] =>
       have j:=zAh.mp (i x (by simp));have l:=zAh.mp (i y (by simp));obtain⟨t,n⟩:=zB0.mp j.1;obtain⟨u,o⟩:=zB0.mp l.1;refine⟨j.2,?_⟩;refine qa0 (a:=D.bl x.num) (by show (x.kind.map _)=_;rw[n];rfl) ?_;refine ite_b (λ g=>⟨l.2,qa0 (a:=D.bl y.num) (by show (y.kind.map _)=_;rw[o];rfl) ?_⟩) λ g=>?_
       . have:(D.q [x,y]).pairB=y.num:=by show (x.num&&y.num)=_;rw[g];rfl
         rw[this] at q;exact q
       have:(D.q [x,y]).pairB=false:=by show (x.num&&y.num)=_;rw[g];rfl
       rw[this] at q;exact q
     | x::y::z::r =>
       have e2:f2 gEq (Ba (fx1 Fa) (A6 (rdN 0) λ x=>some [])) (kC (D.int 2)) [.q (x::y::z::r)]=some (.bl false):=by
         show some (D.bl (((x::y::z::r).length:Int) == 2))=_
         have:(((x::y::z::r).length:Int) == 2)=false:=by
           have:((x::y::z::r).length:Int)≠2:=by simp;lia
           simpa using this
         rw[this]
       have:orF (f2 gEq (Ba (fx1 Fa) (A6 (rdN 0) λ x=>some [])) (kC (D.int 2)) [.q (x::y::z::r)]) (λ d=>orF d.asB λ k=>if k=true then G1 (qj3 qo7 [] (tbV (Db (f2 gIx (rdN 0) (kC (D.int 0)))) Ax)) (qj3 qo7 [] (tbV (Db (f2 gIx (rdN 0) (kC (D.int 1)))) Ax)) [.q (x::y::z::r)] (λ d b=>Q d (fin (wOf [true]) 0 [.q (x::y::z::r)] b)) (λ p b=>m p (fin (wOf [true]) 0 [.q (x::y::z::r)] b)) else Q (.bl false) [.q (x::y::z::r)]):=by
         rw[e2];exact q
       exact this
   rw[if_neg c] at e;cases e
 | _=>first | (cases e;exact q) | cases e
theorem qB3:qa9 ["thing"] ["thing"] (qa3 qj5):=by walk_at "s"
noncomputable def Go:D->Option Int
 | .q (.int k::_)=>some k
 | _=>none
def _root_.LV.D.homesB:D->Bool
 | .l _ ys=>decide (ys.length<=64)&&(ys.all D.pairB&&decide (ys.filterMap Go).Nodup)
 | _=>false
def _root_.LV.D.lstOk(p:D->Bool):D->Bool
 | .l _ ys=>D.imms ys&&ys.all p&&decide (ys.length<=1000)
 | x=>x.kind.isSome
def Jn(y:D):Bool:=y.kind.isSome&&y.kinded
theorem qaL6(h:x.num=true):∃ n,x=.int n/\Aj n:=by
 cases x with
 | int n =>
   have:=zAh.mp h
   exact⟨n,rfl,zAe this.1,zAe this.2⟩
 | _=>cases h
theorem qt8{n:Int}(h:Aj n):(D.int n).num=true:=by
 show (decide (0<=n)&&decide (n<=1000000000000000000))=true;rw[zAl h.1,zAl h.2];rfl
theorem qaK6(h:y.pairB=true):∃ k m,y=.q [.int k,.int m]/\Aj k/\Aj m:=by
 cases y with
 | q a =>
   match a,h with
   | [x,y],h =>
     have h:=zAh.mp h;obtain⟨k,rfl,b⟩:=qaL6 h.1;obtain⟨m,rfl,c⟩:=qaL6 h.2;exact⟨k,m,rfl,b,c⟩
 | _=>cases h
theorem qae2:∀{ys:Ds},ys.all D.pairB=true->∃ ps:Pr,ys=Ov ps/\∀ p∈ps,Aj p.1/\Aj p.2
 | [],_=>⟨[],rfl,λ p h=>by simp at h⟩
 | y::r,h=>by
   rw[K9,zBi] at h;obtain⟨k,m,rfl,b,c⟩:=qaK6 h.1;obtain⟨ps,rfl,d⟩:=qae2 h.2;refine⟨(k,m)::ps,rfl,λ p a=>?_⟩;rcases zAo.mp a with rfl | a
   . exact⟨b,c⟩
   exact d p a
theorem qai3:∀ ps:Pr,(Ov ps).filterMap Go=ps.map (·.1)
 | []=>rfl
 | p::r=>by show p.1::(Ov r).filterMap Go=_;rw[qai3 r];rfl
theorem qaQ6:∀{ps:Pr},(∀ p∈ps,Aj p.1/\Aj p.2)->(Ov ps).all D.pairB=true
 | [],_=>rfl
 | p::r,h=>by
   show (((D.int p.1).num&&(D.int p.2).num)&&(Ov r).all D.pairB)=true;rw[qt8 (h p zAf).1,qt8 (h p zAf).2,qaQ6 λ q a=>h q (zA7 _ a)];rfl
theorem qaQ7:∀ ps:Pr,(Ov ps).all Jn=true
 | []=>rfl
 | p::r=>by show (true&&(Ov r).all Jn)=true;rw[qaQ7 r];rfl
theorem qL2{z:Bool}{ps:Pr}(h:Ij ps):(D.l z (Ov ps)).homesB=true/\(D.l z (Ov ps)).lstOk Jn=true:=by
 have a:(Ov ps).length<=64:=by simpa[Ov] using h.len
 constructor
 . show (decide ((Ov ps).length<=64)&&((Ov ps).all D.pairB&&decide ((Ov ps).filterMap Go).Nodup))=true
   rw[zAl a,qaQ6 h.nums,qai3,zAl h.nd];rfl
 show (D.imms (Ov ps)&&(Ov ps).all Jn&&decide ((Ov ps).length<=1000))=true;rw[qL1,qaQ7,zAl (by lia)];rfl
theorem qX8{α:Type}(f:α->Bool):∀ l:List α,bools (l.map λ a=>.bl (f a))=some (l.map f)
 | []=>rfl
 | a::r=>by show (bools (r.map λ a=>D.bl (f a))).map (λ b=>f a::b)=_;rw[qX8 f r];rfl
theorem qaQ8(f:α->Bool)(l:List α):gAll (.l false (l.map λ a=>.bl (f a)))=some (.bl (l.all f)):=by
 show (bools (l.map λ a=>D.bl (f a))).map (λ b=>D.bl (b.all id))=_;rw[qX8];show some (D.bl ((l.map f).all id))=_;rw[M9];rfl
def qA9:VSp:=Ay λ ds d=>∃ x,ds=[x]/\x.lstOk Jn=true/\d=.bl x.homesB
theorem qB7(T:Txt K mg a):VFn P w K mg base 5 a.f6 a.d6 ["thing"] qA9:=by
 refine VFn.mk2 T.d6.F qB3 (wOf [true]) qb2 (by walk_at "l") (λ _ _ _ _ _ _ _ A=>⟨_,(Ac (sif (tor (Br (tv (vbi qh5 qH5.ops T.C8 (qa2 (vnm 0) (qa2 (vty "list" T.Cj) qa6 rfl) rfl)))) (Hi (q2 (Am Da (qb0 _)) Dc (vbi ql4 ql3.ops T.Ca (qa2 (vnm 0) qa6 rfl)) (vgi T.Cr)))).te (Ag (Aq (qa4 vbl))) Av) (Ag (Aq (Ev (ebi (qX7 rfl) qaP9.ops T.D3 (Du (vaV (ecN (NY:=["pair"]) (src:=[none]) 0 (blk (λ f C g H0 i=>(Be 0 (show (["pair"]:List Str).Nodup by decide +kernel))) (λ f C g H0 i=>Fk) (λ f C g H0 i=>(Ah T.d5 (qv8 T) qt9 (rm A) (vaN 0 Ad))))) Ad))) (F7 (Ah T.d4 (qK3 T) qa1 (rm A) (vaV (ecN (NY:=["pair"]) (src:=[none]) 0 (blk (λ f C g H0 i=>(Be 0 (show (["pair"]:List Str).Nodup by decide +kernel))) (λ f C g H0 i=>Fk) (λ f C g H0 i=>(qb5 (v2 (Aw qb4) An (vnm 0) Af))))) Ad))))))),λ J Q L h=>?_⟩);obtain⟨d,⟨x,rfl,j,rfl⟩,q⟩:=h;cases x with
 | l z b =>
   have j:=zAh.mp j;have k:=zAh.mp j.1;have B:=zAe j.2;refine ite_b (p:=decide ((64:Int) < (b.length:Nat))) (λ h=>?_) (λ h=>?_)
   . have o:¬ b.length<=64:=by have:=zAe h;lia
     have:(D.l z b).homesB=false:=by
       show (decide (b.length<=64)&&_)=false;rw[zBe o];rfl
     rw[this] at q;exact q
   have o:b.length<=64:=by have:=zB9 h;lia
   have E:(D.l z b).homesB=(b.all D.pairB&&decide (b.filterMap Go).Nodup):=by
     show (decide (b.length<=64)&&_)=_;rw[zAl o];rfl
   have m:=zBh.mp k.2;refine⟨k.1,?_⟩;refine ql0 (λ ι=>∃ d,ι=[d]) (λ y=>some (.bl y.pairB)) b [] _ (by show 0+b.length < big;unfold big;lia) ⟨_,rfl⟩ ?_ ?_
   . rintro y s ι u ⟨d,rfl⟩ R v c
     have G:=zAh.mp (m y s);obtain⟨t,H⟩:=zB0.mp G.1;refine Jh (x:=y) (rd0 (qm3 H)) (qa0 (a:=D.bl y.pairB) ?_ ?_)
     . show (if y.kinded=true then y.kind.map _ else none)=_
       rw[if_pos G.2,H];rfl
     exact⟨c,v _ ⟨_,rfl⟩⟩
   rintro ι ⟨d,rfl⟩;rw[zB5,qak0];refine qa0 (qaQ8 D.pairB b) (ite_b (λ r=>?_) λ r=>?_)
   . obtain⟨n,rfl,M⟩:=qae2 r
     refine⟨qL1 n,ql0 (λ ι=>∃ d,ι=[d]) (λ y=>(Go y).map .int) (Ov n) [] _ (by show 0+(Ov n).length < big;unfold big;lia) ⟨_,rfl⟩ ?_ ?_⟩
     . rintro y s ι u ⟨d,rfl⟩ R v c
       obtain⟨p,I,rfl⟩:=zBc.mp s;exact⟨rfl,c,v _ ⟨_,rfl⟩⟩
     rintro ι ⟨d,rfl⟩;have e:[]++(Ov n).filterMap (λ y=>(Go y).map D.int)=Ot (n.map (·.1)):=by
       rw[zB5];unfold Ov Ot;rw[Mp,K7];exact qak0 _ _
     rw[e];rw[E,r,qai3] at q;exact⟨_,⟨false,_,rfl,by simp;simp[Ov] at o;lia,rfl⟩,q⟩
   rw[E,r] at q;exact q
 | _=>first | exact q | cases j
theorem qP4:qa9 ["self", "rooms", "wraps", "homes"] ["self", "rooms", "wraps", "homes"] (qa3 qt5):=by walk_at "s"
def qO6(C:γ):VSp:=λ ds Q _=>∃ n wr z ps,ds=[.ins false C [],.int n,.bl wr,.l z (Ov ps)]/\1<=n/\n<=64/\Ij ps/\Q .non [Aa false C n wr ps,.int n,.bl wr,.l z (Ov ps)]
theorem qaw5{z:Bool}{ps:Pr}:Iu (.l z (Ov ps))=some (.l false (Ov ps)):=ql2 (qL1 ps)
theorem qQ7(T:Txt K mg a):VFn P w K mg base 6 a.f7 a.d7 ["self", "rooms", "wraps", "homes"] (qO6 a.C3):=by
 refine VFn.mk2 T.d7.F qP4 (wOf [true,true,true,true]) (by walk_at "m") (by walk_at "l") (λ _ _ _ _ _ _ _ f=>⟨_,(Ac (sif (Br (te (Ah T.d2 (qf1 T) qa1 (rm f) (vaN 1 (vaV (qa4 Af) (vaV (qa4 (vgi T.Cp)) Ad)))))) (Ag qn2) Av) (Ac (sif (Br (tv (vbi qh5 qH5.ops T.C8 (qa2 (vnm 2) (qa2 (vty "bool" T.Cq) qa6 rfl) rfl)))) (Ag qn2) Av) (Ac (sif (Br (te (Ah T.d6 (qB7 T) qa1 (rm f) (vaN 3 Ad)))) (Ag qn2) Av) (Ac (Gh rfl (vpn 0) (qb5 (vnm 1)) T.C6.cl T.C7) (Ac (Gh rfl (vpn 0) (qb5 (vnm 2)) T.C6.cl T.Cb) (Ac (Gh rfl (vpn 0) (qa4 (Fv qh4 qM3.ops T.Cj (qa2 (vnm 3) qa6 rfl))) T.C6.cl T.Co) (Ag (Gh rfl (vpn 0) (qa4 (Fv (qM7 rfl) qax5.ops T.Cy (qa2 (vnm 3) qa6 rfl))) T.C6.cl T.Cf)))))))),λ k Q g h=>?_⟩);obtain⟨n,wr,z,c,rfl,i,j,e,q⟩:=h;refine qb1 [.ins false a.C3 [],.int n,.bl wr,.l z (Ov c)] (λ K b=>?_) (qb1 [.ins false a.C3 [],.int n,.bl wr,.l z (Ov c)] (λ K b=>b) (qb1 [.ins false a.C3 [],.int n,.bl wr,.l z (Ov c)] (λ K b=>?_) ?_))
 . refine qaj3 (λ Q g q=>qh3 (qc2 (x:=.int n) rfl (qe8 (y:=.int 1) rfl (qe8 (y:=.int 64) rfl (qb9 (qa0 (a:=D.int n) rfl (qF8 (d:=D.bl true) ?_ q))))))) b
   show some (D.bl ((D.int n).within 1 64))=_;rw[qS6 i j]
 . refine Jh rfl ⟨D.bl true,⟨_,rfl,(qL2 e).2,by rw[(qL2 e).1]⟩,b⟩
 refine qb1 [.ins false a.C3 [("rooms",.int n)],.int n,.bl wr,.l z (Ov c)] (λ K b=>⟨rfl,qa0 (a:=(0,[])) rfl (qa0 qk2 ⟨by decide,b⟩)⟩) ?_;refine qb1 [.ins false a.C3 [("rooms",.int n),("wraps",.bl wr)],.int n,.bl wr,.l z (Ov c)] (λ K b=>⟨rfl,qa0 (a:=(0,[])) rfl (qa0 qk2 ⟨by show 1 < 100;decide,b⟩)⟩) ?_;refine qb1 [.ins false a.C3 [("rooms",.int n),("wraps",.bl wr),("homes",.l false (Ov c))],.int n,.bl wr,.l z (Ov c)] (λ K b=>?_) ?_
 . refine qa0 (qaw5 (z:=z)) ?_
   exact qa0 (a:=(0,[])) rfl (qa0 qk2 ⟨by show 2 < 100;decide,b⟩)
 refine qa0 (qax3 (z:=z) e.nd) ?_;exact qa0 (a:=(0,[])) rfl (qa0 qk2 ⟨by show 3 < 100;decide,q⟩)
theorem qB4:qa9 ["self", "thing"] ["self", "thing"] (qa3 qj7):=by walk_at "s"
def qB1(C:γ):VSp:=Ay λ ds d=>∃ z n wr ps x t,ds=[Aa z C n wr ps,x]/\x.kind=some t/\d=.bl (x.within 0 (n - 1))
theorem qo3(T:Txt K mg a):VFn P w K mg base 3 a.f8 a.d8 ["self", "thing"] (qB1 a.C3):=by
 refine VFn.mk2 T.d8.F qB4 (wOf [true,true]) qb2 (by walk_at "l") (λ _ _ _ _ _ _ _ f=>⟨_,(Ag (Aq (Ah T.d2 (qf1 T) qa1 (rm f) (vaN 1 (vaV (qa4 Af) (vaV (qa4 (v2 (Ak qv7) qv4 (Bj rfl (vnm 0) T.C6.cl T.C7) Af)) Ad)))))),λ i Q j h=>?_⟩);obtain⟨d,⟨z,n,wr,b,x,t,rfl,c,rfl⟩,q⟩:=h;have e:rdN 1 [Aa z a.C3 n wr b,x]=some x:=ql8.mpr ⟨rfl,qm3 c⟩;have g:f2 gSub (f1 (D.fld a.C3 "rooms") (rdN 0)) (kC (.int 1)) [Aa z a.C3 n wr b,x]=some (.int (n - 1)):=Ae (A5 rfl qe1) rfl rfl;show qj3 _ _ (tbN 1 _) [Aa z a.C3 n wr b,x] _ _;refine qc2 e ?_;refine qe8 (y:=.int 0) rfl ?_;refine qe8 g ?_;refine qa0 e ?_;refine qF8 (d:=.bl (x.within 0 (n - 1))) ?_ (qa0 rfl q);show x.kind.bind _=_;rw[c];rfl
theorem qP5:qa9 ["self", "key"] ["self", "key"] (qa3 qt6):=by walk_at "s"
def qO7(C:γ):VSp:=Ay λ ds d=>∃ z n wr ps k,ds=[Aa z C n wr ps,.int k]/\1<=n/\Aj k/\d=.int (qc7 n ps k)
theorem qaj5{z:Bool}{ps:Pr}(h:fa ds=some (.dct z (kvD ps)))(a:rdN i ds=some (.int k)):fget fa (rdN i) (rdN i) ds=some (.int ((ps.lookup k).getD k)):=by
 unfold fget;rw[h,a];show gd (((Dm (kvD ps) (.inl k)).getD (.int k)).imm=true) ((Dm (kvD ps) (.inl k)).getD (.int k))=_;rw[qat6];cases ps.lookup k<;>rfl
theorem qaM2{x n:Int}(h:1<=n):Hg (.int x) (.int n)=some (.int (x % n)):=ql2 (zAl (by lia))
theorem qp5(T:Txt K mg a):VFn P w K mg base 4 a.f9 a.d9 ["self", "key"] (qO7 a.C3):=by
 refine VFn.mk2 T.d9.F qP5 (wOf [true,true]) qb2 (by walk_at "l") (λ _ _ _ _ _ _ _ b=>⟨_,(Ac (sif (Br (te (Ah T.d3 (qc6 T) qa1 (rm b) (vaN 1 Ad)))) (Ag qn2) Av) (Ag (Aq (qa4 (v2 (Ak qp3) qp2 (vget (hu_of b) (Bj rfl (vnm 0) T.C6.cl T.Cf) (vnm 1) (vnm 1) ⟨rfl,rfl,rfl,rfl⟩) (Bj rfl (vnm 0) T.C6.cl T.C7)))))),λ g Q i h=>?_⟩);obtain⟨d,⟨z,n,wr,c,k,rfl,e,f,rfl⟩,q⟩:=h;have key:orF (f2 Hg (fget (f1 (D.fld a.C3 "home_numbers") (rdN 0)) (rdN 1) (rdN 1)) (f1 (D.fld a.C3 "rooms") (rdN 0)) [Aa z a.C3 n wr c,.int k]) (λ d=>Q d [Aa z a.C3 n wr c,.int k]):=qa0 (Ae (qaj5 (A5 rfl qaa8) rfl) (A5 rfl qe1) (qaM2 e)) q;exact Jh rfl (qF8 (d:=D.bl true) (by show some (D.bl (D.int k).num)=_;rw[qt8 f]) (qa0 rfl (qa0 (a:=true) rfl key)))
theorem qD0:qa9 ["self", "key", "room", "steps"] ["self", "key", "room"] (qa3 qy6):=by walk_at "s"
def qZ2(C:γ):VSp:=Ay λ ds d=>∃ z n wr ps k r,ds=[Aa z C n wr ps,.int k,.int r]/\1<=n/\Aj k/\0<=r/\r < n/\d=Gn (A7 n wr ps k r)
theorem qap6(a:Aj k):fx1 (λ x=>x.kind.map λ _=>.bl x.num) [.int k]=some (.bl true):=by
 show some (D.bl (D.int k).num)=_;rw[qt8 a]
theorem qau4{C:γ}{z:Bool}{n:Int}{wr:Bool}{ps:Pr}{r:Int}(d:0<=r)(h1:r < n):∃ z' c a b x t,[Aa z C n wr ps,.int r]=[Aa z' C c a b,x]/\x.kind=some t/\D.bl true=.bl (x.within 0 (c - 1)) :=
 ⟨z,n,wr,ps,_,_,rfl,rfl,by rw[qS6 d (by lia)]⟩
theorem qj0(T:Txt K mg a):VFn P w K mg base 5 a.f10 a.d10 ["self", "key", "room"] (qZ2 a.C3):=by
 refine VFn.mk2 T.d10.F qD0 (wOf [true,true,true]) qb2 (by walk_at "l") (λ _ _ _ _ _ _ _ e=>⟨_,(Ac (sif (Br (te (Ah T.d3 (qc6 T) qa1 (rm e) (vaN 1 Ad)))) (Ag qn2) Av) (Ac (sif (Br (te (qm5 0 T.d8 T.C6.cl (qo3 T) qa1 (rm e) (vaN 2 Ad)))) (Ag qn2) Av) (Ac (Al 3 qD0.nd (e2n 2 (Ak qv7) qv4 (qm5 0 T.d9 T.C6.cl (qp5 T) qa1 (rm e) (vaN 1 Ad)))) (Ac (sif (tv (Bj rfl (vnm 0) T.C6.cl T.Cb)) (Ag (Aq (qa4 (v2 (Ak qp3) qp2 (vnm 3) (Bj rfl (vnm 0) T.C6.cl T.C7))))) Av) (Ag (Aq (eif (q2 (Am Gr (qb0 _)) Iq (vnm 3) Af) (qb5 (vnm 3)) (qa4 Bb)))))))),λ s Q i h=>?_⟩);obtain⟨d,⟨z,n,wr,c,k,r,rfl,j,m,f,g,rfl⟩,q⟩:=h;refine Fo (λ Q i q=>qJ6 (x:=.int k) rfl (qap6 m) rfl q) ?_;refine Fo (λ Q i q=>qK7 (p:=Aa z a.C3 n wr c) (x:=.int r) rfl (qg0 rfl) rfl rfl (qau4 f g) rfl q) ?_;refine qb1 [Aa z a.C3 n wr c,.int k,.int r,.int (r - qc7 n c k)] (λ K o=>?_) ?_
 . exact⟨rfl,qK7 (p:=Aa z a.C3 n wr c) (x:=.int k) (d:=.int (qc7 n c k)) rfl (qg0 rfl) rfl rfl ⟨z,n,wr,c,k,rfl,j,m,rfl⟩ rfl (qa0 (a:=D.int (r - qc7 n c k)) rfl o)⟩
 unfold A7 at q;refine qj1 wr (A5 rfl qw5) (λ h=>?_) (λ h=>?_)
 . subst h
   exact qf3 (.int ((r - qc7 n c k) % n)) (Ae rfl (A5 rfl qe1) (qaM2 j)) q
 subst h;refine qk0 (Fp (b:=decide (0<=r - qc7 n c k)) rfl (λ h=>?_) (λ h=>?_))
 . rw[if_neg (by decide),if_pos (zAe h)] at q
   exact⟨rfl,q⟩
 rw[if_neg (by decide),if_neg (zB9 h)] at q;exact q
theorem qf0:qa9 ["self", "room", "one", "other", "one_far", "other_far"] ["self", "room", "one", "other"] (qa3 qf9):=by walk_at "s"
def qs4(C:γ):VSp:=Ay λ ds d=>∃ z n wr ps r x y,ds=[Aa z C n wr ps,.int r,.int x,.int y]/\1<=n/\0<=r/\r < n/\Aj x/\Aj y/\d=.bl (ql1 n wr ps r x y)
theorem qar6{C:γ}{z:Bool}{n:Int}{wr:Bool}{ps:Pr}{r:Int}(h1:1<=n)(f:Aj k)(g:0<=r)(h:r < n):∃ z' c a b e d,[Aa z C n wr ps,.int k,.int r]=[Aa z' C c a b,.int e,.int d]/\1<=c/\Aj e/\0<=d/\d < c/\Gn (A7 n wr ps k r)=Gn (A7 c a b e d) :=
 ⟨z,n,wr,ps,k,r,rfl,h1,f,g,h,rfl⟩
theorem qi9(T:Txt K mg a):VFn P w K mg base 6 a.f11 a.d11 ["self", "room", "one", "other"] (qs4 a.C3):=by
 refine VFn.mk2 T.d11.F qf0 (wOf [true,true,true,true]) qb2 (by walk_at "l") (λ _ _ _ _ _ _ _ j=>⟨_,(Ac (sif (Br (te (qm5 0 T.d8 T.C6.cl (qo3 T) qa1 (rm j) (vaN 1 Ad)))) (Ag qn2) Av) (Ac (sif (Br (te (Ah T.d3 (qc6 T) qa1 (rm j) (vaN 2 Ad)))) (Ag qn2) Av) (Ac (sif (Br (te (Ah T.d3 (qc6 T) qa1 (rm j) (vaN 3 Ad)))) (Ag qn2) Av) (Ac (Al 4 qf0.nd (qm5 0 T.d10 T.C6.cl (qj0 T) qa1 (rm j) (vaN 2 (vaN 1 Ad)))) (Ac (Al 5 qf0.nd (qm5 0 T.d10 T.C6.cl (qj0 T) qa1 (rm j) (vaN 3 (vaN 1 Ad)))) (Ac (sif (q2 (Am Ei (qb0 _)) Eh (vnm 4) Bb) (Ag (Aq (qa4 vbl))) Av) (Ac (sif (q2 (Am Ei (qb0 _)) Eh (vnm 5) Bb) (Ag (Aq (qa4 vbl))) Av) (Ag (Aq (qa4 (vor (v2 (A4 Da (qb0 _)) Dc (vnm 4) (vnm 5)) (Iw (vand (v2 (A4 (qn6 j.u64) (qb0 _)) Bm (vnm 4) (vnm 5)) (Iw (v2 (A4 Hv (qb0 _)) Im (vnm 2) (vnm 3)))))))))))))))),λ A Q k h=>?_⟩);obtain⟨d,⟨z,n,wr,c,r,x,y,rfl,o,e,i,s,t,rfl⟩,q⟩:=h;refine Fo (λ Q k q=>qK7 (p:=Aa z a.C3 n wr c) (x:=.int r) rfl (qg0 rfl) rfl rfl (qau4 e i) rfl q) ?_;refine Fo (λ Q k q=>qJ6 (x:=.int x) rfl (qap6 s) rfl q) ?_;refine Fo (λ Q k q=>qJ6 (x:=.int y) rfl (qap6 t) rfl q) ?_;refine qb1 [Aa z a.C3 n wr c,.int r,.int x,.int y,Gn (A7 n wr c x r),.u] (λ K m=>?_) ?_
 . exact qaq0 (p:=Aa z a.C3 n wr c) (x:=.int x) (y:=.int r) rfl (qg0 rfl) rfl rfl rfl rfl (qar6 o s e i) rfl m
 refine qb1 [Aa z a.C3 n wr c,.int r,.int x,.int y,Gn (A7 n wr c x r),Gn (A7 n wr c y r)] (λ K m=>?_) ?_
 . exact qaq0 (p:=Aa z a.C3 n wr c) (x:=.int y) (y:=.int r) rfl (qg0 rfl) rfl rfl rfl rfl (qar6 o t e i) rfl m
 unfold ql1 at q;cases u:A7 n wr c x r with
 | none =>
   rw[u] at q;exact q
 | some f =>
   rw[u] at q;cases v:A7 n wr c y r with
   | none =>
     rw[v] at q;exact q
   | some g =>
     rw[v] at q;refine qj1 false rfl nofun λ _=>?_
     refine qj1 false rfl nofun λ _=>?_
     exact qf3 _ (qaX4 (a:=decide (g < f)) rfl (qak1 (a:=decide (f=g)) (b:=decide (x < y)) rfl rfl)) q
theorem qJ3:qa9 ["plan", "room"] ["plan", "room"] (qa3 qo9):=by walk_at "s"
def qI8(C:γ):VSp:=Ay λ ds d=>∃ z n wr ps r,ds=[Aa z C n wr ps,.int r]/\d=(if 0 < r then .int (r - 1) else if wr=true then .int (n - 1) else .non)
theorem qK2(T:Txt K mg a):VFn P w K mg base 1 a.f12 a.d12 ["plan", "room"] (qI8 a.C3):=by
 refine VFn.mk2 T.d12.F qJ3 (wOf [true,true]) qb2 (by walk_at "l") (λ _ _ _ _ _ _ _ e=>⟨_,(Ac (sif (q2 (Am Da (qb0 _)) Dc (vnm 1) Af) (Ag (Aq (qa4 (v2 (Ak qv7) qv4 (vnm 1) Af)))) Av) (Ag (Aq (eif (tv (Bj rfl (vnm 0) T.C6.cl T.Cb)) (qa4 (v2 (Ak qv7) qv4 (Bj rfl (vnm 0) T.C6.cl T.C7) Af)) (qa4 Bb))))),λ f Q g h=>?_⟩);obtain⟨d,⟨z,n,wr,c,r,rfl,rfl⟩,q⟩:=h;refine At [Aa z a.C3 n wr c,.int r] rfl ?_;refine qj1 (decide (0 < r)) rfl (λ h=>?_) λ h=>?_
 . rw[if_pos (zAe h)] at q
   exact q
 rw[if_neg (zB9 h)] at q;refine qk0 (Fp (b:=wr) (A5 rfl qw5) (λ h=>?_) (λ h=>?_))
 . rw[if_pos h] at q
   exact qv9 (d:=.int (n - 1)) (Ae (A5 rfl qe1) rfl rfl) q
 rw[if_neg (by rw[h];decide)] at q;exact q
theorem qd6:qa9 ["plan", "rooms", "room", "ahead", "thing"] ["plan", "rooms", "room"] (qa3 qe2):=by walk_at "s"
noncomputable def Gb:Option Str->D
 | none=>.non
 | some s=>.str s
theorem qai1{t:D}{u:String}(h:t.kind=some u):t=.non∨t.isN=some false:=by
 cases t<;>first | exact .inl rfl | exact .inr rfl | cases h
theorem qG0{t:D}(h:t.num=true):∃ x,t=.int x/\Aj x:=by
 cases t with
 | int x =>
   have:=zAh.mp h
   exact⟨x,rfl,zAe this.1,zAe this.2⟩
 | _=>cases h
def En(n:Int)(wr:Bool)(ps:Pr)(p:Nat)(t:D)(k:Int):Option Str:=match t with
 | .non=>some "empty"
 | .int x=>if (D.int x).num=true then (if ql1 n wr ps (p:Int) x k=true then none else some "order") else none
 | _=>none
theorem qam3{n:Int}{wr:Bool}{ps:Pr}{p:Nat}{t:D}(h:t.num=false)(h':t.isN=some false):En n wr ps p t k=none:=by
 cases t with
 | non=>cases h'
 | int x =>
   show (if (D.int x).num=true then (if ql1 n wr ps (p:Int) x k=true then (none:Option Str) else some "order") else none)=none;rw[if_neg (by rw[h];decide)]
 | _=>rfl
structure Rm(n:Int)(ys:Ds)(r:Nat):Prop where
 len:ys.length=n.toNat
 kn:∀ y∈ys,∃ t,y.kind=some t
 im:D.imms ys=true
 fl:∀ i y,i < r->ys[i]? = some y->y=.non∨∃ k,y=.int k/\Aj k
theorem qU1{t:D}{u:String}(h:t.kind=some u):fx1 (λ x=>x.kind.map λ _=>.bl x.num) [t]=some (.bl t.num):=by
 show t.kind.map _=_;rw[h];rfl
theorem Jo{z:Bool}(h:ys[r]? = some y):gIx (.l z ys) (.int (r:Int))=some y:=qY3 h
def qn1(C:γ):VSp:=Ay λ ds d=>∃ z n wr ps z' ys r k t,ds=[Aa z C n wr ps,.l z' ys,.int (r:Nat)]/\1<=n/\r < n.toNat/\(0 < r∨wr=true)/\Rm n ys 0/\ys[r]? = some (.int k)/\Aj k/\ys[Row.prev n.toNat r]? = some t/\d=Gb (En n wr ps (Row.prev n.toNat r) t k)
theorem qn7(T:Txt K mg a):VFn P w K mg base 7 a.f13 a.d13 ["plan", "rooms", "room"] (qn1 a.C3):=by
 refine VFn.mk2 T.d13.F qd6 (wOf [true,true,true]) qb2 (by walk_at "l") (λ _ _ _ _ _ _ _ j=>⟨_,(Ac (Al 3 qd6.nd (Ah T.d12 (qK2 T) qa1 (rm j) (vaN 0 (vaN 2 Ad)))) (Ac (Al 4 qd6.nd (qb5 (v2 (Aw qb4) An (vnm 1) (vnm 3)))) (Ac (sif (q2 (Am Ei (qb0 _)) Eh (vnm 4) Bb) (Ag (Aq (qa4 Dt))) Av) (Ac (sif (Hj (te (Ah T.d3 (qc6 T) qa1 (rm j) (vaN 4 Ad))) (Fg (Br (te (qm5 0 T.d11 T.C6.cl (qi9 T) qa1 (rm j) (vaN 3 (vaN 4 (vaV (qb5 (v2 (Aw qb4) An (vnm 1) (vnm 2))) Ad)))))))).te (Ag (Aq (qa4 Dt))) Av) (Ag (Aq (qa4 Bb))))))),λ L Q M h=>?_⟩);obtain⟨d,⟨z,n,wr,c,e,f,r,k,t,rfl,C,m,E,R,G,H,g,rfl⟩,q⟩:=h;refine At [Aa z a.C3 n wr c,.l e f,.int (r:Nat),.u,.u] rfl ?_;have I:=Row.qi7 (n:=n.toNat) m;have v:(if 0 < ((r:Nat):Int) then D.int ((r:Int) - 1) else if wr=true then D.int (n - 1) else .non)=.int (Row.prev n.toNat r:Nat):=by
   rcases Row.por n.toNat r with⟨e1,e2⟩ | ⟨e1,e2⟩
   . rw[if_neg (by lia),if_pos (E.resolve_left (by lia)),e2]
     congr 1;lia
   rw[if_pos (by lia),e2];congr 1;lia
 generalize Row.prev n.toNat r=p at I v q g;obtain⟨u,i⟩:=R.kn t (zAx g);refine qb1 [Aa z a.C3 n wr c,.l e f,.int (r:Nat),.int (p:Nat),.u] (λ K o=>?_) ?_
 . exact qK8 (x:=Aa z a.C3 n wr c) (y:=.int (r:Nat)) (d:=.int (p:Nat)) rfl rfl rfl ⟨z,n,wr,c,(r:Nat),rfl,v.symm⟩ rfl o
 refine qb1 [Aa z a.C3 n wr c,.l e f,.int (r:Nat),.int (p:Nat),t] (λ K o=>qa0 (Ae rfl rfl (Jo g)) ⟨qu0 R.im g,o⟩) ?_;have A:rdN 4 [Aa z a.C3 n wr c,.l e f,.int (r:Nat),.int (p:Nat),t]=some t:=qi6 rfl (qm3 i);rcases qai1 i with rfl | B
 . exact qj1 true rfl (λ _=>q) nofun
 refine qj1 false (Ae A rfl (by show t.isN.map D.bl=_;rw[B];rfl)) nofun λ _=>?_
 cases b:t.num with
 | false =>
   rw[qam3 b B] at q;exact qh2 false (λ Q q=>qg6 false false (λ Q q=>qJ6 (x:=t) (d:=.bl false) A (by rw[qU1 i,b]) rfl q) nofun q) nofun λ _=>q
 | true =>
   obtain⟨x,rfl,J⟩:=qG0 b;have q:Q (Gb (if (D.int x).num=true then (if ql1 n wr c (p:Int) x k=true then none else some "order") else none)) [Aa z a.C3 n wr c,.l e f,.int (r:Nat)]:=q;rw[if_pos b] at q;refine qh2 (!ql1 n wr c (p:Int) x k) (λ Q q=>qg6 true _ (λ Q q=>qJ6 (x:=.int x) (d:=.bl true) rfl (by rw[qU1 i,b]) rfl q) (λ _ Q q=>?_) q) (λ h=>?_) λ h=>?_
   . refine qC0 (p:=Aa z a.C3 n wr c) rfl (qg0 rfl) (qc2 (x:=.int (p:Nat)) rfl (qc2 (x:=.int x) rfl (qd8 (y:=.int k) (Ae rfl rfl (Jo G)) rfl ?_)))
     refine qb9 ?_;refine qa0 (a:=D.int x) rfl ?_;refine qa0 (a:=D.int (p:Nat)) rfl ?_;exact(qa0 (a:=Aa z a.C3 n wr c) rfl (qm0 (d:=.bl (ql1 n wr c (p:Int) x k)) ⟨z,n,wr,c,(p:Nat),x,k,rfl,C,by lia,by lia,J,H,rfl⟩ q))
   . rw[if_neg (by intro s;rw[s] at h;cases h)] at q
     exact q
   rw[if_pos (by cases s:ql1 n wr c (p:Int) x k with | true=>rfl | false=>rw[s] at h;cases h)] at q;exact q
theorem qs5:qa9 ["plan", "rooms", "room", "key", "far"] ["plan", "rooms", "room"] (qa3 qx8):=by walk_at "s"
noncomputable def atD(ys:Ds)(i:Nat):D:=(ys[i]?).getD .non
noncomputable def qz8(k:Int):D->Bool
 | .int j=>decide (j=k)
 | _=>false
def By(n:Int)(wr:Bool)(ps:Pr)(ys:Ds)(r:Nat):Option Str:=match atD ys r with
 | .non=>none
 | .int k=>if (D.int k).num=true then (if (ys.take r).any (qz8 k)=true then some "twice" else match A7 n wr ps k (r:Int) with
   | none=>some "home"
   | some f=>if f=0 then none else En n wr ps (Row.prev n.toNat r) (atD ys (Row.prev n.toNat r)) k) else some "key"
 | _=>some "key"
theorem qax1{k:Int}:∀{l:Ds},(∀ y∈l,y=.non∨∃ j,y=.int j/\Aj j)->∃ a,flats l=some a/\inV (.int k) a=l.any (qz8 k)
 | [],_=>⟨[],rfl,rfl⟩
 | y::l,h=>by
   obtain⟨a,c,e2⟩:=qax1 (k:=k) λ z d=>h z (zA7 _ d)
   rcases h y zAf with rfl | ⟨j,rfl,_⟩
   . refine⟨.non::a,?_,?_⟩
     . show ((flats l).bind λ b=>some (V.non::b))=_
       rw[c];rfl
     show (eqV .non (.int k)||inV (.int k) a)=(false||l.any (qz8 k))
     rw[e2];rfl
   refine⟨.int j::a,?_,?_⟩
   . show ((flats l).bind λ b=>some (V.int j::b))=_
     rw[c];rfl
   show (eqV (.int j) (.int k)||inV (.int k) a)=(decide (j=k)||l.any (qz8 k))
   rw[e2];rfl
theorem qV3:∀{ys:Ds}{r:Nat},D.imms ys=true->D.imms (ys.take r)=true
 | [],r,_=>by rw[M7];rfl
 | y::ys,0,_=>rfl
 | y::ys,r+1,h=>by
   have:=zAh.mp h
   show (y.imm&&D.imms (ys.take r))=true;rw[this.1,qV3 this.2];rfl
theorem Rm.up{n:Int}(R:Rm n ys r){s:Nat}(h:s<=r):Rm n ys s:=⟨R.len,R.kn,R.im,λ i y a=>R.fl i y (by lia)⟩
def qY5(C:γ):VSp:=Ay λ ds d=>∃ z n wr ps z' ys r,ds=[Aa z C n wr ps,.l z' ys,.int (r:Nat)]/\1<=n/\r < n.toNat/\Rm n ys r/\d=Gb (By n wr ps ys r)
theorem qZ8(T:Txt K mg a):VFn P w K mg base 8 a.f14 a.d14 ["plan", "rooms", "room"] (qY5 a.C3):=by
 refine VFn.mk2 T.d14.F qs5 (wOf [true,true,true]) qb2 (by walk_at "l") (λ _ _ _ _ _ _ _ s=>⟨_,(Ac (Al 3 qs5.nd (qb5 (v2 (Aw qb4) An (vnm 1) (vnm 2)))) (Ac (sif (q2 (Am Ei (qb0 _)) Eh (vnm 3) Bb) (Ag (Aq (qa4 Bb))) Av) (Ac (sif (Br (te (Ah T.d3 (qc6 T) qa1 (rm s) (vaN 3 Ad)))) (Ag (Aq (qa4 Dt))) Av) (Ac (sif (q2 (Am qr3 (by with_unfolding_all rfl)) Ej (vnm 3) (vsl (vnm 1) vpo_n (vpo_s (vnm 2)))) (Ag (Aq (qa4 Dt))) Av) (Ac (Al 4 qs5.nd (qm5 0 T.d10 T.C6.cl (qj0 T) qa1 (rm s) (vaN 3 (vaN 2 Ad)))) (Ac (sif (q2 (Am Ei (qb0 _)) Eh (vnm 4) Bb) (Ag (Aq (qa4 Dt))) Av) (Ac (sif (q2 (Am (qn6 s.u64) (qb0 _)) Bm (vnm 4) Af) (Ag (Aq (qa4 Bb))) Av) (Ag (Aq (Ah T.d13 (qn7 T) qa1 (rm s) (vaN 0 (vaN 1 (vaN 2 Ad))))))))))))),λ X Q Y h=>?_⟩);obtain⟨d,⟨z,n,wr,c,g,b,r,rfl,E,j,R,rfl⟩,q⟩:=h;have N:=Row.qi7 (n:=n.toNat) j;obtain⟨v,o⟩:∃ v,b[r]? = some v:=⟨b[r]'(by rw[R.len];exact j),by simp⟩
 obtain⟨t,I⟩:∃ t,b[Row.prev n.toNat r]? = some t:=⟨b[Row.prev n.toNat r]'(by rw[R.len];exact N),by simp⟩
 obtain⟨u,A⟩:=R.kn v (zAx o);have O:atD b r=v:=by unfold atD;rw[o];rfl
 have S:atD b (Row.prev n.toNat r)=t:=by unfold atD;rw[I];rfl
 unfold By at q;rw[O,S] at q;refine At [Aa z a.C3 n wr c,.l g b,.int (r:Nat),.u,.u] rfl ?_;refine qb1 [Aa z a.C3 n wr c,.l g b,.int (r:Nat),v,.u] (λ K G=>qa0 (Ae rfl rfl (Jo o)) ⟨qu0 R.im o,G⟩) ?_;have J:rdN 3 [Aa z a.C3 n wr c,.l g b,.int (r:Nat),v,.u]=some v:=qi6 rfl (qm3 A);rcases qai1 A with rfl | L
 . exact qj1 true rfl (λ _=>q) nofun
 refine qj1 false (Ae J rfl (by show v.isN.map D.bl=_;rw[L];rfl)) nofun λ _=>?_
 cases e:v.num with
 | false =>
   refine qh2 true (λ Q q=>qJ6 (x:=v) (d:=.bl false) J (by rw[qU1 A,e]) rfl q) (λ _=>?_) nofun;cases v with
   | non=>cases L
   | int k =>
     have q:Q (Gb (if (D.int k).num=true then _ else some "key")) [Aa z a.C3 n wr c,.l g b,.int (r:Nat)]:=q;rw[if_neg (by rw[e];decide)] at q;exact q
   | _=>exact q
 | true =>
   obtain⟨k,rfl,M⟩:=qG0 e;have q:Q (Gb (if (D.int k).num=true then (if (b.take r).any (qz8 k)=true then some "twice" else match A7 n wr c k (r:Int) with
     | none=>some "home"
     | some f=>if f=0 then none else En n wr c (Row.prev n.toNat r) t k) else some "key")) [Aa z a.C3 n wr c,.l g b,.int (r:Nat)]:=q
   rw[if_pos e] at q;refine qh2 false (λ Q q=>qJ6 (x:=.int k) (d:=.bl true) rfl (by rw[qU1 A,e]) rfl q) nofun λ _=>?_
   obtain⟨B,U,e2⟩:=qax1 (k:=k) (l:=b.take r) λ y V=>by
     obtain⟨i,C⟩:=List.getElem?_of_mem V;rw[List.getElem?_take] at C;split at C
     . rename_i hlt;exact R.fl i y hlt C
     cases C
   have H:f2 (Gd false) (rdN 3) (fsl (rdN 1) foN (foS (rdN 2))) [Aa z a.C3 n wr c,.l g b,.int (r:Nat),.int k,.u]=some (.bl ((b.take r).any (qz8 k))):=by
     refine Ae (x:=.int k) (y:=.l false (b.take r)) rfl ?_ ?_
     . show gSl (.l g b) none (some (r:Int))=_
       show gd (D.imms (Dl b none (some (r:Int)))=true) (.l false (Dl b none (some (r:Int))))=_;rw[qH4];exact ql2 (qV3 R.im)
     show ((flats (b.take r)).bind λ B=>some (D.bl (if false=true then !inV (.int k) B else inV (.int k) B)))=_;rw[U];show some (D.bl (inV (.int k) B))=_;rw[e2]
   refine qj1 _ H (λ h=>?_) λ h=>?_
   . rw[if_pos h] at q;exact q
   rw[if_neg (by rw[h];decide)] at q;refine qb1 [Aa z a.C3 n wr c,.l g b,.int (r:Nat),.int k,Gn (A7 n wr c k (r:Nat))] (λ K G=>?_) ?_
   . exact qaq0 (p:=Aa z a.C3 n wr c) (x:=.int k) (y:=.int (r:Nat)) rfl (qg0 rfl) rfl rfl rfl rfl (qar6 E M (by lia) (by lia)) rfl G
   cases m:A7 n wr c k (r:Nat) with
   | none =>
     rw[m] at q;exact qj1 true rfl (λ _=>q) nofun
   | some f =>
     rw[m] at q;refine qj1 false rfl nofun λ _=>?_
     refine qj1 (decide (f=0)) rfl (λ h=>?_) λ h=>?_
     . have q:Q (Gb (if f=0 then none else En n wr c (Row.prev n.toNat r) t k)) [Aa z a.C3 n wr c,.l g b,.int (r:Nat)]:=q
       rw[if_pos (zAe h)] at q;exact q
     have q:Q (Gb (if f=0 then none else En n wr c (Row.prev n.toNat r) t k)) [Aa z a.C3 n wr c,.l g b,.int (r:Nat)]:=q;rw[if_neg (zB9 h)] at q;refine qR2 (x:=Aa z a.C3 n wr c) (y:=.l g b) (w:=.int (r:Nat)) rfl rfl rfl rfl rfl ⟨z,n,wr,c,g,b,r,k,t,rfl,E,j,?_,R.up (zBl _),o,M,I,rfl⟩ rfl q;cases wr with
     | true=>exact .inr rfl
     | false =>
       left;unfold A7 at m;rw[if_neg (by decide)] at m
       have:=(qaj2 E c k).1
       have W:=zB9 h;split at m
       . cases m;lia
       cases m
theorem qP1:qa9 ["plan", "rooms"] ["plan", "rooms"] (qa3 qt0):=by walk_at "s"
def farP(n:Int)(wr:Bool)(ps:Pr):D->Bool
 | .q [.int i,.int k]=>match A7 n wr ps k i with
   | some f=>decide (0 < f)
   | none=>false
 | _=>false
def qq3(n:Int)(wr:Bool)(ps:Pr)(ys:Ds):Bool:=(enD ys).all (farP n wr ps)
theorem qaF0(ys:Ds):(enD ys).length=ys.length:=by unfold enD;rw[zAg,List.length_zipIdx]
def qO3(C:γ):VSp:=Ay λ ds d=>∃ z n wr ps z' ys,ds=[Aa z C n wr ps,.l z' ys]/\1<=n/\n<=64/\ys.length=n.toNat/\(∀ i v,ys[i]? = some v->v=.non∨∃ k,v=.int k/\Aj k/\A7 n wr ps k (i:Nat)≠none)/\d=.bl (qq3 n wr ps ys)
theorem qaE0{p:Nat->D->Prop}(h:∀ i v,ys[i]? = some v->v=.non∨∃ k,v=.int k/\p i v):D.imms ys=true:=by
 induction ys generalizing p with
 | nil=>rfl
 | cons y ys a =>
   have b:=h 0 y rfl;have c:y.imm=true:=by
     rcases b with rfl | ⟨k,rfl,_⟩<;>rfl
   show (y.imm&&D.imms ys)=true;rw[c,a (p:=λ i v=>p (i+1) v) λ i v d=>h (i+1) v d];rfl
theorem qQ5(T:Txt K mg a):VFn P w K mg base 6 a.f15 a.d15 ["plan", "rooms"] (qO3 a.C3):=by
 refine VFn.mk2 T.d15.F qP1 (wOf [true,true]) qb2 (by walk_at "l") (λ _ _ _ _ _ _ _ H=>⟨_,(Ag (Aq (ebi (qX7 rfl) qaP9.ops T.D3 (Du (vaV (ecEN (NY:=["room", "key", "plan"]) (src:=[none,none,some 0]) 1 T.Cs (blk (λ o C r H0 s=>(G3 (n:=2) rfl (qL9 (Be 0 (show (["room", "key", "plan"]:List Str).Nodup by decide +kernel)) (qL9 (Be 1 (show (["room", "key", "plan"]:List Str).Nodup by decide +kernel)) G2)))) (λ o C r H0 s=>Fk) (λ o C r H0 s=>(Ev (qa4 (v2 (A4 qi8 (qb0 _)) qn4 (vnm 1) Bb)) (F7 (e2v (A4 Da (qb0 _)) Dc (qm5 2 T.d10 T.C6.cl (qj0 T) qt9 (rm H) (vaN 1 (vaN 0 Ad))) Af)))))) Ad))))),λ X Q Y h=>?_⟩);obtain⟨d,⟨z,n,wr,b,I,g,rfl,J,Z,t,u,rfl⟩,q⟩:=h;refine At [Aa z a.C3 n wr b,.l I g] rfl ?_;have L:D.imms g=true:=qaE0 (p:=λ i v=>∃ k,v=.int k/\Aj k/\A7 n wr b k (i:Nat)≠none) λ i v h=>by
   rcases u i v h with h | ⟨k,A,M,N⟩
   . exact .inl h
   exact .inr ⟨k,A,k,A,M,N⟩
 refine qk0 ?_;refine⟨L,?_⟩;refine ql0 (λ ι=>∃ j m,ι=[j,m,Aa z a.C3 n wr b]) (λ y=>some (.bl (farP n wr b y))) (enD g) [] _ (by show 0+(enD g).length < big;rw[qaF0,t];unfold big;lia) ⟨_,_,rfl⟩ ?_ ?_
 . rintro y O ι S ⟨j,m,rfl⟩ R B c
   obtain⟨i,v,rfl,E⟩:=qaX8 O;have U:i < n.toNat:=by rw[<- t];exact(zA4.mp E).1
   refine qH1 (qam2 (B8 rfl ?_));rcases u i v E with rfl | ⟨k,rfl,V,W⟩
   . exact E4 false rfl nofun λ _=>⟨c,B _ ⟨_,_,rfl⟩⟩
   refine E4 true rfl (λ _=>?_) nofun;refine qaq0 (p:=Aa z a.C3 n wr b) (x:=.int k) (y:=.int (i:Nat)) rfl (qg0 rfl) rfl rfl rfl rfl (qar6 J V (by lia) (by lia)) rfl ?_;have this:=B _ ⟨.int (i:Nat),.int k,rfl⟩;cases G:A7 n wr b k (i:Nat) with
   | none=>exact absurd G W
   | some f =>
     have e:farP n wr b (.q [.int (i:Nat),.int k])=decide (0 < f):=by
       show (match A7 n wr b k (i:Nat) with | some f=>decide (0 < f) | none=>false)=_;rw[G]
     rw[e] at this;exact qa0 (a:=D.bl (decide (0 < f))) rfl ⟨c,this⟩
 rintro ι ⟨j,m,rfl⟩;rw[zB5,qak0];exact qa0 (qaQ8 (farP n wr b) (enD g)) q
theorem qs6:qa9 ["plan", "rooms", "room", "word"] ["plan", "rooms"] (qa3 qy0):=by walk_at "s"
def Hr(n:Int)(wr:Bool)(ps:Pr)(ys:Ds):Option (Str×Nat):=(Kz n.toNat).findSome? λ r=>(By n wr ps ys r).map λ w=>(w,r)
def qar5(n:Int)(wr:Bool)(ps:Pr)(ys:Ds):D:=match Hr n wr ps ys with
 | some (w,r)=>.q [.str w,.int (r:Nat)]
 | none=>if qq3 n wr ps ys=true then .q [.str "turned",.int 0] else .non
theorem qI1{n:Int}{wr:Bool}{ps:Pr}{v:D}(c:ys[r]? = some v)(h:By n wr ps ys r=none):v=.non∨∃ k,v=.int k/\Aj k/\A7 n wr ps k (r:Nat)≠none:=by
 have d:atD ys r=v:=by unfold atD;rw[c];rfl
 unfold By at h;rw[d] at h;cases v with
 | non=>exact .inl rfl
 | int k =>
   have h:(if (D.int k).num=true then (if (ys.take r).any (qz8 k)=true then (some "twice" : Option Str) else match A7 n wr ps k (r:Int) with
     | none=>some "home"
     | some f=>if f=0 then none else En n wr ps (Row.prev n.toNat r) (atD ys (Row.prev n.toNat r)) k) else some "key")=(none:Option Str):=h
   by_cases a:(D.int k).num=true
   . rw[if_pos a] at h
     obtain⟨i,e,b⟩:=qG0 a;cases e;refine .inr ⟨k,rfl,b,λ g=>?_⟩;rw[g] at h;split at h<;>cases h
   rw[if_neg a] at h;cases h
 | _=>cases h
theorem qM0{α:Type}{r:Nat}{f:Nat->Option α}{a:α}:∀{N:Nat},r < N->(∀ i,i < r->f i=none)->f r=some a->(Kz N).findSome? f=some a
 | 0,hr,_,_=>absurd hr (zBx _)
 | N+1,hr,h0,h=>by
   rw[Ma,List.findSome?_append];by_cases b:r < N
   . rw[qM0 b h0 h];rfl
   have e:r=N:=by lia
   subst e;rw[List.findSome?_eq_none_iff.mpr λ i c=>h0 i (zAs.mp c)];show [r].findSome? f=_;rw[List.findSome?_cons,h]
theorem qW2{f:Nat->Option α}(a:∀ i,i < N->f i=none):(Kz N).findSome? f=none:=List.findSome?_eq_none_iff.mpr λ i b=>a i (zAs.mp b)
def qY7(C:γ):VSp:=Ay λ ds d=>∃ z n wr ps z' ys,ds=[Aa z C n wr ps,.l z' ys]/\1<=n/\n<=64/\ys.length=n.toNat/\(∀ y∈ys,∃ t,y.kind=some t)/\D.imms ys=true/\d=qar5 n wr ps ys
theorem qaa0(T:Txt K mg a):VFn P w K mg base 9 a.f16 a.d16 ["plan", "rooms"] (qY7 a.C3):=by
 refine VFn.mk2 T.d16.F qs6 (wOf [true,true]) qb2 (by walk_at "l") (λ _ _ _ _ _ _ _ B=>⟨_,(Ac (sif (tor (Br (tv (vbi qh5 qH5.ops T.C8 (qa2 (vnm 1) (qa2 (vty "list" T.Cj) qa6 rfl) rfl)))) (Hi (q2 (Am (qn5 B.u64) (qb0 _)) Dr (vbi ql4 ql3.ops T.Ca (qa2 (vnm 1) qa6 rfl)) (Bj rfl (vnm 0) T.C6.cl T.C7)))).te (Ag (Aq (qa4 (Es (qa2 Dt (qa2 Af qa6 rfl) rfl))))) Av) (Ac (qJ2 Nn T.Ci (Du (vaV (qb5 (Bj rfl (vnm 0) T.C6.cl T.C7)) Ad)) (Be 2 qs6.nd) (Ac (Al 3 qs6.nd (Ah T.d14 (qZ8 T) qa1 (rm B) (vaN 0 (vaN 1 (vaN 2 Ad))))) (Ag (sif (q2 (Am qi8 (qb0 _)) qn4 (vnm 3) Bb) (Ag (Aq (qa4 (Es (qa2 (vnm 3) (qa2 (vnm 2) qa6 rfl) rfl))))) Av)))) (Ag (Aq (eif (te (Ah T.d15 (qQ5 T) qa1 (rm B) (vaN 0 (vaN 1 Ad)))) (qa4 (Es (qa2 Dt (qa2 Af qa6 rfl) rfl))) (qa4 Bb)))))),λ p Q V h=>?_⟩);obtain⟨d,⟨z,n,wr,f,g,c,rfl,H,J,C,E,L,rfl⟩,q⟩:=h;refine At [Aa z a.C3 n wr f,.l g c,.u,.u] rfl ?_;have t:f2 gNe (Ba (fx1 Fa) (A6 (rdN 1) λ _=>some [])) (f1 (D.fld a.C3 "rooms") (rdN 0)) [Aa z a.C3 n wr f,.l g c,.u,.u]=some (.bl false):=Ae (qm1 rfl) (A5 rfl qe1) (by
   show some (D.bl (!((c.length:Nat):Int) == n))=_;rw[show ((c.length:Nat):Int)=n by lia,zBd];rfl)
 refine qh2 false (λ Q q=>qI2 false false (λ Q q=>qw2 (qai5 rfl) q) (λ _ Q q=>qf6 t q) q) nofun λ _=>?_
 refine qb8 (λ p=>(∀ i,i < n.toNat->By n wr f c i=none)/\∃ d u,p=[Aa z a.C3 n wr f,.l g c,d,u]) (λ K s=>?_) ?_
 . refine qR7 (A5 rfl qe1) (qR1 (by lia) (by lia)) ?_
   refine qd7 (λ i p=>(∀ j,j < i->By n wr f c j=none)/\∃ d u,p=[Aa z a.C3 n wr f,.l g c,d,u]) _ 0 _ ⟨λ j A=>absurd A (zBx _),_,_,rfl⟩ ?_ ?_
   . rintro j x M p ⟨m,d,u,rfl⟩ K s
     rw[zAb] at m s;obtain⟨A,rfl⟩:=qF6 M;have R:Rm n c j:=⟨C,E,L,λ i y o N=>by
       rcases qI1 N (m i o) with h | ⟨k,O,S,_⟩
       . exact .inl h
       exact .inr ⟨k,O,S⟩⟩
     refine qb1 [Aa z a.C3 n wr f,.l g c,.int (j:Nat),Gb (By n wr f c j)] (λ K s=>qR2 (x:=Aa z a.C3 n wr f) (y:=.l g c) (w:=.int (j:Nat)) rfl rfl rfl rfl rfl ⟨z,n,wr,f,g,c,j,rfl,H,A,R,rfl⟩ rfl s) ?_;cases e:By n wr f c j with
     | none =>
       refine if_v (b:=false) rfl nofun λ _=>s _ ⟨λ i o=>?_,_,_,rfl⟩
       rcases Nat.lt_succ_iff_lt_or_eq.mp o with h | rfl
       . exact m i h
       exact e
     | some w =>
       have G:Hr n wr f c=some (w,j):=qM0 A (λ i o=>by rw[m i o];rfl) (by rw[e];rfl);have q:Q (match Hr n wr f c with | some (w,r)=>.q [.str w,.int (r:Nat)] | none=>if qq3 n wr f c=true then .q [.str "turned",.int 0] else .non) [Aa z a.C3 n wr f,.l g c]:=q;rw[G] at q;exact if_v (b:=true) rfl (λ _=>q) nofun
   rintro p ⟨m,U⟩;refine s _ ⟨λ i o=>m i ?_,U⟩;unfold Bp;rw[zAg,zB4,zAb];exact o
 rintro p ⟨m,d,u,rfl⟩;have G:Hr n wr f c=none:=qW2 λ i o=>by rw[m i o];rfl
 have q:Q (match Hr n wr f c with | some (w,r)=>.q [.str w,.int (r:Nat)] | none=>if qq3 n wr f c=true then .q [.str "turned",.int 0] else .non) [Aa z a.C3 n wr f,.l g c]:=q;rw[G] at q;refine qk0 ?_;refine qK8 (x:=Aa z a.C3 n wr f) (y:=.l g c) (d:=.bl (qq3 n wr f c)) rfl rfl rfl ⟨z,n,wr,f,g,c,rfl,H,J,C,λ i v I=>qI1 I (m i (by rw[<- C];exact(zA4.mp I).1)),rfl⟩ rfl ?_;refine qa0 (a:=qq3 n wr f c) rfl (ite_b (λ h=>?_) λ h=>?_)
 . have q:Q (if qq3 n wr f c=true then .q [.str "turned",.int 0] else .non) [Aa z a.C3 n wr f,.l g c]:=q
   rw[if_pos h] at q;exact q
 have q:Q (if qq3 n wr f c=true then .q [.str "turned",.int 0] else .non) [Aa z a.C3 n wr f,.l g c]:=q;rw[if_neg (by rw[h];decide)] at q;exact q
theorem qs7:qa9 ["self", "plan", "rooms", "held", "fault"] ["self", "plan", "rooms"] (qa3 qy5):=by walk_at "s"
theorem qaF9{g:Nat->Option Int}(h:r < N):atD (Ou N g) r=Di (g r):=by unfold atD;rw[qL6 h];rfl
theorem qaH2{g:Nat->Option Int}(h:r<=N):(Ou N g).take r=Ou r g:=by
 unfold Ou;rw[<- La,List.take_range,Nat.min_eq_left h]
theorem qaZ7{g:Nat->Option Int}:(Ou r g).any (qz8 k)=true↔∃ j,j < r/\g j=some k:=by
 unfold Ou;rw[M8,Mu];constructor
 . rintro⟨j,a,e⟩
   refine⟨j,zAs.mp a,?_⟩;have e:qz8 k (Di (g j))=true:=e;cases h:g j with
   | none=>rw[h] at e;cases e
   | some x=>rw[h] at e;rw[zAe (show decide (x=k)=true from e)]
 rintro⟨j,a,e⟩;refine⟨j,zAs.mpr a,?_⟩;show qz8 k (Di (g j))=true;rw[e];exact zAl rfl
theorem qaG2{n:Int}{wr:Bool}{ps:Pr}{g:Nat->Option Int}(a:r < n.toNat)(b:g r=some k)(c:Aj k):By n wr ps (Ou n.toNat g) r=(if (Ou r g).any (qz8 k)=true then (some "twice" : Option Str) else match A7 n wr ps k (r:Int) with
   | none=>some "home"
   | some f=>if f=0 then none else En n wr ps (Row.prev n.toNat r) (Di (g (Row.prev n.toNat r))) k):=by
 unfold By;rw[qaF9 a,qaF9 (Row.qi7 a),qaH2 (zBa a),b];show (if (D.int k).num=true then _ else _)=_;rw[if_pos (qt8 c)]
 try rfl
theorem qaP5{v:D}(h:ys[i]? = some v):D.q [.int (i:Nat),v]∈enD ys:=zBc.mpr ⟨(v,i),List.mem_zipIdx_iff_getElem?.mpr h,rfl⟩
theorem qai4{n:Int}{wr:Bool}{ps:Pr}{g:Nat->Option Int}{S:List Int}(m:1<=n)(KP:Kept n.toNat wr (Oq n ps) g S)(t:∀ k∈S,Aj k):qar5 n wr ps (Ou n.toNat g)=.non:=by
 have p:∀{i k},i < n.toNat->g i=some k->Aj k:=λ{i k} l h=>t k ((KP.h.2 k).mpr ⟨i,l,h⟩)
 have b:Hr n wr ps (Ou n.toNat g)=none:=qW2 λ r d=>by
   have:By n wr ps (Ou n.toNat g) r=none:=by
     cases a:g r with
     | none=>unfold By;rw[qaF9 d,a];rfl
     | some k =>
       have q:=Row.qi7 d;rw[qaG2 d a (p d a),if_neg (λ z=>by
         obtain⟨j,A,e⟩:=qaZ7.mp z
         have:=KP.o.inj j r k (by lia) d e a
         lia),qM1 m d (λ b=>KP.ln b r k d a)]
       show (if ((Ab n.toNat (Oq n ps k) r:Nat):Int)=0 then none else _)=_;by_cases B:Ab n.toNat (Oq n ps k) r=0
       . rw[if_pos (by lia)]
       obtain⟨x,s,u⟩:=KP.o.ord r k d a (by lia);rw[if_neg (by lia),s];show (if (D.int x).num=true then (if ql1 n wr ps (Row.prev n.toNat r:Nat) x k=true then (none:Option Str) else some "order") else none)=none;have v:=D7 (ps:=ps) m k;rw[if_pos (qt8 (p q s)),if_pos ((qI0 (ps:=ps) m q (λ b=>KP.ln b _ x q s) (λ b=>by
         have C:=KP.ln b r k d a;have E:=dor n.toNat (Oq n ps k) r;have F:=por n.toNat r
         lia)).mpr u)]
   rw[this];rfl
 have w:qq3 n wr ps (Ou n.toNat g)=false:=by
   obtain⟨i,l,y⟩:=KP.c;refine List.all_eq_false.mpr ⟨_,qaP5 (qL6 l),?_⟩;cases a:g i with
   | none=>exact λ h=>by cases h
   | some k =>
     show ¬ (match A7 n wr ps k (i:Nat) with | some f=>decide (0 < f) | none=>false)=true;rw[qM1 m l (λ b=>KP.ln b i k l a),(qb6 (D7 m k) l).mpr (y k a).symm];exact λ h=>by cases h
 unfold qar5;rw[b,w];rfl
def Au(zr:Bool)(C CP:γ)(n:Int)(wr:Bool)(ps:Pr)(g:Nat->Option Int)(dn:Ds):D:=.ins zr C [("plan",Aa true CP n wr ps),("held",.l zr (Ou n.toNat g)),("done",.l zr dn)]
abbrev rA(a:Adr)(n:Int)(wr:Bool)(ps:Pr)(g:Nat->Option Int)(dn:Ds):D:=Au false a.C4 a.C3 n wr ps g dn
abbrev kL(S:List Int):D:=.l false (Ot S)
abbrev rL(n:Int)(g:Nat->Option Int):D:=.l false (Ou n.toNat g)
section
variable{zr:Bool}{C CP:γ}{n:Int}{wr:Bool}{ps:Pr}{g:Nat->Option Int}{dn:Ds}
theorem qr1:D.fld C "plan" (Au zr C CP n wr ps g dn)=some (Aa true CP n wr ps):=qE2 (by rfl)
theorem qr2:D.fld C "held" (Au zr C CP n wr ps g dn)=some (.l zr (Ou n.toNat g)):=qE2 (by rfl)
theorem qT6:D.fld C "done" (Au zr C CP n wr ps g dn)=some (.l zr dn):=qE2 (by rfl)
theorem qe6(h:([("plan",Aa true CP n wr ps),("held",.l zr (Ou n.toNat g)),("done",.l zr dn)]:List (Str×D)).lookup m=none):(Au zr C CP n wr ps g dn).isM C m=true:=qaw7 h
end
theorem qs1{zr:Bool}{C CP:γ}{n:Int}{wr:Bool}{ps:Pr}{g:Nat->Option Int}{dn:Ds}:D.fidx C "held" (Au zr C CP n wr ps g dn)=some 1:=by
 show (if C=C then List.findIdx? (λ q:Str×D=>("held" : Str) == q.1) [("plan",Aa true CP n wr ps),("held",.l zr (Ou n.toNat g)),("done",.l zr dn)] else none)=_;rw[if_pos rfl];rfl
theorem qaZ2{p:List Nat}{w:V}{d0:D}(h:A9 ds i p=some (.hole w)):bk1 i p w d0 ds=some (Bf ds i p d0):=by
 unfold bk1 Ap;rw[h];simp only[if_true];unfold Ap;rfl
theorem qaE6{C:γ}{f:Str}(h:te ds (λ d ds1=>orF (pf ds1) λ q=>orF ((A9 ds1 q.1 q.2).bind (D.ownI C)) λ fs=>fs.length < 100/\e.nx (Bf ds1 q.1 q.2 (.ins false C (Ez f d fs)))) e.xe):sFldV C f te pf e ds:=h
theorem mv_to(h:rdN i ds=some d)(q:Q d (ds.set i .u)):tMv i ds Q xe:=qa0 h q
def qZ1(C CP:γ):VSp:=λ ds Q _=>∃ n wr ps r g S,ds=[.ins false C [],Aa true CP n wr ps,r]/\1<=n/\n<=64/\(∀ k∈S,Aj k)/\Kept n.toNat wr (Oq n ps) g S/\(r=.non/\g=(λ _=>none)∨∃ z,r=.l z (Ou n.toNat g))/\Q .non [Au false C CP n wr ps g [],Aa true CP n wr ps,r]
theorem qt7(T:Txt K mg a):VFn P w K mg base 10 a.f24 a.d24 ["self", "plan", "rooms"] (qZ1 a.C4 a.C3):=by
 refine VFn.mkE T.d24.F qs7 (wOf [true,true,true]) (λ j Q Q' l p s _ h=>by obtain⟨n,wr,c,r,g,S,e,t,u,v,A,B,q⟩:=h;exact⟨n,wr,c,r,g,S,e,t,u,v,A,B,s _ _ q⟩) (λ j Q l h=>by obtain⟨n,wr,c,r,g,S,e,_⟩:=h;rw[e];rfl) (λ j Q l h=>by obtain⟨n,wr,c,r,g,S,e,_⟩:=h;rw[e];rfl) (λ _ _ _ _ _ _ _ i=>⟨_,(Ac (sif (Br (tv (vbi (qaF5 T.D0 T.C6.cl) qaY5.ops T.C8 (qa2 (vnm 1) (qa2 (vcls a.C3 T.C6.m) qa6 rfl) rfl)))) (Ag qn2) Av) (Ac (sif (Hj (q2 (Am qi8 (qb0 _)) qn4 (vnm 2) Bb) (Fg (Br (tv (vbi qh5 qH5.ops T.C8 (qa2 (vnm 2) (qa2 (vty "list" T.Cj) qa6 rfl) rfl)))))).te (Ag qn2) Av) (Ac (Al 3 qs7.nd (eif (q2 (Am Ei (qb0 _)) Eh (vnm 2) Bb) (qa4 (v2 (Ak qv6) qv5 (Bl (qa2 Bb qa6 rfl)) (Bj rfl (vnm 1) T.C6.cl T.C7))) (qa4 (Fv qh4 qM3.ops T.Cj (qa2 (vnm 2) qa6 rfl))))) (Ac (Al 4 qs7.nd (Ah T.d16 (qaa0 T) qa1 (rm i) (vaN 1 (vaN 3 Ad)))) (Ac (sif (q2 (Am qi8 (qb0 _)) qn4 (vnm 4) Bb) (Ag qn2) Av) (Ac (Gh rfl (vpn 0) (qb5 (vnm 1)) T.C5.cl T.Cd) (Ac (Gh rfl (vpn 0) (emv 3) T.C5.cl T.C9) (Ag (Gh rfl (vpn 0) (qa4 (Bl qa6)) T.C5.cl T.Cc))))))))),λ j Q l h=>?_⟩);obtain⟨n,wr,c,r,g,S,rfl,o,C,D,KP,i,q⟩:=h;have G:r.known=true:=by
   rcases i with⟨rfl,_⟩ | ⟨z,rfl⟩<;>rfl
 refine At [.ins false a.C4 [],Aa true a.C3 n wr c,r,.u,.u] rfl ?_;refine qaO1 (show gIsO a.C3 (Aa true a.C3 n wr c) (.adr a.C3)=some (.bl true) from qaD9) ?_;refine qh2 false (λ Q q=>?_) nofun λ _=>?_
 . rcases i with⟨rfl,_⟩ | ⟨z,rfl⟩
   . exact qg6 false false (λ Q q=>qf6 (b:=false) (Ae rfl rfl rfl) q) nofun q
   exact qg6 true false (λ Q q=>qf6 (b:=true) (Ae rfl rfl rfl) q) (λ _ Q q=>qw2 (b:=true) (qai5 rfl) q) q
 refine qb1 [.ins false a.C4 [],Aa true a.C3 n wr c,r,rL n g,.u] (λ K f=>qe7 ?_) ?_
 . rcases i with⟨rfl,rfl⟩ | ⟨z,rfl⟩
   . exact Fp (b:=true) (Ae rfl rfl rfl) (λ _=>qv9 (Ae rfl (A5 rfl qe1) (qR0 (by lia) C)) f) nofun
   exact Fp (b:=false) (Ae rfl rfl rfl) nofun λ _=>qv9 (d:=rL n g) (show Iu (.l z (Ou n.toNat g))=_ from ql2 (qD9 _ _)) f
 refine qb1 [.ins false a.C4 [],Aa true a.C3 n wr c,r,rL n g,.non] (λ K f=>qe7 ?_) ?_
 . refine qK8 (x:=Aa true a.C3 n wr c) (y:=rL n g) (d:=qar5 n wr c (Ou n.toNat g)) rfl rfl rfl ⟨true,n,wr,c,false,Ou n.toNat g,rfl,o,by lia,qo4 _ _,λ y E=>?_,qD9 _ _,rfl⟩ rfl ?_
   . rcases Jj E with rfl | ⟨k,rfl⟩
     . exact⟨_,rfl⟩
     exact⟨_,rfl⟩
   rw[qai4 o KP D];exact f
 refine qh2 false (λ Q q=>qf6 (b:=false) (Ae rfl rfl rfl) q) nofun λ _=>?_
 refine qb1 [.ins false a.C4 [("plan",Aa true a.C3 n wr c)],Aa true a.C3 n wr c,r,rL n g,.non] (λ K f=>qaE6 (qz9 (d:=Aa true a.C3 n wr c) rfl rfl (qa0 (a:=(0,[])) rfl (qa0 qk2 ⟨by decide,f⟩)))) ?_;refine qb1 [.ins false a.C4 [("plan",Aa true a.C3 n wr c),("held",rL n g)],Aa true a.C3 n wr c,r,.u,.non] (λ K f=>qaE6 (mv_to (d:=rL n g) rfl (qa0 (a:=(0,[])) rfl (qa0 qk2 ⟨by show 1 < 100;decide,f⟩)))) ?_;exact qaE6 (qv9 (d:=.l false []) rfl (qa0 (a:=(0,[])) rfl (qa0 qk2 ⟨by show 2 < 100;decide,q⟩)))
theorem qP3:qa9 ["self"] ["self"] (qa3 qt4):=by walk_at "s"
def qo8(C CP:γ):VSp:=Ay λ ds d=>∃ zr n wr ps g dn,ds=[Au zr C CP n wr ps g dn]/\D.imms dn=true/\d=.l false dn
theorem qp4(T:Txt K mg a):VFn P w K mg base 1 a.f32 a.d32 ["self"] (qo8 a.C4 a.C3):=by
 refine VFn.mk2 T.d32.F qP3 (wOf [true]) qb2 (by walk_at "l") (λ _ _ _ _ _ _ _ i=>⟨_,(Ag (Aq (qa4 (Fv qh4 qM3.ops T.Cj (qa2 (Bj rfl (vnm 0) T.C5.cl T.Cc) qa6 rfl))))),λ j Q k h=>?_⟩);obtain⟨d,⟨c,n,wr,e,g,b,rfl,f,rfl⟩,q⟩:=h;refine At [Au c a.C4 a.C3 n wr e g b] rfl ?_;refine qf3 (.l false b) ?_ q;unfold Ba A6;rw[A5 rfl qT6];exact ql2 f
theorem qaI1:qa9 ["_law_script"] ["_law_script"] (qa3 qaz9):=by walk_at "s"
theorem qaL4(T:Txt K mg a):Dw P w K mg base CX0 1 a.f34 a.d34 ["_law_script"] (qaS0 K):=by
 refine T.d34.F.ok qaI1 (λ J H Q E h=>?_) (λ L A outer s H J Q E O h=>?_)
 . obtain⟨l,d,rfl,_⟩:=h
   rfl
 obtain⟨l,d,rfl,M,R,k⟩:=h;refine⟨_,(qy9 (qZ6 (qaB2 (qc5 qJ7 (qc5 qJ7 (qc5 qJ7 (qc5 (qJ8 ["_law_cell"] [none] (qz0 (qQ2 qac7 (pv 0) qae5 (qae4 qJ7))) (λ C B H0 G=>(gnm 0 (show (["_law_cell"]:List Str).Nodup by decide +kernel))) (λ C B H0 G=>qaJ9) (λ C B H0 G=>(cbi qaF6 T.D5 (qc5 (pv 0) ql9)))) ql9))))))),?_⟩;refine⟨_,rfl,_,rfl,l,_,rfl,M,λ c N=>?_⟩;have ec:Fy (d.map V.int) none (some 63)=d.map V.int:=by
   unfold Fy;have t:HT.sIx (d.map V.int).length (d.map V.int).length (some (63:Int))=min 63 (d.map V.int).length:=HT.qau1 _ _ 63;rw[t,HT.qad6,Lu,Nat.sub_zero];apply zAr;rw[zAg];lia
 rw[ec];refine⟨c,rfl,⟨_,SqL.of qc1⟩,λ D r=>?_⟩;have I:D≠c:=λ z=>by rw[z,qc1] at r;cases r
 have g:H D=none:=by rw[qd1 I] at r;exact r
 refine qX2 (K:=K) (xs:=d.map V.int) (λ i σ H1=>∃ v,σ=[v]/\H1=upd (upd H c (.l (d.map V.int))) D (.l (((d.take i).map λ n=>if n < 0 then -n else n).map V.int))) ⟨none,rfl,rfl⟩ ?_ ?_ ?_
 . rintro i σ H1 _ ⟨v,rfl,rfl⟩
   refine SqL.of ?_;rw[qd1 I.symm,qc1]
 . rintro i x σ H1 j ⟨v,rfl,rfl⟩
   obtain⟨n,u,rfl⟩:∃ n,d[i]? = some n/\V.int n=x:=by
     rw[zB3] at j;cases e:d[i]? with
     | none=>rw[e] at j;cases j
     | some z=>rw[e] at j;exact⟨z,rfl,Nm j⟩
   refine⟨_,rfl,_,rfl,_,qc1,?_,_,rfl,?_⟩
   . rw[zAg,zAg,zBk]
     exact qao0 (by lia)
   rw[qaG7];congr 1;rw[zBq,u];simp
 rintro σ H1 ⟨v,rfl,rfl⟩;rw[zAg,zAr (zA2 _)];refine⟨by show 4<=Jq;decide,λ p f=>?_⟩;have q:p≠D:=λ z=>by rw[z,qc1] at f;cases f
 rw[qd1 q] at f;have y:p≠c:=λ z=>by rw[z,qc1] at f;cases f
 rw[qd1 y] at f;refine k p D _ f g (λ b o e=>?_) ⟨0,1234567891,0,d.map λ n=>if n < 0 then -n else n,qc1,?_,by decide,by decide,by decide,by decide,?_⟩
 . rw[qd1 (qe5 e f),qd1 (qe5 e g),qd1 (qe5 e N)]
   exact e
 . rw[qd1 q.symm,qc1]
 intro n u;obtain⟨m,_,rfl⟩:=zBc.mp u
 split<;>lia
theorem qs8:qa9 ["_law_bag_here", "_law_many", "_law_cell", "_law_value", "_law_first", "_law_second"] ["_law_bag_here", "_law_many"] (qa3 qad3):=by walk_at "s"
theorem qb3(T:Txt K mg a):VFn P w K mg base 1 a.f35 a.d35 ["_law_bag_here", "_law_many"] qO8:=by
 refine VFn.mk' T.d35.F qs8 (wOf [true,true]) (λ r Q Q' u J L _ h=>by obtain⟨b,m,g,e,H,A,M,q⟩:=h;exact⟨b,m,g,e,H,A,M,λ v N O R B=>L _ _ (q v N O R B)⟩) (λ r Q u ⟨b,m,g,e,_⟩=>by rw[e];rfl) (λ r Q u h=>by obtain⟨b,m,g,e,⟨x,y,z,S,_⟩,_⟩:=h;rw[e,S];rfl) (λ _ _ _ _ _ _ _ U=>⟨_,(Ac (sif (q2 (Am (qn6 U.u64) (qb0 _)) Bm (v2 (Aw qb4) An (vnm 0) Af) Af) (Ac (Al 2 qs8.nd (qa4 Af)) (Ac (sif (q2 (Am Hv (qb0 _)) Im (v2 (Aw qb4) An (vnm 0) Af) (vbi ql4 ql3.ops T.Ca (qa2 (v2 (Aw qb4) An (vnm 0) Af) qa6 rfl))) (Ag (Al 2 qs8.nd (qb5 (v2 (Aw qb4) An (v2 (Aw qb4) An (vnm 0) Af) (v2 (Aw qb4) An (vnm 0) Af))))) Av) (Ac (saug (vpn 0) Af Af qaW4) (Ac (sif (q2 (Am Gr (qb0 _)) Iq (vnm 2) Af) (Ag (Fc (qb5 (vnm 2)) (Ec (vpn 0) Af))) Av) (Ag (Fc (qa4 (v2 (Ak qp3) qp2 (v2 (Ak qg4) qg3 (v2 (Ak qg4) qg3 (v2 (Ak qv6) qv5 (v2 (Aw qb4) An (vnm 0) Af) Af) (v2 (Ak qp3) qp2 (vnm 2) Af)) (v2 (Ak qv6) qv5 Af (v2 (Aw qb4) An (vnm 0) Af))) Af)) (Ec (vpn 0) Af))))))) Av) (Ac (sif (q2 (Am Da (qb0 _)) Dc (v2 (Aw qb4) An (vnm 0) Af) Af) (Ac (Al 3 qs8.nd (qa4 (v2 (Ak qp3) qp2 (v2 (Aw qb4) An (vnm 0) Af) (vnm 1)))) (Ac (Fc (qa4 (v2 (Ak qQ3) qaB9 (v2 (Aw qb4) An (vnm 0) Af) (vnm 1))) (Ec (vpn 0) Af)) (Ag (Aq (emv 3))))) Av) (Ac (Al 4 qs8.nd (qa4 (v2 (Ak qp3) qp2 (v2 (Ak qv6) qv5 (v2 (Ak qg4) qg3 (v2 (Aw qb4) An (vnm 0) Af) Af) Af) Af))) (Ac (Al 5 qs8.nd (qa4 (v2 (Ak qp3) qp2 (v2 (Ak qv6) qv5 (v2 (Ak qp3) qp2 (v2 (Ak qv6) qv5 (vnm 4) (vnm 4)) Af) Af) Af))) (Ac (sif (q2 (Am Da (qb0 _)) Dc (vnm 1) Af) (Ag (Aq (qa4 (v2 (Ak qp3) qp2 (v2 (Ak qg4) qg3 (v2 (Ak qv6) qv5 (vnm 5) Af) (vnm 4)) (vnm 1))))) Av) (Ag (Aq (qa4 (v2 (Ak qp3) qp2 (v2 (Ak qQ3) qaB9 (vnm 5) Af) (vnm 1)))))))))),λ r Q u h=>?_⟩);obtain⟨b,m,g,rfl,⟨x,y,z,rfl,B⟩,p,C,k⟩:=h;refine At [bagD x y z g,.int m,.u,.u,.u,.u] rfl ?_;refine qb8 (λ r=>∃ j o t c,r=[bagD j o t g,.int m,c,.u,.u,.u]/\Bg j o t g) (λ K l=>?_) ?_
 . refine if_v (b:=decide (x=0)) rfl (λ _=>?_) (λ _=>l _ ⟨x,y,z,_,rfl,B⟩)
   refine qb1 [bagD x y z g,.int m,.int 0,.u,.u,.u] (λ K l=>l) ?_;refine qb8 (λ r=>∃ c:Int,0<=c/\r=[bagD x y z g,.int m,.int c,.u,.u,.u]) (λ K l=>?_) ?_
   . refine if_v (b:=decide (z < (((g.map D.int).length:Nat):Int))) rfl (λ A=>?_) (λ _=>l _ ⟨0,by decide,rfl⟩)
     obtain⟨v,V,e⟩:=qM8 (xs:=g.map D.int) (i:=z) B.z0 (zAe A);obtain⟨c,E,rfl⟩:=zBc.mp V;exact qT4 (Ae (y:=.int z) (x:=.l false (g.map .int)) rfl rfl e) rfl (l _ ⟨c,B.nn c E,rfl⟩)
   rintro r ⟨c,E,rfl⟩;refine qb1 [bagD x y (z+1) g,.int m,.int c,.u,.u,.u] (λ K l=>?_) ?_
   . exact qaZ4 (k:=2) (x:=z) (y:=1) (ys:=[.int x,.int y,.int z,.l false (g.map .int)]) rfl rfl (by decide) rfl rfl l
   refine qb8 (λ r=>∃ j:Int,0<=j/\r=[bagD j y (z+1) g,.int m,.int c,.u,.u,.u]) (λ K l=>?_) ?_
   . refine if_v (b:=decide (1000000000000000000<=c)) rfl (λ _=>?_) (λ _=>l _ ⟨x,B.x0,rfl⟩)
     exact qI5 (d:=.int c) (ys:=[.int x,.int y,.int (z+1),.l false (g.map .int)]) (k:=0) (n:=0) rfl rfl rfl rfl rfl (l _ ⟨c,E,rfl⟩)
   rintro r ⟨j,G,rfl⟩;have W:f2 Hg (f2 Gc (f2 Gc (f2 Hf (f2 gIx (rdN 0) (kC (.int 1))) (kC (.int 48271))) (f2 Hg (rdN 2) (kC (.int 2147483647)))) (f2 Hf (kC (.int 7919)) (f2 gIx (rdN 0) (kC (.int 2))))) (kC (.int 2147483647)) [bagD j y (z+1) g,.int m,.int c,.u,.u,.u]=some (.int ((y * 48271+c % 2147483647+7919 * (z+1)) % 2147483647)) :=
     Ae (Ae (Ae (Ae (x:=.int y) rfl rfl (Ji (by decide))) (Ae rfl rfl (Eg (by decide))) rfl) (Ae (y:=.int (z+1)) rfl rfl (mulL (by decide))) rfl) rfl (Eg (by decide))
   exact qT1 (ys:=[.int j,.int y,.int (z+1),.l false (g.map .int)]) (k:=1) (n:=1) W rfl rfl rfl (l _ ⟨j,_,z+1,_,rfl,G,Int.emod_nonneg _ (by decide),zCf _ (by decide),by have:=B.z0;lia,B.nn⟩)
 rintro r ⟨j,o,t,c,rfl,B'⟩;refine qj1 (decide (0 < j)) rfl (λ H=>?_) λ _=>?_
 . refine qb1 [bagD j o t g,.int m,c,.int (j % m),.u,.u] (λ K l=>qa0 (Ae (x:=.int j) rfl rfl (Eg p)) l) ?_
   refine qb1 [bagD (j / m) o t g,.int m,c,.int (j % m),.u,.u] (λ K l=>?_) ?_
   . exact qT1 (ys:=[.int j,.int o,.int t,.l false (g.map .int)]) (k:=0) (n:=0) (Ae (x:=.int j) rfl rfl (qaF1 p C)) rfl rfl rfl l
   exact k (j % m) _ (Int.emod_nonneg _ (by lia)) (zCf _ p) ⟨_,_,_,rfl,Int.ediv_nonneg B'.x0 (by lia),B'.y0,B'.y1,B'.z0,B'.nn⟩
 have X:0<=(o+1) * 39373 % 1000000007:=Int.emod_nonneg _ (by decide);have f1:(o+1) * 39373 % 1000000007 < 1000000007:=zCf _ (by decide);refine qb1 [bagD j o t g,.int m,c,.u,.int ((o+1) * 39373 % 1000000007),.u] (λ K l=>qa0 (Ae (Ae (Ae (x:=.int o) rfl rfl rfl) rfl (Ji (by decide))) rfl (Eg (by decide))) l) ?_;generalize (o+1) * 39373 % 1000000007=f at X f1;refine qb1 [bagD j o t g,.int m,c,.u,.int f,.int (f * f % 998244353 * 30011 % 998244353)] (λ K l=>qa0 (Ae (Ae (Ae (Ae rfl rfl (mulL (qac6 (by lia) (by lia)))) rfl (Eg (by decide))) rfl (Ji (by decide))) rfl (Eg (by decide))) l) ?_;generalize f * f % 998244353 * 30011 % 998244353=s;have I:∀ v,Q (.int (v % m)) [bagD j o t g,.int m]:=λ v=>k _ _ (Int.emod_nonneg _ (by lia)) (zCf _ p) ⟨_,_,_,rfl,B'⟩
 refine qj1 (decide (1000000 < m)) rfl (λ _=>?_) λ _=>?_
 . exact qf3 _ (Ae (Ae (Ae rfl rfl (Ji (by decide))) rfl rfl) rfl (Eg p)) (I _)
 exact qf3 _ (Ae (Ae rfl rfl (qaF1 (by decide) (by decide))) rfl (Eg p)) (I _)
theorem qaz8:qa9 ["_law_plan", "_law_key"] ["_law_plan", "_law_key"] (qa3 qad4):=by walk_at "s"
def qaz4:VSp:=Ay λ ds d=>∃ n wr ps k,ds=[Op n wr ps,.int k]/\1<=n/\(ps.map (·.1)).Nodup/\d=.int (qc7 n ps k)
theorem qaf8(T:Txt K mg a):VFn P w K mg base 1 a.f36 a.d36 ["_law_plan", "_law_key"] qaz4:=by
 refine VFn.mk2 T.d36.F qaz8 (wOf [true,true]) qb2 (by walk_at "l") (λ _ _ _ _ _ _ _ c=>⟨_,(Ag (Aq (qa4 (v2 (Ak qp3) qp2 (vget (hu_of c) (Fv (qM7 rfl) qax5.ops T.Cy (qa2 (v2 (Aw qb4) An (vnm 0) Af) qa6 rfl)) (vnm 1) (vnm 1) ⟨rfl,rfl,rfl,rfl⟩) (v2 (Aw qb4) An (vnm 0) Af))))),λ g Q i h=>?_⟩);obtain⟨d,⟨n,wr,b,k,rfl,j,e,rfl⟩,q⟩:=h;have f:Ba (fx1 G0) (A6 (f2 gIx (rdN 0) (kC (.int 2))) λ _=>some []) [Op n wr b,.int k]=some (.dct false (kvD b)):=by
   show G0 (.l true (Ov b))=_;exact qax3 e
 exact qf3 _ (Ae (qaj5 f rfl) (y:=.int n) rfl (Eg (by lia))) q
theorem qe3:qa9 ["_law_plan", "_law_keys", "_law_homes", "_law_found", "_law_on", "_law_turn", "_law_room"] ["_law_plan", "_law_keys"] (qa3 qy7):=by walk_at "s"
theorem qas6{n:Int}{ps:Pr}(a:1<=n){z:Bool}(ks:List Int)(r:Nat):Hl (.l z (Ot (ks.map (qc7 n ps)))) (.int (r:Nat))=some (.int (E8 (Oq n ps) ks r:Nat)):=by
 show ((flats (Ot (ks.map (qc7 n ps)))).bind λ b=>some (D.int (b.countP (λ z=>eqV z (.int (r:Nat))):Nat)))=_;rw[qA1];show some (D.int (((ks.map (qc7 n ps)).map V.int).countP (λ z=>eqV z (.int (r:Nat))):Nat))=_;congr 3;unfold E8;rw[Mx,Mx,List.countP_eq_length_filter];congr 1;refine Li λ k _=>?_
 show decide (qc7 n ps k=(r:Nat))=_
 have:=qL3 (ps:=ps) a k
 exact zC1.mpr (by lia)
def onT(n:Int)(ps:Pr)(ks:List Int):Nat->Int:=onC (cR n.toNat (Oq n ps) ks)
def Bd(n:Int)(ps:Pr)(ks:List Int)(i m:Nat):List Int:=(Kz m).map λ r=>onT n ps ks (n.toNat * i+r+1)
theorem qJ9{n:Int}{ps:Pr}{m:Nat}:Bd n ps ks i m++[onT n ps ks (n.toNat * i+m+1)]=Bd n ps ks i (m+1):=by
 unfold Bd;rw[Ma,zBf];rfl
def qZ3:VSp:=Ay λ ds d=>∃ n wr ps z ks,ds=[Op n wr ps,.l z (Ot ks)]/\1<=n/\n<=64/\(ps.map (·.1)).Nodup/\ks.length<=200/\d=.l false (Ot (Bd n ps ks wr.toNat n.toNat))
theorem qaa2(T:Txt K mg a):VFn P w K mg base 2 a.f37 a.d37 ["_law_plan", "_law_keys"] qZ3:=by
 refine VFn.mk2 T.d37.F qe3 (wOf [true,true]) qb2 (by walk_at "l") (λ _ _ _ _ _ _ _ L=>⟨_,(Ac (scN (NY:=["_law_key", "_law_plan"]) (src:=[none,some 0]) 2 1 qe3.nd (blk (λ B C E H0 G=>(Be 0 (show (["_law_key", "_law_plan"]:List Str).Nodup by decide +kernel))) (λ B C E H0 G=>Fk) (λ B C E H0 G=>(Ah T.d36 (qaf8 T) qt9 (rm L) (vaN 1 (vaN 0 Ad)))))) (Ac (Al 3 qe3.nd (qa4 (Bl qa6))) (Ac (Al 4 qe3.nd (qa4 Af)) (Ac (qJ2 Nn T.Ci (Du (vaV (qa4 (v2 (Ak qg4) qg3 Af (Fv qX6 qaP8.ops T.Ct (qa2 (v2 (Aw qb4) An (vnm 0) Af) qa6 rfl)))) Ad)) (Be 5 qe3.nd) (Ac (Al 3 qe3.nd (qa4 (Bl qa6))) (Ag (qJ2 Nn T.Ci (Du (vaV (qb5 (v2 (Aw qb4) An (vnm 0) Af)) Ad)) (Be 6 qe3.nd) (Ac (Al 4 qe3.nd (qa4 (vbi (qX5 rfl) qax4.ops T.D2 (qa2 Af (qa2 (v2 (Ak qv7) qv4 (v2 (Ak qg4) qg3 (vnm 4) (vbm qaL0 Nq Nz N7 qag5 (vnm 2) (vnm 6) qax7)) Af) qa6 rfl) rfl)))) (Ag (Bc (Bi 3 qn8 Nq Nr Nt qc0 (vaV (qb5 (vnm 4)) Ad))))))))) (Ag (Aq (emv 3))))))),λ f Q Y h=>?_⟩);obtain⟨d,⟨n,wr,b,z,c,rfl,H,Z,M,hl,rfl⟩,q⟩:=h;refine At [Op n wr b,.l z (Ot c),.u,.u,.u,.u,.u] rfl ?_;refine qb1 [Op n wr b,.l z (Ot c),kL (c.map (qc7 n b)),.u,.u,.u,.u] (λ K o=>qe7 (qa0 (a:=D.l z (Ot c)) rfl (qa0 (a:=Ot c) rfl ⟨qh9 c,?_⟩))) ?_
 . refine ql0 (λ ι=>∃ d,ι=[d,Op n wr b]) (λ x=>some (match x with | .int k=>.int (qc7 n b k) | d=>d)) _ [] _ (by show 0+_ < 1000000;rw[qf4];lia) ⟨_,rfl⟩ ?_ ?_
   . rintro y N ι O ⟨d,rfl⟩ R S s
     obtain⟨k,_,rfl⟩:=zBc.mp N;exact qm4 (qam2 (B8 rfl (qK8 (x:=Op n wr b) (y:=.int k) (d:=.int (qc7 n b k)) rfl rfl rfl ⟨n,wr,b,k,rfl,H,M,rfl⟩ rfl ⟨s,S [.int k,Op n wr b] ⟨_,rfl⟩⟩)))
   rintro ι ⟨d,rfl⟩;rw[zB5,qak0];have U:((Ot c).map λ x=>match x with | .int k=>D.int (qc7 n b k) | d=>d)=Ot (c.map (qc7 n b)):=by unfold Ot;rw[K7,K7];rfl
   rw[U];exact o
 generalize t:kL (c.map (qc7 n b))=p;refine qb1 [Op n wr b,.l z (Ot c),p,.l false [],.u,.u,.u] (λ K o=>o) ?_;refine qb1 [Op n wr b,.l z (Ot c),p,.l false [],.int 0,.u,.u] (λ K o=>o) ?_;refine qb8 (λ f=>∃ I r m,f=[Op n wr b,.l z (Ot c),p,kL (Bd n b c wr.toNat n.toNat),I,r,m]) (λ K o=>?_) ?_
 . refine qV9 (n:=((1+wr.toNat:Nat):Int)) (by cases wr<;>rfl) (qR1 (by lia) (by cases wr<;>decide)) ?_
   refine qd7 (λ i f=>∃ F r m,f=[Op n wr b,.l z (Ot c),p,.l false F,.int (onT n b c (n.toNat * i)),r,m]/\(0 < i->F=Ot (Bd n b c (i - 1) n.toNat))) _ 0 _ ⟨_,_,_,rfl,λ h=>absurd h (by lia)⟩ ?_ ?_
   . rintro i x A f ⟨F,r,m,rfl,_⟩ K2 u
     rw[zAb] at u ⊢;obtain⟨hi,rfl⟩:=qF6 A;refine qm4 (At [Op n wr b,.l z (Ot c),p,.l false F,.int (onT n b c (n.toNat * i)),.int (i:Nat),m] rfl ?_);refine qb1 [Op n wr b,.l z (Ot c),p,.l false [],.int (onT n b c (n.toNat * i)),.int (i:Nat),m] (λ K o=>o) ?_;refine qR7 (n:=n) rfl (qR1 (by lia) (by lia)) ?_;refine qd7 (λ j f=>∃ m,f=[Op n wr b,.l z (Ot c),p,kL (Bd n b c i j),.int (onT n b c (n.toNat * i+j)),.int (i:Nat),m]) _ 0 _ ⟨_,rfl⟩ ?_ ?_
     . rintro j x A f ⟨m,rfl⟩ K3 v
       rw[zAb] at v ⊢;obtain⟨V,rfl⟩:=qF6 A;refine qm4 (At [Op n wr b,.l z (Ot c),p,kL (Bd n b c i j),.int (onT n b c (n.toNat * i+j)),.int (i:Nat),.int (j:Nat)] rfl ?_);refine qb1 [Op n wr b,.l z (Ot c),p,kL (Bd n b c i j),.int (onT n b c (n.toNat * i+j+1)),.int (i:Nat),.int (j:Nat)] (λ K o=>qq7 ?_ o) ?_
       . have W:Hl p (.int (j:Nat))=some (.int (E8 (Oq n b) c j:Nat)):=by rw[<- t];exact qas6 H c j
         have e:=Ae (g:=gSub) (y:=.int 1) (Ae (g:=Gc) (fa:=rdN 4) (ds:=[Op n wr b,.l z (Ot c),p,kL (Bd n b c i j),.int (onT n b c (n.toNat * i+j)),.int (i:Nat),.int (j:Nat)]) (x:=.int (onT n b c (n.toNat * i+j))) rfl (Ae (g:=Hl) (fa:=rdN 2) (fb:=rdN 6) (by rw[<- t];rfl) rfl W) rfl) (fb:=kC (.int 1)) rfl rfl;unfold Ba A6;rw[e];have X:cR n.toNat (Oq n b) c (n.toNat * i+j)=E8 (Oq n b) c j:=by unfold cR;rw[Nat.mul_add_mod,zCe V]
         show some (D.int (if onT n b c (n.toNat * i+j)+(E8 (Oq n b) c j:Nat) - 1 > 0 then onT n b c (n.toNat * i+j)+(E8 (Oq n b) c j:Nat) - 1 else 0))=some (D.int (if onC (cR n.toNat (Oq n b) c) (n.toNat * i+j)+(cR n.toNat (Oq n b) c (n.toNat * i+j):Int) - 1 > 0 then onC (cR n.toNat (Oq n b) c) (n.toNat * i+j)+(cR n.toNat (Oq n b) c (n.toNat * i+j):Int) - 1 else 0));rw[X];rfl
       refine qY4 (ys:=Ot (Bd n b c i j)) (d:=.int (onT n b c (n.toNat * i+j+1))) rfl rfl rfl (by rw[qf4];unfold Bd big;rw[zAg,zB4];lia) ?_;rw[qD8,qJ9];exact v _ ⟨_,rfl⟩
     rintro f ⟨m,rfl⟩;rw[zAb,qL0,show n.toNat * i+n.toNat=n.toNat * (i+1) by rw[Nat.mul_add,Nat.mul_one]];exact u _ ⟨_,_,_,rfl,λ _=>rfl⟩
   rintro f ⟨F,r,m,rfl,J⟩;rw[zAb,qL0,Int.toNat_natCast] at J;rw[J (by lia),show 1+wr.toNat - 1=wr.toNat by lia];exact o _ ⟨_,_,_,rfl⟩
 rintro f ⟨I,r,m,rfl⟩;exact q
theorem qe4:qa9 ["_law_plan", "_law_keys", "_law_passing_here", "_law_begin", "_law_found", "_law_at", "_law_on", "_law_key"] ["_law_plan", "_law_keys"] (qa3 qF5):=by walk_at "s"
theorem qaw2:∀ ps:List (Int×Int),(Ov ps).mapM Ho=some ps
 | []=>rfl
 | p::r=>by
   show List.mapM Ho (D.q [.int p.1,.int p.2]::Ov r)=_;rw[M4,qaw2 r];rfl
theorem qan8{z:Bool}{L:Pr}{f:Int->Int}{S:List Int}(e:L=S.map λ k=>(f k,k))(a:S.Nodup)(b:S.length<=64):qax0 (.l z (Ov L))=some (.l false (Ov (Dh L))):=by
 show ((Ov _).mapM Ho).bind _=_;rw[qaw2];refine ql2 ⟨?_,by rw[e,zAg];exact b⟩;rw[e];exact zC9.mpr (a.imp λ h z=>h (congrArg Prod.snd z))
theorem qaf4{f:Int->Nat}:((Dh (ks.map λ k=>(((f k:Nat):Int),k))).map (·.2)).Perm ks:=by
 have h:((Dh (ks.map λ k=>(((f k:Nat):Int),k))).map (·.2)).Perm ((ks.map λ k=>(((f k:Nat):Int),k)).map (·.2)):=(Mj _ _).map _;rw[K7] at h;have e:ks.map ((·.2) ∘ λ k=>(((f k:Nat):Int),k))=ks:=List.map_id ks;rwa[e] at h
theorem qaf5{f:Int->Nat}{p:Int×Int}(a:p∈Dh (ks.map λ k=>(((f k:Nat):Int),k))):p.1=(f p.2:Nat):=by
 rw[List.mem_mergeSort] at a;obtain⟨k,_,rfl⟩:=zBc.mp a;rfl
theorem qaT3{f:Int->Nat}(b:ks.Nodup):((Dh (ks.map λ k=>(((f k:Nat):Int),k))).map (·.2)).Pairwise (Ih f):=by
 have a:=(qaf4 (f:=f)).nodup_iff.mpr b;unfold List.Nodup at a;rw[zC9] at a ⊢;refine((qac5 _).and a).imp_of_mem λ{p q} c d h=>?_
 have g:=qaf5 c;have i:=qaf5 d;have e:=h.1;simp only[S6.plt,decide_eq_false_iff_not] at e;have j:=h.2;unfold Ih;lia
theorem qaW7{z:Bool}:∀{L R:List Int},¬ k∈L->I8 (.l z (Ot (L++k::R))) (.int k)=some (.int (L.length:Nat)):=by
 intro L R h;have e:Bs (.int k) ((L++k::R).map V.int)=some L.length:=by
   induction L with
   | nil=>show (if decide (k=k)=true then some 0 else _)=_;rw[if_pos (zAl rfl)];rfl
   | cons a L b =>
     rw[zAo,not_or] at h;show (if decide (a=k)=true then some 0 else (Bs (.int k) ((L++k::R).map V.int)).map (· + 1))=_;rw[if_neg (by simpa using λ z=>h.1 z.symm),b h.2];rfl
 show ((flats (Ot (L++k::R))).bind λ c=>(Bs (.int k) c).map λ j=>D.int (j:Nat))=_;rw[qA1];show (Bs (.int k) ((L++k::R).map V.int)).map (λ j=>D.int (j:Nat))=_;rw[e];rfl
theorem qaf1{n:Int}{ps:Pr}{z:Bool}(h:1<=n):gIx (.l z (Ot (Bd n ps ks i n.toNat))) (.int (-1))=some (.int (onT n ps ks (n.toNat * i+n.toNat))):=by
 obtain⟨m,e⟩:∃ m,n.toNat=m+1:=⟨n.toNat - 1,by lia⟩
 have e2:Bd n ps ks i n.toNat=Bd n ps ks i m++[onT n ps ks (n.toNat * i+m+1)]:=by rw[qJ9,e]
 rw[e2,show n.toNat * i+n.toNat=n.toNat * i+m+1 by lia];unfold Ot;rw[zBf];exact qaF8 _ _
def qac4:VSp:=λ ds Q _=>∃ n wr ps z ks,ds=[Op n wr ps,.l z (Ot ks)]/\1<=n/\n<=64/\(ps.map (·.1)).Nodup/\ks.Nodup/\ks.length<=200 /\
 ((∃ q,Crowd n.toNat wr (Oq n ps) ks q)->Q .non ds)/\((∀ q,¬ Crowd n.toNat wr (Oq n ps) ks q)->∀ g,Kept n.toNat wr (Oq n ps) g ks->Q (rL n g) ds)
theorem qr6(T:Txt K mg a):VFn P w K mg base 3 a.f38 a.d38 ["_law_plan", "_law_keys"] qac4:=by
 refine VFn.mk2 T.d38.F qe4 (wOf [true,true]) (by walk_at "m") (by walk_at "l") (λ _ _ _ _ _ _ _ u=>⟨_,(Ac (sif (q2 (Am Da (qb0 _)) Dc (vbi ql4 ql3.ops T.Ca (qa2 (vnm 1) qa6 rfl)) (v2 (Aw qb4) An (vnm 0) Af)) (Ag (Aq (qa4 Bb))) Av) (Ac (Al 2 qe4.nd (Ah T.d37 (qaa2 T) qa1 (rm u) (vaN 0 (vaN 1 Ad)))) (Ac (sif (Hj (Br (tv (v2 (Aw qb4) An (vnm 0) Af))) (Fg (q2 (Am Da (qb0 _)) Dc (v2 (Aw qb4) An (vnm 2) (vneg Af)) Af))).te (Ag (Aq (qa4 Bb))) Av) (Ac (Al 3 qe4.nd (qa4 Af)) (Ac (sif (tv (v2 (Aw qb4) An (vnm 0) Af)) (Ag (Al 3 qe4.nd (qa4 (v2 (Ak qg4) qg3 (vbm qaB8 Nq Nu Nv qG3 (vnm 2) Af qaj0) Af)))) Av) (Ac (Al 4 qe4.nd (qa4 (v2 (Ak qv6) qv5 (Bl (qa2 Bb qa6 rfl)) (v2 (Aw qb4) An (vnm 0) Af)))) (Ac (Al 5 qe4.nd (qa4 (vneg Af))) (Ac (G4 Nn (ebi qal0 qaF2.ops T.Cw (Du (vaV (ecN (NY:=["_law_key", "_law_begin", "_law_plan"]) (src:=[none,some 3,some 0]) 1 (blk (λ av C s0 H0 ex=>(Be 0 (show (["_law_key", "_law_begin", "_law_plan"]:List Str).Nodup by decide +kernel))) (λ av C s0 H0 ex=>Fk) (λ av C s0 H0 ex=>(Iy (vaV (e2v (Ak qp3) qp2 (e2v (Ak qv7) qv4 (Ah T.d36 (qaf8 T) qt9 (rm u) (vaN 2 (vaN 0 Ad))) (vnm 1)) (v2 (Aw qb4) An (vnm 2) Af)) (vaV (qb5 (vnm 0)) Ad)))))) Ad))) (G3 (n:=2) rfl (qL9 (Be 6 qe4.nd) (qL9 (Be 7 qe4.nd) G2))) (Ac (Al 5 qe4.nd (qa4 (vbi (qX5 rfl) qax4.ops T.D2 (qa2 (v2 (Ak qg4) qg3 (vnm 5) Af) (qa2 (vnm 6) qa6 rfl) rfl)))) (Ag (Fc (qb5 (vnm 7)) (Ec (vpn 4) (v2 (Ak qp3) qp2 (v2 (Ak qg4) qg3 (vnm 3) (vnm 5)) (v2 (Aw qb4) An (vnm 0) Af))))))) (Ag (Aq (emv 4))))))))))),λ v Q xe h=>?_⟩);obtain⟨n,wr,j,z,o,rfl,M,n2,nd,N,hl,q,q'⟩:=h;have B:=D7 (ps:=j) M;have oc:=qap1 (T:=o) (by lia) B;refine At [Op n wr j,.l z (Ot o),.u,.u,.u,.u,.u,.u] rfl ?_;refine qj1 (decide (n < (o.length:Int))) (Ae (qm1 rfl) (y:=.int n) rfl (by rw[qf4];rfl)) (λ h=>qf3 .non rfl (q ⟨0,by lia,?_⟩)) λ h=>?_
 . have h:=zAe h
   cases wr with
   | true=>rw[if_pos rfl];exact⟨rfl,by lia⟩
   | false=>rw[if_neg (by decide),List.filter_eq_self.mpr λ _ _=>zAl (zBl _)];lia
 have a0:o.length<=n.toNat:=by have:=zB9 h;lia
 refine qb1 [Op n wr j,.l z (Ot o),kL (Bd n j o wr.toNat n.toNat),.u,.u,.u,.u,.u] (λ K t=>qe7 (qK8 (x:=Op n wr j) (y:=.l z (Ot o)) rfl rfl rfl ⟨n,wr,j,z,o,rfl,M,n2,nd,hl,rfl⟩ rfl t)) ?_;refine qh2 (!wr&&decide (0 < onT n j o (n.toNat * wr.toNat+n.toNat))) (λ Q q=>qg6 (!wr) (decide (0 < onT n j o (n.toNat * wr.toNat+n.toNat))) (λ Q q=>qw2 (b:=wr) rfl q) (λ _ Q q=>qf6 (Ae (Ae rfl rfl (qaf1 M)) rfl rfl) q) q) (λ h=>qf3 .non rfl (q ?_)) λ h=>?_
 . cases wr with
   | true=>cases h
   | false =>
     have h:=zAe h;rw[show n.toNat * false.toNat+n.toNat=n.toNat by show n.toNat * 0+_=_;lia] at h;exact oc.mp h
 refine qb1 [Op n wr j,.l z (Ot o),kL (Bd n j o wr.toNat n.toNat),.int 0,.u,.u,.u,.u] (λ K t=>t) ?_;refine qb8 (λ v=>∃ s:Nat,v=[Op n wr j,.l z (Ot o),kL (Bd n j o wr.toNat n.toNat),.int (s:Nat),.u,.u,.u,.u]/\s<=n.toNat/\(wr=false->s=0)/\(∀ q,¬ Crowd n.toNat wr (Oq n j) o q)/\∀ q,¬ Crowd n.toNat false (λ k=>Ab n.toNat (s % n.toNat) (Oq n j k)) o q) (λ K t=>?_) ?_
 . refine if_v (b:=wr) rfl (λ E=>?_) λ E=>t _ ⟨0,rfl,by lia,λ _=>rfl,?_,?_⟩
   . subst E
     obtain⟨r,u,h0⟩:=qaC1 (T:=o) (by lia) B a0;have hm:(0:Int)∈Bd n j o 1 n.toNat:=zBc.mpr ⟨r,zAs.mpr u,by rw[Nat.mul_one];exact h0⟩;obtain⟨L,R,O,nL⟩:=List.eq_append_cons_of_mem hm;have S:L.length < n.toNat:=by
       have:=congrArg K5 O
       unfold Bd at this;simp at this;lia
     have Y:onT n j o (n.toNat+L.length+1)=0:=by
       have:(Bd n j o 1 n.toNat)[L.length]? = some 0:=by rw[O];simp
       unfold Bd at this;rw[zB3,List.getElem?_range S,Nat.mul_one] at this;exact Nm this
     refine qq7 (d:=.int ((L.length+1:Nat):Int)) (Ae (g:=Gc) (y:=.int 1) (Ae (g:=I8) (x:=kL (L++0::R)) (y:=.int 0) (by rw[<- O];rfl) rfl (qaW7 nL)) rfl rfl) (t _ ⟨L.length+1,rfl,by lia,λ h=>absurd h (by decide),λ q c=>?_,qK4 S B Y⟩);have c:=c.2;rw[if_pos rfl] at c;lia
   . subst E
     have h:decide _=false:=h;rw[show n.toNat * false.toNat+n.toNat=n.toNat by show n.toNat * 0+_=_;lia] at h;exact λ q c=>zB9 h (oc.mpr ⟨q,c⟩)
   subst E;have h:decide _=false:=h;rw[show n.toNat * false.toNat+n.toNat=n.toNat by show n.toNat * 0+_=_;lia] at h;rw[Nat.zero_mod,show (λ k=>Ab n.toNat 0 (Oq n j k))=Oq n j from funext λ k=>Gx];exact λ q c=>zB9 h (oc.mpr ⟨q,c⟩)
 rintro v ⟨s,rfl,hs,E,nc,a1⟩;have G:s % n.toNat < n.toNat:=Nat.mod_lt _ (by lia);generalize eP:kL (Bd n j o wr.toNat n.toNat)=H;refine qb1 [Op n wr j,.l z (Ot o),H,.int (s:Nat),.l false (Ou n.toNat λ _=>none),.u,.u,.u] (λ K t=>qq7 (Ae rfl (y:=.int n) rfl (qR0 (by lia) n2)) t) ?_;refine qb1 [Op n wr j,.l z (Ot o),H,.int (s:Nat),.l false (Ou n.toNat λ _=>none),.int (-1),.u,.u] (λ K t=>t) ?_;refine qb8 (λ v=>∃ g d5 I J,v=[Op n wr j,.l z (Ot o),H,.int (s:Nat),rL n g,d5,I,J]/\Kept n.toNat wr (Oq n j) g o) (λ K t=>?_) ?_
 . refine Jm (qf7 (qa0 (a:=D.l z (Ot o)) rfl (qa0 (a:=Ot o) rfl ⟨qh9 o,?_⟩)))
   refine ql0 (λ ι=>∃ d,ι=[d,.int (s:Nat),Op n wr j]) (λ x=>some (match x with | .int k=>.q [.int (Ab n.toNat (s % n.toNat) (Oq n j k):Nat),.int k] | d=>d)) _ [] _ (by show 0+_ < 1000000;rw[qf4];lia) ⟨_,rfl⟩ ?_ ?_
   . rintro y U ι a4 ⟨d,rfl⟩ R hR V
     obtain⟨k,_,rfl⟩:=zBc.mp U;have this:=hR [.int k,.int (s:Nat),Op n wr j] ⟨_,rfl⟩;refine qm4 (qam2 (B8 rfl (qf7 (qA7 (qA7 (qK8 (x:=Op n wr j) (y:=.int k) (d:=.int (qc7 n j k)) rfl rfl rfl ⟨n,wr,j,k,rfl,M,nd,rfl⟩ rfl ?_))))));refine qa0 (a:=D.int (qc7 n j k - (s:Nat))) rfl (qa0 (a:=D.int (Ab n.toNat (s % n.toNat) (Oq n j k):Nat)) ((Eg (by lia)).trans ?_) (qd8 (y:=.int k) rfl rfl (qb9 ⟨lt2,V,this⟩)));have Y:=qaD1 (B k) hs;rw[qL3 M k,show ((n.toNat:Nat):Int)=n by lia] at Y;rw[Y]
   rintro ι ⟨d,rfl⟩;rw[zB5,qak0];have O:((Ot o).map λ x=>match x with | .int k=>D.q [.int (Ab n.toNat (s % n.toNat) (Oq n j k):Nat),.int k] | d=>d)=Ov (o.map λ k=>((Ab n.toNat (s % n.toNat) (Oq n j k):Nat),k)):=by
     unfold Ot Ov;rw[K7,K7];rfl
   rw[O];have pw:=qaT3 (f:=λ k=>Ab n.toNat (s % n.toNat) (Oq n j k)) N;have Z:=qaf4 (f:=λ k=>Ab n.toNat (s % n.toNat) (Oq n j k)) (ks:=o);have of:=λ p=>qaf5 (f:=λ k=>Ab n.toNat (s % n.toNat) (Oq n j k)) (ks:=o) (p:=p)
   have es:=qan8 (z:=false) (L:=o.map λ k=>(((Ab n.toNat (s % n.toNat) (Oq n j k):Nat):Int),k)) rfl N (by lia);generalize Dh (o.map λ k=>(((Ab n.toNat (s % n.toNat) (Oq n j k):Nat):Int),k))=L at pw Z of es;refine qb9 (qa0 (a:=D.l false (Ov L)) es (qa0 (a:=Ov L) rfl ⟨qL1 L,?_⟩));refine qd7 (λ i v=>∃ g top I J,v=[Op n wr j,.l z (Ot o),H,.int (s:Nat),.l false (Ou n.toNat λ i=>g (Ab n.toNat (s % n.toNat) i)),.int ((top:Nat) - 1:Int),I,J]/\Fill n.toNat (λ k=>Ab n.toNat (s % n.toNat) (Oq n j k)) g ((L.take i).map (·.2)) top) _ 0 _ ⟨_,0,_,_,rfl,Fill.start (by lia) λ k=>qi0 (B k) G⟩ ?_ ?_
   . rintro i y U v ⟨g,top,I,J,rfl,F⟩ K2 W
     rw[zAb] at F W;unfold Ov at U;rw[zB3] at U;obtain⟨⟨h0,k⟩,hp,rfl⟩:=zA9.mp U;obtain rfl:h0=((Ab n.toNat (s % n.toNat) (Oq n j k):Nat):Int):=of _ (zAx hp);have a2:=(zA4.mp hp).1;have a3:L.map (·.2)=((L.take i).map (·.2)++[k])++(L.drop (i+1)).map (·.2):=by
       conv=>lhs;rw[<- zBg i L,Ld a2,(zA4.mp hp).2]
       simp
     have tk:(L.take (i+1)).map (·.2)=(L.take i).map (·.2)++[k]:=by rw[zBq,hp,zBf];rfl
     rw[a3] at pw Z;have A:∀ x∈(L.take i).map (·.2),Ih (λ k=>Ab n.toNat (s % n.toNat) (Oq n j k)) x k:=λ x hx=>(List.pairwise_append.mp (List.pairwise_append.mp pw).1).2.2 x hx k (zAa.mpr rfl)
     have nk:¬ k∈(L.take i).map (·.2):=λ h=>by rcases A k h with z | z<;>lia
     have u:=F.room A λ q c=>a1 q ((c.mono (L6 _ _)).perm Z)
     have F':=F.put nk A u;generalize er:max top (Ab n.toNat (s % n.toNat) (Oq n j k))=r at u F';refine qH1 (At [Op n wr j,.l z (Ot o),H,.int (s:Nat),.l false (Ou n.toNat λ i=>g (Ab n.toNat (s % n.toNat) i)),.int ((top:Nat) - 1:Int),.int (Ab n.toNat (s % n.toNat) (Oq n j k):Nat),.int k] rfl ?_);refine qb1 [Op n wr j,.l z (Ot o),H,.int (s:Nat),.l false (Ou n.toNat λ i=>g (Ab n.toNat (s % n.toNat) i)),.int (r:Nat),.int (Ab n.toNat (s % n.toNat) (Oq n j k):Nat),.int k] (λ K t=>qq7 (d:=.int (r:Nat)) ?_ t) ?_
     . show some (D.int (if ((Ab n.toNat (s % n.toNat) (Oq n j k):Nat):Int) > (top:Nat) - 1+1 then ((Ab n.toNat (s % n.toNat) (Oq n j k):Nat):Int) else (top:Nat) - 1+1))=_
       congr 2
       split<;>lia
     have em:(((s:Nat):Int)+(r:Nat)) % n=(rot n.toNat (s % n.toNat) r:Nat):=by
       have:((s+r:Nat):Int) % ((n.toNat:Nat):Int)=((s+r) % n.toNat:Nat):=by lia
       rw[show ((n.toNat:Nat):Int)=n by lia,Nat.add_mod,zCe u,qau2 G u] at this;rw[<- this];congr 1
     refine qI5 (ys:=Ou n.toNat λ i=>g (Ab n.toNat (s % n.toNat) i)) (d:=.int k) (k:=(rot n.toNat (s % n.toNat) r:Nat)) rfl rfl rfl (Ae (x:=.int ((s:Nat)+(r:Nat))) (y:=.int n) rfl rfl ((Eg (by lia)).trans (by rw[em]))) (Hq (qQ0 G u)) ?_;rw[qF0];have ec:Ou n.toNat (Row.set (λ i=>g (Ab n.toNat (s % n.toNat) i)) (rot n.toNat (s % n.toNat) r) k)=Ou n.toNat λ i=>Row.set g r k (Ab n.toNat (s % n.toNat) i):=qj9 λ i hi=>by
       by_cases e:i=rot n.toNat (s % n.toNat) r
       . subst e;rw[qb7,qq1 G u,qb7]
       rw[qd2 e,qd2 λ z=>e (by rw[<- z,qp1 G hi])]
     refine W _ ⟨_,r+1,.int (Ab n.toNat (s % n.toNat) (Oq n j k):Nat),.int k,?_,by rw[tk];exact F'⟩;rw[<- ec,show (((r+1:Nat):Int) - 1)=((r:Nat):Int) by lia];rfl
   rintro v ⟨g,top,I,J,rfl,F⟩;have X:(Ov L).length=L.length:=zAg _;rw[zAb,X,zBu] at F;refine t _ ⟨_,_,_,_,rfl,?_⟩;have K1:=F.k.of_perm Z;cases wr with
   | true=>exact K1.turn G B
   | false =>
     obtain rfl:=E rfl;rw[Nat.zero_mod] at K1 ⊢;rw[show (λ k=>Ab n.toNat 0 (Oq n j k))=Oq n j from funext λ k=>Gx] at K1;rw[show (λ i=>g (Ab n.toNat 0 i))=g from funext λ i=>by rw[Gx]];exact K1
 rintro v ⟨g,d5,I,J,rfl,KP⟩;exact q' nc g KP
theorem qc3:qa9 ["_law_bag_here", "_law_size", "_law_many", "_law_way", "_law_one", "_law_other", "_law_homes", "_law_k", "_law_some"] ["_law_bag_here", "_law_size", "_law_many"] (qa3 qj8):=by walk_at "s"
def qB2:VSp:=λ ds Q _=>∃ b n m ns,ds=[b,.int n,.int m]/\O3 ns b/\1<=n/\n<=64/\0<=m/\m<=100 /\
 ∀ c a,O3 ns c->(∀ h∈a,0<=h/\h < n)->a.length=m.toNat->Q (kL a) [c,.int n,.u]
theorem qaR5{x y i:Int}(c:0<=i)(h1:i < 2){P:Int->Prop}(d:P x)(e:P y):∃ v,atI [D.int x,D.int y] i=some (.int v)/\P v:=by
 obtain⟨v,a,b⟩:=qM8 (xs:=[D.int x,D.int y]) c h1;simp only[zAo,zC4,or_false] at a;rcases a with rfl | rfl
 . exact⟨x,b,d⟩
 exact⟨y,b,e⟩
theorem qV8{x y z w i:Int}(c:0<=i)(h1:i < 4){P:Int->Prop}(d:P x)(e:P y)(f:P z)(g:P w):∃ v,atI [D.int x,D.int y,D.int z,D.int w] i=some (.int v)/\P v:=by
 obtain⟨v,b,a⟩:=qM8 (xs:=[D.int x,D.int y,D.int z,D.int w]) c h1;simp only[zAo,zC4,or_false] at b;rcases b with rfl | rfl | rfl | rfl
 . exact⟨x,a,d⟩
 . exact⟨y,a,e⟩
 . exact⟨z,a,f⟩
 exact⟨w,a,g⟩
theorem qB9(T:Txt K mg a):VFn P w K mg base 2 a.f39 a.d39 ["_law_bag_here", "_law_size", "_law_many"] qB2:=by
 refine VFn.mk' T.d39.F qc3 (wOf [true,true,true]) (λ c Q Q' M X Y _ h=>by obtain⟨b,n,m,j,e,N,O,R,A,Z,q⟩:=h;exact⟨b,n,m,j,e,N,O,R,A,Z,λ s f S a2 a3=>Y _ _ (q s f S a2 a3)⟩) (λ c Q M h=>by obtain⟨b,n,m,j,e,_⟩:=h;rw[e];rfl) (λ c Q M h=>by obtain⟨b,n,m,j,e,⟨x,y,z,eb,_⟩,_⟩:=h;rw[e,eb];rfl) (λ _ _ _ _ _ _ _ C=>⟨_,(Ac (Al 3 qc3.nd (Ah T.d35 (qb3 T) qa1 (rm C) (vaN 0 (vaV (qa4 Af) Ad)))) (Ac (Al 4 qc3.nd (Ah T.d35 (qb3 T) qa1 (rm C) (vaN 0 (vaN 1 Ad)))) (Ac (Al 5 qc3.nd (Ah T.d35 (qb3 T) qa1 (rm C) (vaN 0 (vaN 1 Ad)))) (Ac (Al 6 qc3.nd (qa4 (Bl qa6))) (Ac (qJ2 Nn T.Ci (Du (vaN 2 Ad)) (Be 7 qc3.nd) (Ac (Al 8 qc3.nd (Hk (vaV (Ah T.d35 (qb3 T) qa1 (rm C) (vaN 0 (vaN 1 Ad))) (vaV (qb5 (vnm 4)) (vaV (e2 (Ak qv7) qv4 (qa4 (v2 (Ak qv7) qv4 (vnm 1) Af)) (Ah T.d35 (qb3 T) qa1 (rm C) (vaN 0 (vaV (qa4 (vbi (qH9 rfl) qak5.ops T.Cv (qa2 Af (qa2 (vnm 1) qa6 rfl) rfl))) Ad)))) (vaV (qa4 (v2 (Aw qb4) An (Bl (qa2 (vnm 4) (qa2 (vnm 5) qa6 rfl) rfl)) (v2 (Ak qp3) qp2 (vnm 7) Af))) Ad)))))) (Ag (Bc (Bi 6 qn8 Nq Nr Nt qc0 (vaV (qb5 (v2 (Aw qb4) An (vnm 8) (vnm 3))) Ad)))))) (Ag (Aq (emv 6)))))))),λ c Q M h=>?_⟩);obtain⟨b,n,m,j,rfl,B,n1,n2,m0,m1,q⟩:=h;refine At [b,.int n,.int m,.u,.u,.u,.u,.u,.u] rfl ?_;refine qb8 (λ c=>∃ b w,c=[b,.int n,.int m,.int w,.u,.u,.u,.u,.u]/\O3 j b/\0<=w/\w < 4) (λ K g=>?_) ?_
 . exact qc4 rfl B rfl (by decide) (by decide) λ v s E G B'=>g _ ⟨s,v,rfl,B',E,G⟩
 rintro c ⟨b,way,rfl,B,w0,w1⟩;refine qb8 (λ c=>∃ b o,c=[b,.int n,.int m,.int way,.int o,.u,.u,.u,.u]/\O3 j b/\0<=o/\o < n) (λ K g=>?_) ?_
 . exact qw7 (m:=n) rfl B rfl (by decide) (by lia) (by lia) λ v s E G B'=>g _ ⟨s,v,rfl,B',E,G⟩
 rintro c ⟨b,o,rfl,B,V,W⟩;refine qb8 (λ c=>∃ b p,c=[b,.int n,.int m,.int way,.int o,.int p,.u,.u,.u]/\O3 j b/\0<=p/\p < n) (λ K g=>?_) ?_
 . exact qw7 (m:=n) rfl B rfl (by decide) (by lia) (by lia) λ v s E G B'=>g _ ⟨s,v,rfl,B',E,G⟩
 rintro c ⟨b,p,rfl,B,p0,p1⟩;refine qb1 [b,.int n,.int m,.int way,.int o,.int p,kL [],.u,.u] (λ K g=>g) ?_;refine qb8 (λ c=>∃ b f t k,c=[b,.int n,.u,.int way,.int o,.int p,kL f,t,k]/\O3 j b/\(∀ h∈f,0<=h/\h < n)/\f.length=m.toNat) (λ K g=>?_) ?_
 . refine qW0 (n:=m) rfl (qR1 (by lia) (by lia)) ?_
   refine qd7 (λ i c=>∃ b f t k,c=[b,.int n,.u,.int way,.int o,.int p,kL f,t,k]/\O3 j b/\(∀ h∈f,0<=h/\h < n)/\f.length=i) _ 0 _ ⟨b,[],_,_,rfl,B,nofun,rfl⟩ ?_ ?_
   . rintro i x hx c ⟨b,f,t,k,rfl,B,U,L⟩ K2 H
     rw[zAb] at L H;obtain⟨hi,rfl⟩:=qF6 hx;refine At [b,.int n,.u,.int way,.int o,.int p,kL f,.int (i:Nat),k] rfl ?_;refine qb8 (λ c=>∃ b u I l r,c=[b,.int n,.u,.int way,.int o,.int p,kL f,.int (i:Nat),.l false [.int u,.int I,.int l,.int r]]/\O3 j b/\(0<=u/\u < n)/\(0<=I/\I < n)/\(0<=l/\l < n)/\(0<=r/\r < n)) (λ K g=>?_) ?_
     . refine qe7 (qG5 (qf7 ?_))
       refine qw7 (ds:=[b,.int n,.u,.int way,.int o,.int p,kL f,.int (i:Nat),k]) (m:=n) rfl B rfl (by decide) (by lia) (by lia) λ u b1 a0 S B1=>?_
       refine qd8 (y:=.int o) rfl rfl (qf7 (qI4 (x:=.int (n - 1)) rfl ?_));refine qc4 (ds:=[b1,.int n,.u,.int way,.int o,.int p,kL f,.int (i:Nat),k]) (m:=if n < 4 then n else 4) rfl B1 rfl (by split<;>lia) (by split<;>lia) λ l b2 c0 c1 B2=>?_
       have c2:l < n:=by revert c1;split<;>lia
       refine qa0 (a:=D.int (n - 1 - l)) rfl ?_;obtain⟨r,e4,A⟩:=qaR5 (x:=o) (y:=p) (i:=((i:Nat):Int) % 2) (by lia) (by lia) (P:=λ v=>0<=v/\v < n) ⟨V,W⟩ ⟨p0,p1⟩;refine qe8 (y:=.int r) (Ae (x:=.l false [.int o,.int p]) rfl (Ae (x:=.int (i:Nat)) (y:=.int 2) rfl rfl (Eg (by decide))) e4) (qb9 ⟨lt4,?_⟩);exact g _ ⟨b2,u,o,n - 1 - l,r,rfl,B2,⟨a0,S⟩,⟨V,W⟩,⟨by lia,by lia⟩,A⟩
     rintro c ⟨b,u,I,l,r,rfl,B,N,O,R,A⟩;obtain⟨v,ev,hv⟩:=qV8 (P:=λ v=>0<=v/\v < n) w0 w1 N O R A;refine qY4 (ys:=Ot f) (d:=.int v) rfl (Ae (x:=.l false [.int u,.int I,.int l,.int r]) rfl rfl ev) rfl (by rw[qf4];unfold big;lia) ?_;rw[qD8];refine H _ ⟨b,f++[v],_,_,rfl,B,λ h J=>?_,by rw[zA6,L];rfl⟩;rcases zA8.mp J with J | J
     . exact U h J
     rw[zAa.mp J];exact hv
   rintro c ⟨b,f,t,k,rfl,h⟩;rw[zAb,qL0] at h;exact g _ ⟨b,f,t,k,rfl,h⟩
 rintro c ⟨b,f,t,k,rfl,B,U,L⟩;exact q b f B U L
theorem qd3:qa9 ["_law_bag_here", "_law_most", "_law_way", "_law_size", "_law_wraps", "_law_many", "_law_told", "_law_great", "_law_keys", "_law_home_here", "_law_key", "_law_homes", "_law_number"] ["_law_bag_here", "_law_most"] (qa3 qP9):=by walk_at "s"
def qan7:VSp:=λ ds Q _=>∃ b M ns,ds=[b,.int M]/\O3 ns b/\1<=M/\M<=64/\∀ a n wr ps ks,O3 ns a->1<=n->n<=64->Ij ps->ks.Nodup->(∀ k∈ks,Aj k)->ks.length<=66->Q (.q [Op n wr ps,kL ks]) [a,.int M]
theorem qay7{x y z i:Int}(c:0<=i)(h1:i < 3){P:Int->Prop}(d:P x)(e:P y)(f:P z):∃ v,atI [D.int x,D.int y,D.int z] i=some (.int v)/\P v:=by
 obtain⟨v,b,a⟩:=qM8 (xs:=[D.int x,D.int y,D.int z]) c h1;simp only[zAo,zC4,or_false] at b;rcases b with rfl | rfl | rfl
 . exact⟨x,a,d⟩
 . exact⟨y,a,e⟩
 exact⟨z,a,f⟩
theorem qaP1{x i:Int}(b:0<=i)(h1:i < 5)(d:0<=x/\x<=64):∃ v,atI [D.int 0,D.int 0,D.int 1,D.int 6,D.int x] i=some (.int v)/\0<=v/\v<=64:=by
 obtain⟨v,a,c⟩:=qM8 (xs:=[D.int 0,D.int 0,D.int 1,D.int 6,D.int x]) b h1;simp only[zAo,zC4,or_false] at a;rcases a with rfl | rfl | rfl | rfl | rfl<;>exact⟨_,c,by lia,by lia⟩
theorem qaJ4{ps:Pr}{m:Int}:Ov ps++[.q [.int k,.int m]]=Ov (ps++[(k,m)]):=by unfold Ov;rw[zBf];rfl
theorem qaM8(ps:Pr):(Ov ps).length=ps.length:=zAg _
abbrev qd9 (M) (way) (n:Int) (wr:Bool) (told) (gr) (p0 d e f a b c:D):=([p0,.int M,.int way,.int n,.bl wr,d,.int told,.int gr,e,f,a,b,c]:Ds)
theorem qap4(T:Txt K mg a):VFn P w K mg base 3 a.f40 a.d40 ["_law_bag_here", "_law_most"] qan7:=by
 refine VFn.mk' T.d40.F qd3 (wOf [true,true]) (λ c Q Q' xe a9 hQ _ h=>by obtain⟨b,M,s,e,h1,h2,h3,q⟩:=h;exact⟨b,M,s,e,h1,h2,h3,λ O n wr j f a1 H a3 a4 a5 a6 a7=>hQ _ _ (q O n wr j f a1 H a3 a4 a5 a6 a7)⟩) (λ c Q xe ⟨b,M,s,e,_⟩=>by rw[e];rfl) (λ c Q xe h=>by obtain⟨b,M,s,e,⟨x,y,z,eb,_⟩,_⟩:=h;rw[e,eb];rfl) (λ _ _ _ _ _ _ _ t=>⟨_,(Ac (Al 2 qd3.nd (Ah T.d35 (qb3 T) qa1 (rm t) (vaN 0 (vaV (qa4 Af) Ad)))) (Ac (Al 3 qd3.nd (e2vP (Aw qb4) An (Hk (vaV (e2 (Ak qg4) qg3 (qa4 Af) (Ah T.d35 (qb3 T) qa1 (rm t) (vaN 0 (vaV (qa4 (vbi (qH9 rfl) qak5.ops T.Cv (qa2 Af (qa2 (vnm 1) qa6 rfl) rfl))) Ad)))) (vaV (e2 (Ak qg4) qg3 (qa4 Af) (Ah T.d35 (qb3 T) qa1 (rm t) (vaN 0 (vaV (qa4 (vbi (qH9 rfl) qak5.ops T.Cv (qa2 Af (qa2 (vnm 1) qa6 rfl) rfl))) Ad)))) (vaV (e2 (Ak qg4) qg3 (qa4 Af) (Ah T.d35 (qb3 T) qa1 (rm t) (vaN 0 (vaN 1 Ad)))) (vaV (qb5 (vnm 1)) Ad))))) (vnm 2))) (Ac (Al 4 qd3.nd (e2v (A4 (qn6 t.u64) (qb0 _)) Bm (Ah T.d35 (qb3 T) qa1 (rm t) (vaN 0 (vaV (qa4 Af) Ad))) Af)) (Ac (Al 5 qd3.nd (e2P (Aw qb4) An (Hk (vaV (qb5 (vnm 3)) (vaV (qa4 (v2 (Ak qg4) qg3 (vnm 3) Af)) (vaV (qa4 (v2 (Ak qg4) qg3 Af (v2 (Ak qQ3) qaB9 (v2 (Ak qv6) qv5 (vnm 3) Af) Af))) (vaV (Ah T.d35 (qb3 T) qa1 (rm t) (vaN 0 (vaV (qa4 (v2 (Ak qg4) qg3 (vnm 3) Af)) Ad))) Ad))))) (Ah T.d35 (qb3 T) qa1 (rm t) (vaN 0 (vaV (qa4 Af) Ad))))) (Ac (Al 6 qd3.nd (e2P (Aw qb4) An (qa4 (Bl (qa2 Af (qa2 Af (qa2 Af (qa2 Af (qa2 Af qa6 rfl) rfl) rfl) rfl) rfl))) (Ah T.d35 (qb3 T) qa1 (rm t) (vaN 0 (vaV (qa4 Af) Ad))))) (Ac (Al 7 qd3.nd (e2P (Aw qb4) An (qa4 (Bl (qa2 Af (qa2 Af (qa2 Af (qa2 (vpow 10000000000000000) qa6 rfl) rfl) rfl) rfl))) (Ah T.d35 (qb3 T) qa1 (rm t) (vaN 0 (vaV (qa4 Af) Ad))))) (Ac (Al 8 qd3.nd (qa4 (Bl qa6))) (Ac (G4 Nn (Ah T.d39 (qB9 T) qa1 (rm t) (vaN 0 (vaN 3 (vaN 5 Ad)))) (Be 9 qd3.nd) (Ac (Al 10 qd3.nd (e2n 9 (Ak qg4) qg3 (e2n 3 (Ak qv6) qv5 (Ah T.d35 (qb3 T) qa1 (rm t) (vaN 0 (vaN 7 Ad)))))) (Ag (sif (q2 (Am qk3 (by with_unfolding_all rfl)) Ej (vnm 10) (vnm 8)) (Ag (Bc (Bi 8 qn8 Nq Nr Nt qc0 (vaN 10 Ad)))) Av)))) (Ac (Al 11 qd3.nd (qa4 (Bl qa6))) (Ac (G4 Nn (qa4 (vsl (vnm 8) vpo_n (vpo_s (vnm 6)))) (Be 10 qd3.nd) (Ac (Al 12 qd3.nd (e2P (Aw qb4) An (Hk (vaV (Ah T.d35 (qb3 T) qa1 (rm t) (vaN 0 (vaN 3 Ad))) (vaV (e2 (Ak qv7) qv4 (qa4 (vpow 1000000000000000000)) (Ah T.d35 (qb3 T) qa1 (rm t) (vaN 0 (vaN 3 Ad)))) (vaV (Ah T.d35 (qb3 T) qa1 (rm t) (vaN 0 (vaV (qa4 (vpow 1000000000000000000)) Ad))) Ad)))) (Ah T.d35 (qb3 T) qa1 (rm t) (vaN 0 (vaV (qa4 Af) Ad))))) (Ag (Bc (Bi 11 qn8 Nq Nr Nt qc0 (vaV (qa4 (Es (qa2 (vnm 10) (qa2 (vnm 12) qa6 rfl) rfl))) Ad)))))) (Ag (Aq (Iy (vaV (Iy (vaV (qb5 (vnm 3)) (vaV (qb5 (vnm 4)) (vaV (efz 11) Ad)))) (vaV (emv 8) Ad))))))))))))))),λ c Q xe h=>?_⟩);obtain⟨b,M,s,rfl,B,M0,M1,q⟩:=h;refine At [b,.int M,.u,.u,.u,.u,.u,.u,.u,.u,.u,.u,.u] rfl ?_;refine qb8 (λ c=>∃ b way,c=[b,.int M,.int way,.u,.u,.u,.u,.u,.u,.u,.u,.u,.u]/\O3 s b/\0<=way/\way < 4) (λ K o=>?_) ?_
 . exact qc4 rfl B rfl (by decide) (by decide) λ v O X v1 B'=>o _ ⟨O,v,rfl,B',X,v1⟩
 rintro c ⟨b,way,rfl,B,w0,w1⟩;refine qb8 (λ c=>∃ b n,c=[b,.int M,.int way,.int n,.u,.u,.u,.u,.u,.u,.u,.u,.u]/\O3 s b/\1<=n/\n<=64) (λ K o=>?_) ?_
 . refine qe7 (qaH5 (qG5 (qf7 (qI4 (x:=.int 1) rfl ?_))))
   refine qc4 (ds:=[b,.int M,.int way,.u,.u,.u,.u,.u,.u,.u,.u,.u,.u]) (m:=if M < 8 then M else 8) rfl B rfl (by split<;>lia) (by split<;>lia) λ R L a1 c1 B1=>?_
   have e1:R < M:=by revert c1;split<;>lia
   refine qa0 (a:=D.int (1+R)) rfl (qf7 (qI4 (x:=.int 1) rfl ?_));refine qc4 (ds:=[L,.int M,.int way,.u,.u,.u,.u,.u,.u,.u,.u,.u,.u]) (m:=if M < 16 then M else 16) rfl B1 rfl (by split<;>lia) (by split<;>lia) λ I J H N B2=>?_
   have e2:I < M:=by revert N;split<;>lia
   refine qa0 (a:=D.int (1+I)) rfl (qf7 (qI4 (x:=.int 1) rfl ?_));refine qw7 (ds:=[J,.int M,.int way,.u,.u,.u,.u,.u,.u,.u,.u,.u,.u]) (m:=M) rfl B2 rfl (by decide) (by lia) (by lia) λ x3 b3 a3 c3 B3=>?_
   refine qa0 (a:=D.int (1+x3)) rfl (qd8 (y:=.int M) rfl rfl (qb9 ⟨lt4,qa0 (a:=D.int way) rfl ⟨rfl,?_⟩⟩));obtain⟨n,en,hn⟩:=qV8 (P:=λ v=>1<=v/\v<=64) w0 w1 (x:=1+R) (y:=1+I) (z:=1+x3) (w:=M) ⟨by lia,by lia⟩ ⟨by lia,by lia⟩ ⟨by lia,by lia⟩ ⟨M0,M1⟩;exact qa0 en (o _ ⟨b3,n,rfl,B3,hn.1,hn.2⟩)
 rintro c ⟨b,n,rfl,B,n1,n2⟩;refine qb8 (λ c=>∃ b wr,c=[b,.int M,.int way,.int n,.bl wr,.u,.u,.u,.u,.u,.u,.u,.u]/\O3 s b) (λ K o=>?_) ?_
 . refine qe7 (qA7 (qc4 rfl B rfl (by decide) (by decide) λ v O X v1 B'=>?_))
   exact qa0 (a:=D.bl (decide (v=1))) rfl (o _ ⟨O,_,rfl,B'⟩)
 rintro c ⟨b,wr,rfl,B⟩;refine qb8 (λ c=>∃ b m,c=[b,.int M,.int way,.int n,.bl wr,.int m,.u,.u,.u,.u,.u,.u,.u]/\O3 s b/\0<=m/\m<=66) (λ K o=>?_) ?_
 . refine qe7 (qaH7 (qG5 (qd8 (y:=.int n) rfl rfl (qe8 (y:=.int (n+2)) rfl (qe8 (y:=.int (1+n * 3 / 4)) (Ae (x:=.int 1) rfl (Ae (x:=.int (n * 3)) (y:=.int 4) (Ae (x:=.int n) (y:=.int 3) rfl rfl (Ji (by decide))) rfl (qaF1 (by decide) (by decide))) rfl) (qf7 ?_))))))
   refine qc4 (ds:=[b,.int M,.int way,.int n,.bl wr,.u,.u,.u,.u,.u,.u,.u,.u]) (m:=n+1) rfl B rfl (by lia) (by lia) λ R L a1 c1 B1=>?_
   refine qb9 ⟨lt4,?_⟩;refine qc4 (ds:=[L,.int M,.int way,.int n,.bl wr,.u,.u,.u,.u,.u,.u,.u,.u]) (m:=4) rfl B1 rfl (by decide) (by decide) λ I J H N B2=>?_
   obtain⟨m,Y,A⟩:=qV8 (P:=λ v=>0<=v/\v<=66) H N (x:=n) (y:=n+2) (z:=1+n * 3 / 4) (w:=R) ⟨by lia,by lia⟩ ⟨by lia,by lia⟩ ⟨by lia,by lia⟩ ⟨by lia,by lia⟩;exact qa0 Y (o _ ⟨J,m,rfl,B2,A.1,A.2⟩)
 rintro c ⟨b,m,rfl,B,m0,m1⟩;refine qb8 (λ c=>∃ b told,c=[b,.int M,.int way,.int n,.bl wr,.int m,.int told,.u,.u,.u,.u,.u,.u]/\O3 s b/\0<=told/\told<=64) (λ K o=>?_) ?_
 . refine qe7 (qI4 (x:=.l false [.int 0,.int 0,.int 1,.int 6,.int 40]) rfl (qc4 (ds:=[b,.int M,.int way,.int n,.bl wr,.int m,.u,.u,.u,.u,.u,.u,.u]) (m:=5) rfl B rfl (by decide) (by decide) λ I J H N B2=>?_))
   obtain⟨m,Y,A⟩:=qaP1 (x:=40) H N (by decide);exact qa0 Y (o _ ⟨J,m,rfl,B2,A.1,A.2⟩)
 rintro c ⟨b,told,rfl,B,t0,t1⟩;refine qb8 (λ c=>∃ b r,c=(qd9 M way n wr told r b (.int m) .u .u .u .u .u)/\O3 s b/\1<=r/\r<=10000000000000000) (λ K o=>?_) ?_
 . refine qe7 (qI4 (x:=.l false [.int 9,.int 9,.int 9,.int 10000000000000000]) rfl (qc4 (ds:=[b,.int M,.int way,.int n,.bl wr,.int m,.int told,.u,.u,.u,.u,.u,.u]) (m:=4) rfl B rfl (by decide) (by decide) λ I J H N B2=>?_))
   obtain⟨m,Y,A⟩:=qV8 (P:=λ v=>1<=v/\v<=10000000000000000) H N (x:=9) (y:=9) (z:=9) (w:=10000000000000000) (by decide) (by decide) (by decide) (by decide);exact qa0 Y (o _ ⟨J,m,rfl,B2,A.1,A.2⟩)
 rintro c ⟨b,r,rfl,B,g0,g1⟩;refine qb1 (qd9 M way n wr told r b (.int m) (kL []) .u .u .u .u) (λ K o=>o) ?_;refine qb8 (λ c=>∃ b f u g,c=(qd9 M way n wr told r b .u (kL f) u g .u .u)/\O3 s b/\f.Nodup/\(∀ k∈f,Aj k)/\f.length<=66) (λ K o=>?_) ?_
 . refine qaY8 (x:=b) (y:=.int n) (w:=.int m) (qi6 rfl B.known) rfl rfl rfl (qi6 rfl B.known) ⟨b,n,m,s,rfl,B,n1,n2,m0,by lia,λ L hs B1 hh hl=>?_⟩
   refine qa0 (a:=(qd9 M way n wr told r L .u (kL []) .u .u .u .u)) rfl (qa0 (a:=Ot hs) rfl ⟨qh9 hs,?_⟩);refine qd7 (λ i c=>∃ b f u g,c=(qd9 M way n wr told r b .u (kL f) u g .u .u)/\O3 s b/\f.Nodup/\(∀ k∈f,Aj k)/\f.length<=i) _ 0 _ ⟨L,[],_,_,rfl,B1,Mb,nofun,zA2 _⟩ ?_ ?_
   . rintro i x S c ⟨b,f,u,g,rfl,B,U,V,C⟩ K2 E
     rw[zAb] at C E;obtain⟨h,hi,rfl⟩:=qaq3 S;obtain⟨h0,h1⟩:=hh h (zAx hi);have a0:i < 66:=by have:=(zA4.mp hi).1;lia
     refine qm4 (At (qd9 M way n wr told r b .u (kL f) (.int h) g .u .u) rfl ?_);refine qb8 (λ c=>∃ b W,c=(qd9 M way n wr told r b .u (kL f) (.int h) (.int W) .u .u)/\O3 s b/\Aj W) (λ K o=>?_) ?_
     . refine qe7 ⟨rfl,rfl,?_⟩
       refine qw7 (ds:=[b,.int M,.int way,.int n,.bl wr,.u,.int told,.int r,kL f,.int h,g,.u,.u]) (m:=r) rfl B rfl (by decide) (by lia) (by lia) λ v O X v1 B'=>?_
       have e2:0<=n * v:=Int.mul_nonneg (by lia) X;have e3:n * v<=64 * v:=Int.mul_le_mul_of_nonneg_right n2 X;exact qa0 (a:=D.int (n * v)) (mulL (qac6 (by lia) (by lia))) (qa0 (a:=D.int (h+n * v)) rfl (o _ ⟨O,h+n * v,rfl,B',by lia,by lia⟩))
     rintro c ⟨b,W,rfl,B,a8⟩;refine if_v (b:=!decide (W∈f)) (Ae rfl rfl qQ8) (λ hb=>?_) λ hb=>E _ ⟨b,f,_,_,rfl,B,U,V,by lia⟩
     have A:¬ W∈f:=λ z=>by rw[zAl z] at hb;cases hb
     refine qaQ5 (ys:=Ot f) (d:=.int W) rfl rfl rfl (by decide) (by rw[qf4];unfold big;lia) ?_;rw[qD8];refine E _ ⟨b,f++[W],_,_,rfl,B,zBr.mpr ⟨U,(by simp),λ x S y hy e=>A (by rw[<- zAa.mp hy,<- e];exact S)⟩,λ x S=>?_,by rw[zA6];exact Nat.add_le_add_right C 1⟩;rcases zA8.mp S with h | h
     . exact V x h
     rw[zAa.mp h];exact a8
   rintro c ⟨b,f,u,g,rfl,B,U,V,C⟩;rw[zAb,qf4] at C;exact o _ ⟨b,f,u,g,rfl,B,U,V,by lia⟩
 rintro c ⟨b,f,u,g,rfl,B,U,V,C⟩;refine qb1 (qd9 M way n wr told r b .u (kL f) u g (.l false (Ov [])) .u) (λ K o=>o) ?_;refine qb8 (λ c=>∃ b j g l,c=(qd9 M way n wr told r b .u (kL f) u g (.l false (Ov j)) l)/\O3 s b/\j.map (·.1)=f.take told.toNat/\∀ p∈j,Aj p.2) (λ K o=>?_) ?_
 . have ec:Dl (Ot f) none (some told)=Ot (f.take told.toNat):=by rw[show told=((told.toNat:Nat):Int) by lia,qH4,Int.toNat_natCast];unfold Ot;rw[La]
   refine qv9 (qaY4 rfl rfl rfl ec) (qa0 (a:=Ot (f.take told.toNat)) rfl ⟨qh9 _,?_⟩);refine qd7 (λ i c=>∃ b j g l,c=(qd9 M way n wr told r b .u (kL f) u g (.l false (Ov j)) l)/\O3 s b/\j.map (·.1)=(f.take told.toNat).take i/\∀ p∈j,Aj p.2) _ 0 _ ⟨b,[],_,_,rfl,B,rfl,nofun⟩ ?_ ?_
   . rintro i x S c ⟨b,j,g,l,rfl,B,G,Z⟩ K2 E
     rw[zAb] at G E;obtain⟨k,hi,rfl⟩:=qaq3 S;have a0:j.length<=64:=by have:=congrArg K5 G;simp at this;lia
     refine qm4 (At (qd9 M way n wr told r b .u (kL f) u (.int k) (.l false (Ov j)) l) rfl ?_);refine qb8 (λ c=>∃ b v,c=(qd9 M way n wr told r b .u (kL f) u (.int k) (.l false (Ov j)) (.int v))/\O3 s b/\Aj v) (λ K o=>?_) ?_
     . refine qe7 (qaH7 (qG5 (qf7 ?_)))
       refine qw7 (ds:=[b,.int M,.int way,.int n,.bl wr,.u,.int told,.int r,kL f,u,.int k,.l false (Ov j),l]) (m:=n) rfl B rfl (by decide) (by lia) (by lia) λ R L a1 c1 B1=>qf7 (qI4 (x:=.int 1000000000000000000) rfl ?_)
       refine qw7 (ds:=[L,.int M,.int way,.int n,.bl wr,.u,.int told,.int r,kL f,u,.int k,.l false (Ov j),l]) (m:=n) rfl B1 rfl (by decide) (by lia) (by lia) λ I J H N B2=>qa0 (a:=D.int (1000000000000000000 - I)) rfl (qf7 ?_)
       refine qc4 (ds:=[J,.int M,.int way,.int n,.bl wr,.u,.int told,.int r,kL f,u,.int k,.l false (Ov j),l]) (m:=1000000000000000000) rfl B2 rfl (by decide) (by decide) λ x3 b3 a3 c3 B3=>qb9 ⟨lt3,?_⟩
       refine qc4 (ds:=[b3,.int M,.int way,.int n,.bl wr,.u,.int told,.int r,kL f,u,.int k,.l false (Ov j),l]) (m:=3) rfl B3 rfl (by decide) (by decide) λ x4 b4 a4 c4 B4=>?_
       obtain⟨v,ev,hv⟩:=qay7 (P:=Aj) a4 c4 (x:=R) (y:=1000000000000000000 - I) (z:=x3) ⟨by lia,by lia⟩ ⟨by lia,by lia⟩ ⟨by lia,by lia⟩;exact qa0 ev (o _ ⟨b4,v,rfl,B4,hv⟩)
     rintro c ⟨b,v,rfl,B,hv⟩;refine qA6 (ys:=Ov j) (d:=.q [.int k,.int v]) rfl rfl (by rw[qaM8];unfold big;lia) ?_;rw[qaJ4];refine E _ ⟨b,j++[(k,v)],_,_,rfl,B,by rw[zBf,G,qw6 hi];rfl,λ p A=>?_⟩;rcases zA8.mp A with h | h
     . exact Z p h
     rw[zAa.mp h];exact hv
   rintro c ⟨b,j,g,l,rfl,B,G,Z⟩;rw[zAb,qf4,zBu] at G;exact o _ ⟨b,j,g,l,rfl,B,G,Z⟩
 rintro c ⟨b,j,g,l,rfl,B,G,Z⟩;have hG:Ij j:=⟨by have:=congrArg K5 G;simp at this;lia,by rw[G];exact U.sublist (zCa _ _),λ p A=>⟨V _ (List.mem_of_mem_take (by rw[<- G];exact List.mem_map_of_mem A)),Z p A⟩⟩
 refine qk0 (qaG9 (qat7 (qd8 (y:=.int n) rfl rfl (qd8 (y:=.bl wr) rfl rfl (qf7 (qaR6 (d:=.l false (Ov j)) rfl (qb9 ⟨lt3,?_⟩)))))));refine qf7 (qa0 (a:=D.l false (Ot f)) rfl (qb9 ⟨lt2,?_⟩));have e:(D.l false (Ov j)).fz=.l true (Ov j):=congrArg (D.l true) (qV6 j);rw[e];exact q b n wr j f B n1 n2 hG U V C
theorem qs9:qa9 ["_law_plan", "_law_keys", "_law_found", "_law_key"] ["_law_plan", "_law_keys"] (qa3 qy8):=by walk_at "s"
def qZ4:VSp:=λ ds Q _=>∃ n wr ps z ks,ds=[Op n wr ps,.l z (Ot ks)]/\1<=n/\n<=64/\(ps.map (·.1)).Nodup/\ks.Nodup/\ks.length<=100 /\
 ∀ S,S.Sublist ks->(∀ q,¬ Crowd n.toNat wr (Oq n ps) S q)->Q (kL S) ds
theorem qaa3(T:Txt K mg a):VFn P w K mg base 4 a.f41 a.d41 ["_law_plan", "_law_keys"] qZ4:=by
 refine VFn.mk2 T.d41.F qs9 (wOf [true,true]) (by walk_at "m") (by walk_at "l") (λ _ _ _ _ _ _ _ H=>⟨_,(Ac (Al 2 qs9.nd (qa4 (Bl qa6))) (Ac (Ja Nn (vpn 1) (Be 3 qs9.nd) (Ag (sif (q2v (A4 qi8 (qb0 _)) (Am qi8 (qb0 _)) qn4 (Ah T.d38 (qr6 T) qa1 (rm H) (vaN 0 (vaV (qa4 (v2 (Ak qg4) qg3 (vnm 2) (Bl (qa2 (vnm 3) qa6 rfl)))) Ad))) Bb) (Ag (Bc (Bi 2 qn8 Nq Nr Nt qc0 (vaN 3 Ad)))) Av))) (Ag (Aq (emv 2))))),λ j Q N h=>?_⟩);obtain⟨n,wr,c,z,f,rfl,E,I,J,r,L,q⟩:=h;refine At [Op n wr c,.l z (Ot f),.u,.u] rfl ?_;refine qb1 [Op n wr c,.l z (Ot f),kL [],.u] (λ K t=>t) ?_;refine qb8 (λ j=>∃ S o,j=[Op n wr c,.l z (Ot f),kL S,o]/\S.Sublist f/\∀ q,¬ Crowd n.toNat wr (Oq n c) S q) (λ K t=>?_) ?_
 . refine qa0 (a:=(1,[])) rfl (qa0 (a:=D.l z (Ot f)) rfl (qa0 (a:=Ot f) rfl ⟨qh9 f,λ w=>?_⟩))
   refine qd7 (λ i j=>∃ S o,j=[Op n wr c,.hole w,kL S,o]/\S.Sublist (f.take i)/\∀ q,¬ Crowd n.toNat wr (Oq n c) S q) _ 0 _ ⟨[],_,rfl,.slnil,λ q=>(Kept.none (by lia) (D7 E)).no_crowd q⟩ ?_ ?_
   . rintro i y u j ⟨S,o,rfl,b,s⟩ K2 p
     rw[zAb] at b p;obtain⟨k,v,rfl⟩:=qaq3 u;have A:¬ k∈S:=λ z=>qQ9 r v (b.subset z)
     have B:S.Nodup:=r.sublist (b.trans (zCa _ _));have G:S.length<=100:=zAj (b.trans (zCa _ _)).length_le L;refine qm4 (At [Op n wr c,.hole w,kL S,.int k] rfl ?_);refine qJ5 (qh3 (qc2 (x:=Op n wr c) rfl (qe8 (y:=kL (S++[k])) (Ae (x:=kL S) (y:=kL [k]) rfl rfl (qaG1 (by show _+1<=1000;lia))) (qb9 (qa0 (a:=Op n wr c) rfl ?_)))));refine⟨n,wr,c,false,S++[k],rfl,E,I,J,zBr.mpr ⟨B,(by simp),λ x M y u e=>A (by rw[<- zAa.mp u,<- e];exact M)⟩,by rw[zA6];show _+1<=200;lia,λ _=>?_,λ C g _=>?_⟩
     . refine qa0 (a:=[Op n wr c,.hole w,kL S,.int k]) rfl (qa0 (a:=D.bl false) rfl (qa0 (a:=false) rfl (Dk (by decide) (p _ ⟨S,_,rfl,b.trans ?_,s⟩))))
       rw[qw6 v];exact L6 _ _
     refine qa0 (a:=[Op n wr c,.hole w,kL S,.int k]) rfl (qa0 (a:=D.bl true) rfl (qa0 (a:=true) rfl (B8 rfl ?_)));refine qaQ5 (ys:=Ot S) (d:=.int k) rfl rfl rfl (by decide) (by rw[qf4];unfold big;lia) ?_;rw[qD8];refine p _ ⟨S++[k],_,rfl,?_,C⟩;rw[qw6 v];exact b.append (List.Sublist.refl _)
   rintro j ⟨S,o,rfl,b,s⟩;rw[zAb,qf4,zBu] at b;exact qa0 (qal2 rfl) (t _ ⟨S,o,rfl,b,s⟩)
 rintro j ⟨S,o,rfl,b,s⟩;exact q S b s
theorem qh6:qa9 ["_law_bag_here", "_law_plan", "_law_keys", "_law_goal", "_law_steps_here", "_law_there", "_law_turn", "_law_key", "_law_some"] ["_law_bag_here", "_law_plan", "_law_keys", "_law_goal"] (qa3 qP8):=by walk_at "s"
noncomputable def wS(p:Bool):Str:=cond p "put" "take"
def stD(st:List (Bool×Int)):Ds:=st.map λ q=>.q [.str (wS q.1),.int q.2]
theorem qI6{st:List (Bool×Int)}:stD st++[.q [.str (wS p),.int k]]=stD (st++[(p,k)]):=by unfold stD;rw[zBf];rfl
theorem qK9(st:List (Bool×Int)):(stD st).length=st.length:=zAg _
theorem qV4:∀ st:List (Bool×Int),D.imms (stD st)=true
 | []=>rfl
 | q::st=>by
   show (true&&D.imms (stD st))=true;rw[qV4 st];rfl
inductive Way(NC:List Int->Prop):List (Bool×Int)->List Int->Prop
 | nil:Way NC [] []
 | put {st:List (Bool×Int)} {S:List Int} {k:Int} (h:Way NC st S) (hk:Aj k) (hn:¬ k∈S) (hc:NC (S++[k])):Way NC (st++[(true,k)]) (S++[k])
 | take {st:List (Bool×Int)} {S:List Int} {k:Int} (h:Way NC st S) (hk:k∈S):Way NC (st++[(false,k)]) (S.erase k)
def NCd(n:Int)(wr:Bool)(ps:Pr)(S:List Int):Prop:=∀ q,¬ Crowd n.toNat wr (Oq n ps) S q
theorem qaC9{S:List Int}(h:S.Nodup)(a:¬ k∈S):(S++[k]).Nodup:=zBr.mpr ⟨h,by simp,λ x b y c e=>a (by rw[<- zAa.mp c,<- e];exact b)⟩
theorem qaL8{S:List Int}(h:∀ x∈S,Aj x)(a:Aj k):∀ x∈S++[k],Aj x:=λ x b=>by
 rcases zA8.mp b with z | z
 . exact h x z
 rw[zAa.mp z];exact a
section
variable{NC:List Int->Prop}{st:List (Bool×Int)}{S:List Int}
theorem Way.nd(h:Way NC st S):S.Nodup:=by
 induction h with
 | nil=>exact Mb
 | put _ _ b _ a=>exact qaC9 a b
 | take _ _ a=>exact a.sublist Mq
theorem Way.num(h:Way NC st S):∀ x∈S,Aj x:=by
 induction h with
 | nil=>nofun
 | put _ b _ _ a=>exact qaL8 a b
 | take _ _ a=>exact λ x c=>a x (List.mem_of_mem_erase c)
theorem Way.len(h:Way NC st S):S.length<=st.length:=by
 induction h with
 | nil=>exact zA2 _
 | put _ _ _ _ a=>simp only[zA6,Ll];lia
 | take _ _ a=>rw[zA6];exact Nat.le_succ_of_le (zAj List.erase_sublist.length_le a)
end
theorem qaO4{S:List Int}(h:k∈S):gRem (Ot S) [.int k]=some (Ot (S.erase k),.non):=by
 show (intsD (Ot S)).bind _=_;rw[qai6];exact if_pos h
theorem qae1{S:List Int}(hi:ds[i]? = some (kL S))(b:f ds=some (.int k))(c:k∈S)(q:Q .non (ds.set i (kL (S.erase k)))):Eb gRem i (tbV (Db f) Ax) ds Q xe:=by
 have e:(rdN i ds).bind D.own=some (Ot S):=by rw[qi6 hi rfl];rfl
 refine⟨by rw[e];rfl,qd8 b rfl ?_⟩;refine qa0 (k:=λ d=>orF (gRem d [.int k]) λ z=>Q z.2 (ds.set i (.l false z.1))) e ?_;exact qa0 (a:=(Ot (S.erase k),D.non)) (qaO4 c) q
theorem qag2{g:Ds->Ds->Option (Ds×D)}(h1:ds[i]? = some (.l false ys))(h:tr ds (λ xs _ ds1=>orF ((rdN i ds1).bind D.own) λ ys=>orF (g ys xs) λ z=>Q z.2 (ds1.set i (.l false z.1))) xe):Eb g i tr ds Q xe:=⟨by rw[qi6 h1 rfl];rfl,h⟩
theorem ne_ks{z:Bool}(ks:List Int):gNe (.l z (Ot ks)) (.l z' [])=some (.bl (!decide (ks=[]))):=by
 cases ks<;>rfl
theorem qae3{R:List Int}{v:Int}(a:0<=v)(b:v < 2 ^ 63)(c:R[v.toNat]? = some k):qaO5 (Ot R) [.int v]=some (Ot (R.eraseIdx v.toNat),.int k):=by
 show (if 0<=v/\v < 2 ^ 63 then ((Ot R)[v.toNat]?).map λ d=>((Ot R).eraseIdx v.toNat,d) else none)=_;rw[if_pos ⟨a,b⟩,show (Ot R)[v.toNat]? = some (.int k) from by unfold Ot;rw[zB3,c];rfl];show some ((Ot R).eraseIdx v.toNat,D.int k)=_;rw[show (Ot R).eraseIdx v.toNat=Ot (R.eraseIdx v.toNat) from by unfold Ot;rw[K6,K6,zBf,La,Mi]]
theorem qaw1{R:List Int}{x:Int}(b:R.Nodup)(a:R[i]? = some k):x∈R.eraseIdx i↔x∈R/\x≠k:=by
 rw[List.mem_eraseIdx_iff_getElem?];constructor
 . rintro⟨j,c,e⟩
   refine⟨zAx e,λ z=>c ?_⟩;subst z;exact(List.getElem?_inj (zA4.mp e).1 b).mp (e.trans a.symm)
 rintro⟨d,f⟩;obtain⟨j,e⟩:=List.getElem?_of_mem d;exact⟨j,λ z=>f (by rw[z,a] at e;exact(Nm e).symm),e⟩
theorem qaU6{n:Int}{wr:Bool}{ps:Pr}{S G:List Int}(h:NCd n wr ps G)(b:S.Nodup)(a:G.Nodup)(d:∀ x∈S,x∈G):NCd n wr ps S:=λ q c=>by
 refine h q ((c.perm ((Lv b (a.filter λ x=>decide (x∈S))).mpr λ x=>?_)).mono List.filter_sublist);rw[zAz,zB8];exact⟨λ h=>⟨d x h,h⟩,λ h=>h.2⟩
theorem qar4{g:VTG}(h:ta ds (λ x ds1=>orF (Hm [x]) λ j=>Fd j=true/\Dg g t e (Bp 0 j.toNat) ds1) e.xe):I9 (Gj (tbV ta Ax)) g t e ds:=h
theorem qaH6{g:D->D->Option D}(h1:rdN i ds=some x)(h:tb ds (λ y ds1=>orF ((rdN i ds1).bind λ x=>g x y) λ d=>d.imm=true/\Q d ds1) xe):Il g i tb ds Q xe:=⟨by rw[h1];rfl,h⟩
theorem qaO0(h:qc ds (λ b a=>if b=true then t e a else u e a) e.xe):sIf qc t u e ds:=h
def qan6:VSp:=λ ds Q _=>∃ b ns n wr ps z ks z' G,ds=[b,Op n wr ps,.l z (Ot ks),.l z' (Ot G)]/\O3 ns b/\1<=n/\n<=64/\(ps.map (·.1)).Nodup/\(∀ k∈ks,Aj k)/\0 < ks.length/\ks.length<=66/\G.Nodup/\(∀ k∈G,Aj k)/\G.length<=66/\NCd n wr ps G /\
 ∀ a st T,O3 ns a->Way (NCd n wr ps) st T->(∀ x,x∈T↔x∈G)->st.length<=330->Q (.l false (stD st)) [a,Op n wr ps,.l z (Ot ks),.l z' (Ot G)]
abbrev qc9(n:Int)(wr:Bool)(ps:Pr) (z) (ks) (z') (G) (st) (p0 a b c d:D):=([p0,Op n wr ps,.l z (Ot ks),.l z' (Ot G),.l false (stD st),a,b,c,d]:Ds)
theorem qap3(T:Txt K mg a):VFn P w K mg base 4 a.f42 a.d42 ["_law_bag_here", "_law_plan", "_law_keys", "_law_goal"] qan6:=by
 refine VFn.mk' T.d42.F qh6 (wOf [true,true,true,true]) (λ l Q Q' xe b9 hQ _ h=>by obtain⟨b,u,n,wr,f,z,j,o,G,e,h1,h2,h3,h4,h5,h6,h7,h8,h9,b0,b1,q⟩:=h;exact⟨b,u,n,wr,f,z,j,o,G,e,h1,h2,h3,h4,h5,h6,h7,h8,h9,b0,b1,λ b' c T a1 a2 a3 a4=>hQ _ _ (q b' c T a1 a2 a3 a4)⟩) (λ l Q xe h=>by obtain⟨b,u,n,wr,f,z,j,o,G,e,_⟩:=h;rw[e];rfl) (λ l Q xe h=>by obtain⟨b,u,n,wr,f,z,j,o,G,e,⟨x,y,w,eb,_⟩,_⟩:=h;rw[e,eb];rfl) (λ _ _ _ _ _ _ _ N=>⟨_,(Ac (Al 4 qh6.nd (qa4 (Bl qa6))) (Ac (Al 5 qh6.nd (qa4 (Bl qa6))) (Ac (qJ2 Nn T.Ci (Du (vaV (Ah T.d35 (qb3 T) qa1 (rm N) (vaN 0 (vaV (qa4 (v2 (Ak qg4) qg3 (v2 (Ak qv6) qv5 Af (vbi ql4 ql3.ops T.Ca (qa2 (vnm 2) qa6 rfl))) Af)) Ad))) Ad)) (Be 6 qh6.nd) (Ac (Al 7 qh6.nd (e2nP 2 (Aw qb4) An (Ah T.d35 (qb3 T) qa1 (rm N) (vaN 0 (vaV (qa4 (vbi ql4 ql3.ops T.Ca (qa2 (vnm 2) qa6 rfl))) Ad))))) (Ag (sif (q2 (Am qr3 (by with_unfolding_all rfl)) Ej (vnm 7) (vnm 5)) (Ac (Bc (Bi 5 qaD0 Nq Nx N0 qG2 (vaV (qb5 (vnm 7)) Ad))) (Ag (Bc (Bi 4 qn8 Nq Nr Nt qc0 (vaV (qa4 (Es (qa2 Dt (qa2 (vnm 7) qa6 rfl) rfl))) Ad))))) (Ag (sif (q2v (A4 qi8 (qb0 _)) (Am qi8 (qb0 _)) qn4 (Ah T.d38 (qr6 T) qa1 (rm N) (vaN 1 (vaV (qa4 (v2 (Ak qg4) qg3 (vnm 5) (Bl (qa2 (vnm 7) qa6 rfl)))) Ad))) Bb) (Ac (Bc (Bi 5 qn8 Nq Nr Nt qc0 (vaV (qb5 (vnm 7)) Ad))) (Ag (Bc (Bi 4 qn8 Nq Nr Nt qc0 (vaV (qa4 (Es (qa2 Dt (qa2 (vnm 7) qa6 rfl) rfl))) Ad))))) Av)))))) (Ac (scN (NY:=["_law_key", "_law_goal"]) (src:=[none,some 3]) 8 5 qh6.nd (blk (λ X C Y H0 Z=>(Be 0 (show (["_law_key", "_law_goal"]:List Str).Nodup by decide +kernel))) (λ X C Y H0 Z=>(Fl (q2 (Am qk3 (by with_unfolding_all rfl)) Ej (vnm 0) (vnm 1)))) (λ X C Y H0 Z=>(qb5 (vnm 0))))) (Ac (qT0 Nn (q2 (Am (qn5 N.u64) (qb0 _)) Dr (vnm 8) (Bl qa6)) (Ac (Al 7 qh6.nd (Bi 8 qag3 Nq Nw N2 qag4 (vaV (Ah T.d35 (qb3 T) qa1 (rm N) (vaN 0 (vaV (qa4 (vbi ql4 ql3.ops T.Ca (qa2 (vnm 8) qa6 rfl))) Ad))) Ad))) (Ac (Bc (Bi 5 qaD0 Nq Nx N0 qG2 (vaV (qb5 (vnm 7)) Ad))) (Ag (Bc (Bi 4 qn8 Nq Nr Nt qc0 (vaV (qa4 (Es (qa2 Dt (qa2 (vnm 7) qa6 rfl) rfl))) Ad))))))) (Ac (scN (NY:=["_law_key", "_law_there"]) (src:=[none,some 5]) 8 3 qh6.nd (blk (λ X C Y H0 Z=>(Be 0 (show (["_law_key", "_law_there"]:List Str).Nodup by decide +kernel))) (λ X C Y H0 Z=>(Fl (q2 (Am qk3 (by with_unfolding_all rfl)) Ej (vnm 0) (vnm 1)))) (λ X C Y H0 Z=>(qb5 (vnm 0))))) (Ac (qT0 Nn (q2 (Am (qn5 N.u64) (qb0 _)) Dr (vnm 8) (Bl qa6)) (Ag (Bc (Bi 4 qn8 Nq Nr Nt qc0 (vaV (Iy (vaV (qa4 Dt) (vaV (Bi 8 qag3 Nq Nw N2 qag4 (vaV (Ah T.d35 (qb3 T) qa1 (rm N) (vaN 0 (vaV (qa4 (vbi ql4 ql3.ops T.Ca (qa2 (vnm 8) qa6 rfl))) Ad))) Ad)) Ad))) Ad))))) (Ag (Aq (emv 4)))))))))),λ l Q xe h=>?_⟩);obtain⟨b,u,n,wr,f,z,j,o,G,rfl,B,n1,n2,nd,b2,c0,c1,a0,hG,c2,b3,q⟩:=h;refine At [b,Op n wr f,.l z (Ot j),.l o (Ot G),.u,.u,.u,.u,.u] rfl ?_;refine qb1 [b,Op n wr f,.l z (Ot j),.l o (Ot G),.l false (stD []),.u,.u,.u,.u] (λ K s=>qq7 rfl s) ?_;refine qb1 [b,Op n wr f,.l z (Ot j),.l o (Ot G),.l false (stD []),kL [],.u,.u,.u] (λ K s=>qq7 rfl s) ?_;refine qb8 (λ l=>∃ b c S p r,l=(qc9 n wr f z j o G c b (kL S) p r .u)/\O3 u b/\Way (NCd n wr f) c S/\c.length<=132) (λ K s=>?_) ?_
 . refine qar4 (qc4 (ds:=[b,Op n wr f,.l z (Ot j),.l o (Ot G),.l false (stD []),kL [],.u,.u,.u]) (m:=2 * (j.length:Nat)+1) rfl B ?_ (by lia) (by lia) λ v b v0 v1 B=>?_)
   . refine Ae (x:=.int (2 * (j.length:Nat))) (y:=.int 1) (Ae (x:=.int 2) (y:=.int (j.length:Nat)) rfl ?_ rfl) rfl rfl
     rw[qm1 (z:=z) (ys:=Ot j) rfl,qf4]
   refine qa0 (a:=v) rfl ⟨qR1 (by lia) (by lia),?_⟩;refine qd7 (λ i l=>∃ b c S p r,l=(qc9 n wr f z j o G c b (kL S) p r .u)/\O3 u b/\Way (NCd n wr f) c S/\c.length<=i) _ 0 _ ⟨b,[],[],_,_,rfl,B,.nil,zA2 _⟩ ?_ ?_
   . rintro i y hy l ⟨b,c,S,p,r,rfl,B,W,E⟩ K2 t
     obtain⟨hi,rfl⟩:=qF6 hy;rw[zAb] at E t;refine qm4 (At (qc9 n wr f z j o G c b (kL S) (.int i) r .u) rfl ?_);refine qb8 (λ l=>∃ b k,l=(qc9 n wr f z j o G c b (kL S) (.int i) (.int k) .u)/\O3 u b/\Aj k) (λ K s=>?_) ?_
     . refine qe7 (qaH6 (x:=.l z (Ot j)) rfl (qc4 (ds:=[b,Op n wr f,.l z (Ot j),.l o (Ot G),.l false (stD c),kL S,.int i,r,.u]) (m:=(j.length:Nat)) rfl B (by rw[qm1 (z:=z) (ys:=Ot j) rfl,qf4]) (by lia) (by lia) λ v b v0 v1 B=>?_))
       obtain⟨k,A⟩:∃ k,j[v.toNat]? = some k:=⟨_,zAw (by lia)⟩
       refine qa0 (a:=D.int k) ?_ ⟨rfl,s _ ⟨b,k,rfl,B,b2 k (zAx A)⟩⟩;show gIx (.l z (Ot j)) (.int v)=_;rw[show v=((v.toNat:Nat):Int) by lia];refine qY3 ?_;unfold Ot;rw[zB3,A];rfl
     rintro l ⟨b,k,rfl,B,A⟩;have b4:=W.len;refine if_v (b:=decide (k∈S)) (Ae rfl rfl qaN5) (λ h=>?_) λ h=>?_
     . have H:=zAe h
       refine qb1 (qc9 n wr f z j o G c b (kL (S.erase k)) (.int i) (.int k) .u) (λ K s=>qf5 (qae1 (S:=S) (k:=k) rfl rfl H s)) ?_;refine qf5 (qA6 (ys:=stD c) (d:=.q [.str "take",.int k]) rfl rfl (by rw[qK9];unfold big;lia) ?_);rw[show D.q [.str "take",.int k]=D.q [.str (wS false),.int k] from rfl,qI6];exact t _ ⟨b,_,_,_,_,rfl,B,W.take H,by rw[zA6];show _+1<=_;lia⟩
     have H:=zB9 h;refine qaO0 (qJ5 (qh3 (qc2 (x:=Op n wr f) rfl (qe8 (y:=kL (S++[k])) (Ae (x:=kL S) (y:=kL [k]) rfl rfl (qaG1 (by show _+1<=1000;lia))) (qb9 (qa0 (a:=Op n wr f) rfl ?_))))));refine⟨n,wr,f,false,S++[k],rfl,n1,n2,nd,qaC9 W.nd H,by rw[zA6];show _+1<=200;lia,λ _=>?_,λ nc g _=>?_⟩
     . exact qa0 (a:=(qc9 n wr f z j o G c b (kL S) (.int i) (.int k) .u)) rfl (qa0 (a:=D.bl false) rfl (qa0 (a:=false) rfl (Dk (by decide) (t _ ⟨b,_,_,_,_,rfl,B,W,by lia⟩))))
     refine qa0 (a:=(qc9 n wr f z j o G c b (kL S) (.int i) (.int k) .u)) rfl (qa0 (a:=D.bl true) rfl (qa0 (a:=true) rfl (B8 rfl ?_)));refine qb1 (qc9 n wr f z j o G c b (kL (S++[k])) (.int i) (.int k) .u) (λ K s=>qf5 (qY4 (ys:=Ot S) (d:=.int k) rfl rfl rfl (by rw[qf4];unfold big;lia) (by rw[qD8];exact s))) ?_;refine qf5 (qA6 (ys:=stD c) (d:=.q [.str "put",.int k]) rfl rfl (by rw[qK9];unfold big;lia) ?_);rw[show D.q [.str "put",.int k]=D.q [.str (wS true),.int k] from rfl,qI6];exact t _ ⟨b,_,_,_,_,rfl,B,W.put A H nc,by rw[zA6];show _+1<=_;lia⟩
   rintro l ⟨b,c,S,p,r,rfl,B,W,E⟩;exact s _ ⟨b,c,S,p,r,rfl,B,W,by rw[zAb,qL0] at E;lia⟩
 rintro l ⟨b,c,S,p,r,rfl,B,W,E⟩;have b4:=W.len;refine qb1 [b,Op n wr f,.l z (Ot j),.l o (Ot G),.l false (stD c),kL S,p,r,kL (S.filter λ x=>!decide (x∈G))] (λ K s=>?_) ?_
 . refine qe7 (qa0 (a:=D.l false (Ot S)) rfl (qa0 (a:=Ot S) rfl ⟨qh9 S,?_⟩))
   refine ql0 (λ ι=>∃ d,ι=[d,.l o (Ot G)]) (Em λ x=>!decide (x∈G)) _ [] _ (by show 0+_ < 1000000;rw[qf4];lia) ⟨_,rfl⟩ ?_ ?_
   . rintro y hy ι O ⟨d,rfl⟩ R I J
     obtain⟨k,_,rfl⟩:=zBc.mp hy;have this:=I [.int k,.l o (Ot G)] ⟨_,rfl⟩;refine qm4 (qf6 (b:=!decide (k∈G)) (Ae rfl rfl qQ8) (ite_b (λ h=>?_) λ h=>?_))
     . rw[qU7 (by exact h)] at this
       exact qz9 (d:=.int k) rfl rfl ⟨J,this⟩
     rw[qU8 (by exact h)] at this;have this:R (O++[]) _:=this;rw[zAd] at this;exact this
   rintro ι ⟨d,rfl⟩;rw[qz7,zB5];exact s
 have c3:True:=trivial;refine qb8 (λ l=>∃ b c S p r,l=(qc9 n wr f z j o G c b (kL S) p r (kL []))/\O3 u b/\Way (NCd n wr f) c S/\c.length<=264/\∀ x∈S,x∈G) (λ K s=>?_) ?_
 . refine qE4 (λ m l=>∃ b c S p r R,l=(qc9 n wr f z j o G c b (kL S) p r (kL R))/\O3 u b/\Way (NCd n wr f) c S/\R.length=m/\c.length+R.length<=264/\R.Nodup/\∀ x,x∈R↔x∈S/\¬ x∈G) _ ⟨b,c,S,p,r,_,rfl,B,W,rfl,by have:=Lm (λ x=>!decide (x∈G)) S;lia,W.nd.filter _,λ x=>by rw[zAz];simp⟩ ?_
   rintro m l ⟨b,c,S,p,r,R,rfl,B,W,rfl,E,L,I⟩ K2 t;refine qf6 (b:=!decide (R=[])) (Ae rfl rfl (ne_ks R)) (ite_b (λ h=>?_) λ h=>?_)
   . have U:R≠[]:=λ e=>by rw[zAl e] at h;cases h
     have a5:=List.length_pos_iff.mpr U;refine qb8 (λ l=>∃ b k R',l=(qc9 n wr f z j o G c b (kL S) p (.int k) ((kL R')))/\O3 u b/\k∈R/\R'.length+1=R.length/\R'.Nodup/\∀ x,x∈R'↔x∈R/\x≠k) (λ K s=>?_) ?_
     . refine qe7 (qag2 (ys:=Ot R) rfl (qf7 (qc4 (ds:=[b,Op n wr f,.l z (Ot j),.l o (Ot G),.l false (stD c),kL S,p,r,kL R]) (m:=(R.length:Nat)) rfl B (by rw[qm1 (z:=false) (ys:=Ot R) rfl,qf4]) (by lia) (by lia) λ v b v0 v1 B=>?_)))
       obtain⟨k,A⟩:∃ k,R[v.toNat]? = some k:=⟨_,zAw (by lia)⟩
       refine qb9 (qa0 (a:=Ot R) rfl (qa0 (a:=(Ot (R.eraseIdx v.toNat),D.int k)) (qae3 v0 (by lia) A) (s _ ⟨b,k,_,rfl,B,zAx A,?_,L.sublist (Mg ..),λ x=>qaw1 L A⟩)));rw[Lw (by lia)];lia
     rintro l ⟨b,k,R',rfl,B,V,c4,b5,b6⟩;have a6:=((I k).mp V).1;refine qb1 (qc9 n wr f z j o G c b (kL (S.erase k)) p (.int k) ((kL R'))) (λ K s=>qf5 (qae1 (S:=S) (k:=k) rfl rfl a6 s)) ?_;refine qf5 (qA6 (ys:=stD c) (d:=.q [.str "take",.int k]) rfl rfl (by rw[qK9];unfold big;lia) ?_);rw[show D.q [.str "take",.int k]=D.q [.str (wS false),.int k] from rfl,qI6];refine t R'.length _ (by lia) ⟨b,_,_,_,_,_,rfl,B,W.take a6,rfl,by rw[zA6];show _+1+_<=_;lia,b5,λ x=>?_⟩;rw[b6,I,W.nd.mem_erase_iff];constructor
     . exact λ h=>⟨⟨h.2,h.1.1⟩,h.1.2⟩
     exact λ h=>⟨⟨h.1.2,h.2⟩,h.1.1⟩
   have he:R=[]:=by cases R with | nil=>rfl | cons _ _=>cases h
   subst he;exact s _ ⟨b,c,S,p,r,rfl,B,W,by simpa using E,λ x hx=>Classical.byContradiction λ z=>nomatch (I x).mpr ⟨hx,z⟩⟩
 rintro l ⟨b,c,S,p,r,rfl,B,W,E,b7⟩;refine qb1 [b,Op n wr f,.l z (Ot j),.l o (Ot G),.l false (stD c),kL S,p,r,kL (G.filter λ x=>!decide (x∈S))] (λ K s=>?_) ?_
 . refine qe7 (qa0 (a:=D.l o (Ot G)) rfl (qa0 (a:=Ot G) rfl ⟨qh9 G,?_⟩))
   refine ql0 (λ ι=>∃ d,ι=[d,kL S]) (Em λ x=>!decide (x∈S)) _ [] _ (by show 0+_ < 1000000;rw[qf4];lia) ⟨_,rfl⟩ ?_ ?_
   . rintro y hy ι O ⟨d,rfl⟩ R I J
     obtain⟨k,_,rfl⟩:=zBc.mp hy;have this:=I [.int k,kL S] ⟨_,rfl⟩;refine qm4 (qf6 (b:=!decide (k∈S)) (Ae rfl rfl qQ8) (ite_b (λ h=>?_) λ h=>?_))
     . rw[qU7 (by exact h)] at this
       exact qz9 (d:=.int k) rfl rfl ⟨J,this⟩
     rw[qU8 (by exact h)] at this;have this:R (O++[]) _:=this;rw[zAd] at this;exact this
   rintro ι ⟨d,rfl⟩;rw[qz7,zB5];exact s
 refine qb8 (λ l=>∃ b c T p r,l=(qc9 n wr f z j o G c b (kL S) p r (kL []))/\O3 u b/\Way (NCd n wr f) c T/\c.length<=330/\∀ x,x∈T↔x∈G) (λ K s=>?_) ?_
 . refine qE4 (λ m l=>∃ b c T p r R,l=(qc9 n wr f z j o G c b (kL S) p r (kL R))/\O3 u b/\Way (NCd n wr f) c T/\R.length=m/\c.length+R.length<=330/\R.Nodup/\(∀ x∈T,x∈G)/\∀ x,x∈R↔x∈G/\¬ x∈T) _ ⟨b,c,S,p,r,_,rfl,B,W,rfl,by have:=Lm (λ x=>!decide (x∈S)) G;lia,a0.filter _,b7,λ x=>by rw[zAz];simp⟩ ?_
   rintro m l ⟨b,c,T,p,r,R,rfl,B,W,rfl,E,L,a7,I⟩ K2 t;refine qf6 (b:=!decide (R=[])) (Ae rfl rfl (ne_ks R)) (ite_b (λ h=>?_) λ h=>?_)
   . have U:R≠[]:=λ e=>by rw[zAl e] at h;cases h
     have a5:=List.length_pos_iff.mpr U;refine qf5 (qag2 (ys:=stD c) rfl (qat7 (qe8 (y:=.str "put") rfl (qf7 (qag2 (ys:=Ot R) rfl (qf7 (qc4 (ds:=[b,Op n wr f,.l z (Ot j),.l o (Ot G),.l false (stD c),kL S,p,r,kL R]) (m:=(R.length:Nat)) rfl B (by rw[qm1 (z:=false) (ys:=Ot R) rfl,qf4]) (by lia) (by lia) λ v b v0 v1 B=>?_)))))));obtain⟨k,A⟩:∃ k,R[v.toNat]? = some k:=⟨_,zAw (by lia)⟩
     have V:=zAx A;obtain⟨a8,a9⟩:=(I k).mp V;refine qb9 (qa0 (a:=Ot R) rfl (qa0 (a:=(Ot (R.eraseIdx v.toNat),D.int k)) (qae3 v0 (by lia) A) (qb9 ⟨lt2,qb9 (qa0 (a:=stD c) rfl (qa0 (a:=(stD (c++[(true,k)]),D.non)) ?_ ?_))⟩)))
     . rw[<- qI6]
       exact if_pos (by rw[qK9];unfold big;lia)
     have c5:(R.eraseIdx v.toNat).length+1=R.length:=by rw[Lw (by lia)];lia
     have b8:=qaC9 W.nd a9;have M:∀ x∈T++[k],x∈G:=λ x hx=>by
       rcases zA8.mp hx with h | h
       . exact a7 x h
       rw[zAa.mp h];exact a8
     refine t (R.eraseIdx v.toNat).length _ (by lia) ⟨b,_,_,_,_,_,rfl,B,W.put (hG k a8) a9 (qaU6 b3 b8 a0 M),rfl,by rw[zA6];show _+1+_<=_;lia,L.sublist (Mg ..),M,λ x=>?_⟩;rw[qaw1 L A,I,zA8,zAa,not_or];exact⟨λ h=>⟨h.1.1,h.1.2,h.2⟩,λ h=>⟨⟨h.1,h.2.1⟩,h.2.2⟩⟩
   have he:R=[]:=by cases R with | nil=>rfl | cons _ _=>cases h
   subst he;exact s _ ⟨b,c,T,p,r,rfl,B,W,by simpa using E,λ x=>⟨a7 x,λ hx=>Classical.byContradiction λ z=>nomatch (I x).mpr ⟨hx,z⟩⟩⟩
 rintro l ⟨b,c,T,p,r,rfl,B,W,E,hT⟩;exact q b c T B W hT E
theorem qv3:qa9 ["self"] ["self"] (qa3 qg9):=by walk_at "s"
def qv1(C CP:γ):VSp:=Ay λ ds d=>∃ zr n wr ps g dn,ds=[Au zr C CP n wr ps g dn]/\d=.l false (Ou n.toNat g)
theorem qe0(T:Txt K mg a):VFn P w K mg base 1 a.f25 a.d25 ["self"] (qv1 a.C4 a.C3):=by
 refine VFn.mk2 T.d25.F qv3 (wOf [true]) qb2 (by walk_at "l") (λ _ _ _ _ _ _ _ f=>⟨_,(Ag (Aq (qa4 (Fv qh4 qM3.ops T.Cj (qa2 (Bj rfl (vnm 0) T.C5.cl T.C9) qa6 rfl))))),λ i Q j h=>?_⟩);obtain⟨d,⟨b,n,wr,c,g,e,rfl,rfl⟩,q⟩:=h;refine At [Au b a.C4 a.C3 n wr c g e] rfl ?_;refine qf3 (rL n g) ?_ q;unfold Ba A6;rw[A5 rfl qr2];exact ql2 (qD9 _ _)
theorem qP2:qa9 ["plan", "keys", "room"] ["plan", "keys", "room"] (qa3 qt3):=by walk_at "s"
def qO5(C:γ):VSp:=Ay λ ds d=>∃ z n wr ps z' ks r,ds=[Aa z C n wr ps,.l z' (Ot ks),.int r]/\1<=n/\(∀ k∈ks,Aj k)/\ks.length<=1000/\d=.bl (if wr=true then decide (r=0)&&decide (n < (ks.length:Int)) else decide (n - r < ((ks.filter λ k=>decide (r<=qc7 n ps k)).length:Int)))
theorem qQ6(T:Txt K mg a):VFn P w K mg base 5 a.f17 a.d17 ["plan", "keys", "room"] (qO5 a.C3):=by
 refine VFn.mk2 T.d17.F qP2 (wOf [true,true,true]) qb2 (by walk_at "l") (λ _ _ _ _ _ _ _ m=>⟨_,(Ac (sif (tv (Bj rfl (vnm 0) T.C6.cl T.Cb)) (Ag (Aq (qa4 (vand (v2 (A4 (qn6 m.u64) (qb0 _)) Bm (vnm 2) Af) (Iw (v2 (A4 Da (qb0 _)) Dc (vbi ql4 ql3.ops T.Ca (qa2 (vnm 1) qa6 rfl)) (Bj rfl (vnm 0) T.C6.cl T.C7))))))) Av) (Ag (Aq (e2v (A4 Da (qb0 _)) Dc (ebi ql4 ql3.ops T.Ca (Du (vaV (ecN (NY:=["key", "room", "plan"]) (src:=[none,some 2,some 0]) 1 (blk (λ o C s H0 t=>(Be 0 (show (["key", "room", "plan"]:List Str).Nodup by decide +kernel))) (λ o C s H0 t=>(Fl (q2v (A4 Gr (qb0 _)) (Am Gr (qb0 _)) Iq (qm5 2 T.d9 T.C6.cl (qp5 T) qt9 (rm m) (vaN 0 Ad)) (vnm 1)))) (λ o C s H0 t=>(qb5 (vnm 0))))) Ad))) (v2 (Ak qv7) qv4 (Bj rfl (vnm 0) T.C6.cl T.C7) (vnm 2)))))),λ E Q G h=>?_⟩);obtain⟨d,⟨z,n,wr,b,f,c,r,rfl,u,v,H,rfl⟩,q⟩:=h;refine At [Aa z a.C3 n wr b,.l f (Ot c),.int r] rfl ?_;refine qj1 wr (A5 rfl qw5) (λ h=>?_) λ h=>?_
 . rw[if_pos h] at q
   have g:f2 gGt (Ba (fx1 Fa) (A6 (rdN 1) λ _=>some [])) (f1 (D.fld a.C3 "rooms") (rdN 0)) [Aa z a.C3 n wr b,.l f (Ot c),.int r]=some (.bl (decide (n < (c.length:Int)))):=Ae (qm1 rfl) (A5 rfl qe1) (by rw[qf4];rfl);exact qf3 _ (qak1 (a:=decide (r=0)) rfl g) q
 rw[if_neg (by rw[h];decide)] at q;refine qk0 ?_;refine⟨qh9 c,?_⟩;refine ql0 (λ ι=>∃ d,ι=[d,.int r,Aa z a.C3 n wr b]) (Em λ k=>decide (r<=qc7 n b k)) (Ot c) [] _ (by show 0+(Ot c).length < big;rw[qf4];unfold big;lia) ⟨_,rfl⟩ ?_ ?_
 . rintro y A ι i ⟨d,rfl⟩ R B e
   obtain⟨k,j,rfl⟩:=zBc.mp A;refine qK7 (p:=Aa z a.C3 n wr b) (x:=.int k) (d:=.int (qc7 n b k)) rfl (qg0 rfl) rfl rfl ⟨z,n,wr,b,k,rfl,u,v k j,rfl⟩ rfl ?_;have this:=B _ ⟨.int k,rfl⟩;refine qa0 (a:=D.bl (decide (r<=qc7 n b k))) rfl (qa0 (a:=decide (r<=qc7 n b k)) rfl (ite_b (λ h=>?_) λ h=>?_))
   . rw[qU7 (p:=λ k=>decide (r<=qc7 n b k)) h] at this
     exact⟨rfl,e,this⟩
   rw[qU8 (p:=λ k=>decide (r<=qc7 n b k)) h] at this;have this:R (i++[]) _:=this;rw[zAd] at this;exact this
 rintro ι ⟨d,rfl⟩;rw[zB5,qz7];refine qa0 (a:=D.bl (decide (n - r < ((c.filter λ k=>decide (r<=qc7 n b k)).length:Int)))) ?_ q;show (f2 gSub (f1 (D.fld a.C3 "rooms") (rdN 0)) (rdN 2) [Aa z a.C3 n wr b,.l f (Ot c),.int r]).bind (gGt (D.int ((Ot (c.filter λ k=>decide (r<=qc7 n b k))).length:Nat)))=_;rw[Ae (A5 rfl qe1) rfl rfl,qf4];rfl
theorem qo2:qa9 ["plan", "keys", "room"] ["plan", "keys"] (qa3 qj6):=by walk_at "s"
def qM4(n:Int)(wr:Bool)(ps:Pr)(ks:List Int)(r:Int):Bool:=if wr=true then decide (r=0)&&decide (n < (ks.length:Int)) else decide (n - r < ((ks.filter λ k=>decide (r<=qc7 n ps k)).length:Int))
def qX0(n:Int)(wr:Bool)(ps:Pr)(ks:List Int):Option Nat:=(Kz n.toNat).find? λ r=>qM4 n wr ps ks (r:Int)
noncomputable def natD:Option Nat->D
 | none=>.non
 | some k=>.int (k:Int)
def qB0(C:γ):VSp:=Ay λ ds d=>∃ z n wr ps z' ks,ds=[Aa z C n wr ps,.l z' (Ot ks)]/\1<=n/\n<=64/\(∀ k∈ks,Aj k)/\ks.length<=1000/\d=natD (qX0 n wr ps ks)
theorem qB8(T:Txt K mg a):VFn P w K mg base 6 a.f18 a.d18 ["plan", "keys"] (qB0 a.C3):=by
 refine VFn.mk2 T.d18.F qo2 (wOf [true,true]) qb2 (by walk_at "l") (λ _ _ _ _ _ _ _ t=>⟨_,(Ac (qJ2 Nn T.Ci (Du (vaV (qb5 (Bj rfl (vnm 0) T.C6.cl T.C7)) Ad)) (Be 2 qo2.nd) (Ag (sif (te (Ah T.d17 (qQ6 T) qa1 (rm t) (vaN 0 (vaN 1 (vaN 2 Ad))))) (Ag (Aq (emv 2))) Av))) (Ag (Aq (qa4 Bb)))),λ g Q u h=>?_⟩);obtain⟨d,⟨z,n,wr,c,o,f,rfl,v,E,A,B,rfl⟩,q⟩:=h;refine At [Aa z a.C3 n wr c,.l o (Ot f),.u] rfl ?_;refine qb8 (λ g=>(∀ i,i < n.toNat->qM4 n wr c f (i:Int)=false)/\∃ d,g=[Aa z a.C3 n wr c,.l o (Ot f),d]) (λ K p=>?_) ?_
 . refine qR7 (A5 rfl qe1) (qR1 (by lia) (by lia)) ?_
   refine qd7 (λ i g=>(∀ j,j < i->qM4 n wr c f (j:Int)=false)/\∃ d,g=[Aa z a.C3 n wr c,.l o (Ot f),d]) _ 0 _ ⟨λ j r=>absurd r (zBx _),_,rfl⟩ ?_ ?_
   . rintro j x C g ⟨k,d,rfl⟩ K p
     rw[zAb] at k p;obtain⟨r,rfl⟩:=qF6 C;refine if_e (b:=qM4 n wr c f (j:Int)) (λ Q u q=>qR2 (x:=Aa z a.C3 n wr c) (y:=.l o (Ot f)) (w:=.int (j:Int)) rfl rfl rfl rfl rfl ⟨z,n,wr,c,o,f,_,rfl,v,A,B,rfl⟩ rfl q) (λ s=>?_) (λ s=>?_)
     . have e:qX0 n wr c f=some j:=List.find?_range_eq_some.mpr ⟨s,zAs.mpr r,λ i m=>by rw[k i m];rfl⟩
       rw[e] at q;exact q
     refine p _ ⟨λ i m=>?_,_,rfl⟩;rcases Nat.lt_succ_iff_lt_or_eq.mp m with h | rfl
     . exact k i h
     exact s
   rintro g ⟨k,D⟩;refine p _ ⟨λ i m=>k i ?_,D⟩;unfold Bp;rw[zAg,zB4,zAb];exact m
 rintro g ⟨k,d,rfl⟩;have e:qX0 n wr c f=none:=List.find?_range_eq_none.mpr λ i m=>by rw[k i m];rfl
 rw[e] at q;exact q
theorem qo1:qa9 ["plan", "keys", "room"] ["plan", "keys"] (qa3 qj4):=by walk_at "s"
theorem _root_.Row.Kept.perm{n:Nat}{wr:Bool}{hm:Int->Nat}{g:Nat->Option Int}{S:List Int}(KP:Kept n wr hm g S):((Kz n).filterMap g).Perm S:=by
 refine(Lv ?_ KP.h.1).mpr λ k=>?_
 . refine List.pairwise_filterMap.mpr (List.Pairwise.imp_of_mem (R:=(·≠·)) (λ{i j} a d f b l m c e=>?_) Lz)
   subst e;exact f (KP.o.inj i j b (zAs.mp a) (zAs.mp d) l c)
 rw[KP.h.2 k,List.mem_filterMap];exact⟨λ ⟨i,a,e⟩=>⟨i,zAs.mp a,e⟩,λ ⟨i,a,e⟩=>⟨i,zAs.mpr a,e⟩⟩
def qK5(n:Int)(wr:Bool)(ps:Pr)(ks:List Int):Prop:=∀ r:Nat,r < n.toNat->qM4 n wr ps ks (r:Int)=false
theorem qS1{n:Int}{wr:Bool}{ps:Pr}(h:qK5 n wr ps ks):qX0 n wr ps ks=none:=List.find?_range_eq_none.mpr λ i a=>by rw[h i a];rfl
theorem qas4{n:Int}{wr:Bool}{ps:Pr}(h1:1<=n)(a:r < n.toNat):qM4 n wr ps ks (r:Int)=true↔Crowd n.toNat wr (Oq n ps) ks r:=by
 unfold qM4 Crowd;cases wr with
 | true =>
   simp only[if_true,zBi,zB8];lia
 | false =>
   have e:(ks.filter λ k=>decide ((r:Int)<=qc7 n ps k))=ks.filter λ k=>decide (r<=Oq n ps k):=by
     apply Li;intro k _
     have:=qL3 (ps:=ps) h1 k
     apply zC1.mpr;lia
   simp only[Bool.false_eq_true,if_false,e,zB8];lia
theorem qK5.of{n:Int}{wr:Bool}{ps:Pr}(h1:1<=n)(h:∀ q,¬ Crowd n.toNat wr (Oq n ps) ks q):qK5 n wr ps ks:=λ r a=>by
 cases e:qM4 n wr ps ks (r:Int) with
 | false=>rfl
 | true=>exact absurd ((qas4 h1 a).mp e) (h r)
def qA8(C:γ):VSp:=Ay λ ds d=>∃ z n wr ps z' ks,ds=[Aa z C n wr ps,.l z' (Ot ks)]/\1<=n/\n<=64/\(∀ k∈ks,Aj k)/\ks.length<=1000/\qK5 n wr ps ks/\d=.non
theorem qB6(T:Txt K mg a):VFn P w K mg base 7 a.f19 a.d19 ["plan", "keys"] (qA8 a.C3):=by
 refine VFn.mk2 T.d19.F qo1 (wOf [true,true]) qb2 (by walk_at "l") (λ _ _ _ _ _ _ _ g=>⟨_,(Ac (Al 2 qo1.nd (Ah T.d18 (qB8 T) qa1 (rm g) (vaN 0 (vaN 1 Ad)))) (Ag (sif (q2 (Am qi8 (qb0 _)) qn4 (vnm 2) Bb) (Ag qn2) Av))),λ r Q s h=>?_⟩);obtain⟨d,⟨z,n,wr,c,e,f,rfl,i,j,k,m,o,rfl⟩,q⟩:=h;refine At [Aa z a.C3 n wr c,.l e (Ot f),.u] rfl ?_;refine qb1 [Aa z a.C3 n wr c,.l e (Ot f),.non] (λ K p=>?_) ?_
 . exact qK8 (x:=Aa z a.C3 n wr c) (y:=.l e (Ot f)) (d:=.non) rfl rfl rfl ⟨z,n,wr,c,e,f,rfl,i,j,k,m,by rw[qS1 o];rfl⟩ rfl p
 exact if_v (b:=false) rfl nofun λ _=>q
theorem qg5:qa9 ["plan", "rooms", "key", "came", "room", "held"] ["plan", "rooms", "key"] (qa3 qy1):=by walk_at "s"
def qY8(C:γ):VSp:=λ ds Q _=>∃ z n wr ps g S key,ds=[Aa z C n wr ps,rL n g,.int key]/\1<=n/\n<=64/\Aj key/\(∀ k∈S,Aj k)/\Kept n.toNat wr (Oq n ps) g S/\¬ key∈S/\(∃ e,Ig n.toNat wr (Oq n ps) g key e) /\
 ∀ came g',Kept n.toNat wr (Oq n ps) g' (S++[key])->Q (.l false came) [Aa z C n wr ps,rL n g',.int key]
theorem qD2(T:Txt K mg a):VFn P w K mg base 7 a.f20 a.d20 ["plan", "rooms", "key"] (qY8 a.C3):=by
 refine VFn.mk2 T.d20.F qg5 (wOf [true,true,false]) (by walk_at "m") (by walk_at "l") (λ _ _ _ _ _ _ _ j=>⟨_,(Ac (Al 3 qg5.nd (qa4 (Bl qa6))) (Ac (Al 4 qg5.nd (qm5 0 T.d9 T.C6.cl (qp5 T) qa1 (rm j) (vaN 2 Ad))) (Ac (qT0 Nn (q2 (Am qi8 (qb0 _)) qn4 (v2 (Aw qb4) An (vnm 1) (vnm 4)) Bb) (Ac (Al 5 qg5.nd (qb5 (v2 (Aw qb4) An (vnm 1) (vnm 4)))) (Ac (sif (te (qm5 0 T.d11 T.C6.cl (qi9 T) qa1 (rm j) (vaN 4 (vaN 2 (vaN 5 Ad))))) (Ac (Bc (Bi 3 qn8 Nq Nr Nt qc0 (vaV (qa4 (Es (qa2 (vnm 2) (qa2 (vnm 4) qa6 rfl) rfl))) Ad))) (Ac (Fc (qb5 (vnm 2)) (Ec (vpn 1) (vnm 4))) (Ag (Al 2 qg5.nd (qb5 (vnm 5)))))) Av) (Ag (Al 4 qg5.nd (qa4 (v2 (Ak qp3) qp2 (v2 (Ak qg4) qg3 (vnm 4) Af) (Bj rfl (vnm 0) T.C6.cl T.C7)))))))) (Ac (Bc (Bi 3 qn8 Nq Nr Nt qc0 (vaV (qa4 (Es (qa2 (vnm 2) (qa2 (vnm 4) qa6 rfl) rfl))) Ad))) (Ac (Fc (qb5 (vnm 2)) (Ec (vpn 1) (vnm 4))) (Ag (Aq (emv 3)))))))),λ o Q J h=>?_⟩);obtain⟨z,n,wr,f,g,S,key,rfl,u,X,s,L,KP,A,⟨e,Fr⟩,q⟩:=h;have M:=D7 (ps:=f) u key;have H:∀ x∈S++[key],Aj x:=λ x v=>by
   rcases zA8.mp v with h | h
   . exact L x h
   rw[zAa.mp h];exact s
 have E:(S++[key]).Nodup:=zBr.mpr ⟨KP.h.1,(by simp),λ x v y B e=>A (by rw[<- zAa.mp B,<- e];exact v)⟩;refine At [Aa z a.C3 n wr f,rL n g,.int key,.u,.u,.u] rfl ?_;refine qb1 [Aa z a.C3 n wr f,rL n g,.int key,.l false [],.u,.u] (λ K i=>i) ?_;refine qb1 [Aa z a.C3 n wr f,rL n g,.int key,.l false [],.int (Oq n f key:Nat),.u] (λ K i=>?_) ?_
 . exact qK7 (p:=Aa z a.C3 n wr f) (x:=.int key) (d:=.int (Oq n f key:Nat)) rfl (qg0 rfl) rfl rfl ⟨z,n,wr,f,key,rfl,u,s,by rw[qL3 u]⟩ rfl i
 refine qb8 (λ o=>∃ g2 c r came t,o=[Aa z a.C3 n wr f,rL n g2,.int c,.l false came,.int (r:Nat),t]/\Row.Walk n.toNat wr (Oq n f) (S++[key]) key e g2 c r/\g2 r=none/\came.length<=64) (λ K i=>?_) ?_
 . have W0:=KP.start A Fr
   refine qE4 (λ m o=>∃ g2 c r came t,o=[Aa z a.C3 n wr f,rL n g2,.int c,.l false came,.int (r:Nat),t]/\Row.Walk n.toNat wr (Oq n f) (S++[key]) key e g2 c r/\m=Ab n.toNat (Oq n f key) e - Ab n.toNat (Oq n f key) r/\came.length+m<=64) _ ⟨g,key,Oq n f key,[],_,rfl,W0,rfl,by have:=qi0 Fr.1 M;show 0+_<=64;lia⟩ ?_;rintro m o ⟨g2,c,r,came,t,rfl,W,rfl,N⟩ K2 G;have j:=W.hr;cases k:g2 r with
   | none =>
     refine qf6 (b:=false) (Ae (Ae rfl rfl (E3 j)) rfl (by rw[k];rfl)) ?_;exact i _ ⟨g2,c,r,came,t,rfl,W,k,by lia⟩
   | some y =>
     refine qf6 (b:=true) (Ae (Ae rfl rfl (E3 j)) rfl (by rw[k];rfl)) ?_;have v:wr=false->Oq n f c<=r:=λ h=>(W.ln h).2.1
     have B:wr=false->Oq n f y<=r:=λ h=>(W.ln h).2.2 r y j k
     have O:Aj c:=H c ((W.all c).mpr (.inl rfl));have R:Aj y:=H y ((W.all y).mpr (.inr ⟨r,j,k⟩));have Y:=W.lt k;have I:=W.nx k;refine B8 rfl ?_;refine qb1 [Aa z a.C3 n wr f,rL n g2,.int c,.l false came,.int (r:Nat),.int y] (λ K i=>?_) ?_
     . exact qT4 (d:=.int y) (Ae rfl rfl (by rw[E3 j,k];rfl)) rfl i
     refine qb8 (λ o=>∃ g3 C came3,o=[Aa z a.C3 n wr f,rL n g3,.int C,.l false came3,.int (r:Nat),.int y]/\Row.Walk n.toNat wr (Oq n f) (S++[key]) key e g3 C (Row.next n.toNat r)/\came3.length<=came.length+1) (λ K i=>?_) ?_
     . refine if_e (b:=ql1 n wr f (r:Nat) c y) (λ Q J q=>qaV2 (p:=Aa z a.C3 n wr f) (x:=.int (r:Nat)) (y:=.int c) (w:=.int y) rfl (qg0 rfl) rfl rfl rfl rfl rfl rfl ⟨z,n,wr,f,(r:Nat),c,y,rfl,u,by lia,by lia,O,R,rfl⟩ rfl q) (λ D=>?_) (λ D=>?_)
       . have U:=(qI0 u j v B).mp D
         refine qb1 [Aa z a.C3 n wr f,rL n g2,.int c,.l false (came++[.q [.int c,.int (r:Nat)]]),.int (r:Nat),.int y] (λ K i=>?_) ?_
         . exact qA6 (ys:=came) (d:=.q [.int c,.int (r:Nat)]) rfl rfl (by show came.length < 1000000;lia) i
         refine qb1 [Aa z a.C3 n wr f,rL n (Row.set g2 r c),.int c,.l false (came++[.q [.int c,.int (r:Nat)]]),.int (r:Nat),.int y] (λ K i=>?_) ?_
         . refine qI5 (d:=.int c) (ys:=Ou n.toNat g2) rfl rfl rfl rfl (Hq j) ?_
           rw[qF0];exact i
         exact qT4 (d:=.int y) rfl rfl (i _ ⟨Row.set g2 r c,y,_,rfl,W.swap k U,by rw[zA6];exact zA2 _⟩)
       exact i _ ⟨g2,c,came,rfl,W.on k (λ h=>by rw[(qI0 u j v B).mpr h] at D;cases D),by lia⟩
     rintro o ⟨g3,C,came3,rfl,W3,V⟩;refine qq7 (d:=.int (Row.next n.toNat r:Nat)) (Ae (Ae rfl rfl rfl) (A5 rfl qe1) (by rw[Eg (by lia),qaC7 u j])) ?_;exact G _ _ (by rw[I];lia) ⟨g3,C,_,came3,_,rfl,W3,rfl,by rw[I];lia⟩
 rintro o ⟨g2,c,r,came,t,rfl,W,k,N⟩;have j:=W.hr;refine qb1 [Aa z a.C3 n wr f,rL n g2,.int c,.l false (came++[.q [.int c,.int (r:Nat)]]),.int (r:Nat),t] (λ K i=>?_) ?_
 . exact qA6 (ys:=came) (d:=.q [.int c,.int (r:Nat)]) rfl rfl (by show came.length < 1000000;lia) i
 refine qb1 [Aa z a.C3 n wr f,rL n (Row.set g2 r c),.int c,.l false (came++[.q [.int c,.int (r:Nat)]]),.int (r:Nat),t] (λ K i=>?_) ?_
 . refine qI5 (d:=.int c) (ys:=Ou n.toNat g2) rfl rfl rfl rfl (Hq j) ?_
   rw[qF0];exact i
 exact q _ _ (W.done E k)
theorem qx7:qa9 ["self"] ["self"] (qa3 qi2):=by walk_at "s"
noncomputable def Fq(y:D):Option D:=match y with
 | .int k=>some (.int k)
 | _=>none
theorem qR5(N:Nat)(g:Nat->Option Int):(Ou N g).filterMap Fq=Ot ((Kz N).filterMap g):=by
 unfold Ou Ot;rw[Mp,List.map_filterMap];refine congrArg (λ f=>M5 f (Kz N)) (funext λ i=>?_);show Fq (Di (g i))=(g i).map D.int;cases g i<;>rfl
def qx2(C CP:γ):VSp:=Ay λ ds d=>∃ zr n wr ps g dn,ds=[Au zr C CP n wr ps g dn]/\n<=64/\d=.l false (Ot ((Kz n.toNat).filterMap g))
theorem qh0(T:Txt K mg a):VFn P w K mg base 1 a.f26 a.d26 ["self"] (qx2 a.C4 a.C3):=by
 refine VFn.mk2 T.d26.F qx7 (wOf [true]) qb2 (by walk_at "l") (λ _ _ _ _ _ _ _ u=>⟨_,(Ag (Aq (eAlt (ecP (NY:=["key"]) (src:=[none]) (Ek rfl (vpn 0) T.C5.cl T.C9) (blk (λ i C j H0 m=>(Be 0 (show (["key"]:List Str).Nodup by decide +kernel))) (λ i C j H0 m=>(Fl (q2 (Am qi8 (qb0 _)) qn4 (vnm 0) Bb))) (λ i C j H0 m=>(qb5 (vnm 0))))) (ecL (NY:=["key"]) (src:=[none]) (qb5 (Bj rfl (vnm 0) T.C5.cl T.C9)) (blk (λ i C j H0 m=>(Be 0 (show (["key"]:List Str).Nodup by decide +kernel))) (λ i C j H0 m=>(Fl (q2 (Am qi8 (qb0 _)) qn4 (vnm 0) Bb))) (λ i C j H0 m=>(qb5 (vnm 0)))))))),λ v Q x h=>?_⟩);obtain⟨d,⟨r,n,wr,s,g,t,rfl,z,rfl⟩,q⟩:=h;refine At [Au r a.C4 a.C3 n wr s g t] rfl ?_;have step:∀(y:D),y∈Ou n.toNat g->∀(d:D)(c:Ds)(R:Ds->Ds->Prop),(∀ ι',(∃ d,ι'=[d])->R (c++(Fq y).toList) ι')->c.length < big->gNm 0 y [d] λ ι1=>ttV (f2 gIsn (rdN 0) (kC .non)) ι1 (λ b ι2=>if b=true then Db (rdN 0) ι2 (λ d ι3=>c.length < big/\R (c++[d]) ι3) (λ _ _=>False) else R c ι2) (λ _ _=>False):=λ y o d c R p f=>by
   have this:=p [y] ⟨_,rfl⟩;refine qm4 ?_;rcases Jj o with rfl | ⟨k,rfl⟩
   . have this:R (c++[]) _:=this
     rw[zAd] at this;exact qf6 (b:=false) (Ae rfl rfl rfl) (Dk (by decide) this)
   exact qf6 (b:=true) (Ae rfl rfl rfl) (B8 rfl (qz9 (d:=.int k) rfl rfl ⟨f,this⟩))
 cases r with
 | false =>
   refine qk0 (.inl (qa0 (a:=(0,[1])) (by show (D.fidx a.C4 "held" (rA a n wr s g t)).map (λ n=>(0,[n]))=_;rw[qs1];rfl) (qa0 (a:=D.l false (Ou n.toNat g)) rfl (qa0 (a:=Ou n.toNat g) rfl ⟨qD9 _ _,λ w=>?_⟩))));refine ql0 (λ ι=>∃ d,ι=[d]) Fq _ [] _ (by show 0+_ < 1000000;rw[qo4];lia) ⟨_,rfl⟩ (λ y o ι c ⟨d,e⟩ R p f=>e ▸ step y o d c R p f) ?_;rintro ι ⟨d,rfl⟩;rw[qR5,zB5];exact qa0 (qaZ2 rfl) q
 | true =>
   refine qk0 (.inr (qz9 (d:=.l true (Ou n.toNat g)) (A5 rfl qr2) rfl (qa0 (a:=Ou n.toNat g) rfl ⟨qD9 _ _,?_⟩)));refine ql0 (λ ι=>∃ d,ι=[d]) Fq _ [] _ (by show 0+_ < 1000000;rw[qo4];lia) ⟨_,rfl⟩ (λ y o ι c ⟨d,e⟩ R p f=>e ▸ step y o d c R p f) ?_;rintro ι ⟨d,rfl⟩;rw[qR5,zB5];exact q
theorem qq9:qa9 ["self", "key"] ["self", "key"] (qa3 ql6):=by walk_at "s"
noncomputable def Fe:Option Int->V
 | some k=>.int k
 | none=>.non
theorem qp9(N:Nat)(g:Nat->Option Int):flats (Ou N g)=some ((Kz N).map λ i=>Fe (g i)):=by
 have:∀ l:List Nat,flats (l.map λ i=>Di (g i))=some (l.map λ i=>Fe (g i)):=λ l=>by
   induction l with
   | nil=>rfl
   | cons a l b =>
     show ((Di (g a)).flat.bind λ v=>(flats (l.map λ i=>Di (g i))).bind λ c=>some (v::c))=_;rw[b,zAy];cases g a<;>rfl
 exact this _
noncomputable def B9(N:Nat)(g:Nat->Option Int)(k:Int):Option Nat:=(Kz N).findIdx? λ i=>decide (g i=some k)
def Bz(N:Nat)(g:Nat->Option Int)(k:Int):D:=match B9 N g k with
 | some i=>.int (i:Nat)
 | none=>.non
theorem qax2{o:Option Int}:eqV (Fe o) (.int k)=decide (o=some k):=by
 cases o with
 | none=>rfl
 | some a =>
   show decide (a=k)=_;exact zC1.mpr ⟨λ h=>by rw[h],λ h=>Nm h⟩
theorem qV5{k:Int}{g:Nat->Option Int}:∀ l:List Nat,Bs (.int k) (l.map λ i=>Fe (g i))=l.findIdx? λ i=>decide (g i=some k)
 | []=>rfl
 | a::l=>by
   show (if eqV (Fe (g a)) (.int k)=true then some 0 else (Bs (.int k) (l.map λ i=>Fe (g i))).map (· + 1))=_;rw[qax2,qV5 l,zCg]
theorem qaq8{k:Int}{g:Nat->Option Int}:∀ l:List Nat,inV (.int k) (l.map λ i=>Fe (g i))=(l.findIdx? λ i=>decide (g i=some k)).isSome
 | []=>rfl
 | a::l=>by
   have b:=qaq8 (k:=k) (g:=g) l;unfold inV at b ⊢;rw[zAy,zCd,b,zCg];have e:=qax2 (o:=g a) (k:=k);cases h:decide (g a=some k) with
   | true=>rw[h] at e;simp[e]
   | false=>rw[h] at e;simp[e]
theorem qao3{g:Nat->Option Int}(h:∀ i,i < N->g i≠some k):Bz N g k=.non:=by
 have:B9 N g k=none:=List.findIdx?_eq_none_iff.mpr λ i a=>zBe (h i (zAs.mp a))
 unfold Bz;rw[this]
theorem qT5{g:Nat->Option Int}(hi:i < N)(e:g i=some k):∃ j:Nat,Bz N g k=.int (j:Nat):=by
 unfold Bz;cases h:B9 N g k with
 | some j=>exact⟨j,rfl⟩
 | none =>
   have:=List.findIdx?_eq_none_iff.mp h i (zAs.mpr hi)
   rw[zAl e] at this;cases this
def qE7(C CP:γ):VSp:=Ay λ ds d=>∃ zr n wr ps g dn k,ds=[Au zr C CP n wr ps g dn,.int k]/\Aj k/\d=Bz n.toNat g k
theorem qk4(T:Txt K mg a):VFn P w K mg base 4 a.f28 a.d28 ["self", "key"] (qE7 a.C4 a.C3):=by
 refine VFn.mk2 T.d28.F qq9 (wOf [true,true]) qb2 (by walk_at "l") (λ _ _ _ _ _ _ _ r=>⟨_,(Ac (sif (Br (te (Ah T.d3 (qc6 T) qa1 (rm r) (vaN 1 Ad)))) (Ag qn2) Av) (Ag (Aq (eif (q2 (Am qr3 (by with_unfolding_all rfl)) Ej (vnm 1) (Bj rfl (vnm 0) T.C5.cl T.C9)) (qa4 (vbm qaB8 Nq Nu Nv qG3 (Bj rfl (vnm 0) T.C5.cl T.C9) (vnm 1) qaj0)) (qa4 Bb))))),λ u Q s h=>?_⟩);obtain⟨d,⟨f,n,wr,o,g,p,k,rfl,t,rfl⟩,q⟩:=h;refine At [Au f a.C4 a.C3 n wr o g p,.int k] rfl ?_;refine Fo (λ Q s q=>qJ6 (x:=.int k) (d:=.bl true) rfl (qap6 t) rfl q) (qk0 ?_);have m:f2 (Gd false) (rdN 1) (f1 (D.fld a.C4 "held") (rdN 0)) [Au f a.C4 a.C3 n wr o g p,.int k]=some (.bl (B9 n.toNat g k).isSome):=by
   refine Ae (x:=.int k) (y:=.l f (Ou n.toNat g)) rfl (A5 rfl qr2) ?_;show ((flats (Ou n.toNat g)).bind λ b=>some (D.bl (if false=true then !inV (.int k) b else inV (.int k) b)))=_;rw[qp9];show some (D.bl (inV (.int k) _))=_;rw[qaq8];rfl
 refine Fp m (λ h=>?_) λ h=>?_
 . obtain⟨i,c⟩:=zB0.mp h
   refine qv9 (d:=.int (i:Nat)) (Ae (A5 rfl qr2) rfl ?_) ?_
   . show ((some (V.int k)).bind λ v=>(flats (Ou n.toNat g)).bind λ b=>(Bs v b).map λ j=>D.int (j:Nat))=_
     rw[qp9];show (Bs (.int k) _).map _=_;rw[qV5];show (B9 n.toNat g k).map _=_;rw[c];rfl
   unfold Bz at q;rw[c] at q;exact q
 refine qv9 (d:=.non) rfl ?_;have c:B9 n.toNat g k=none:=by cases e:B9 n.toNat g k with | none=>rfl | some i=>rw[e] at h;cases h
 unfold Bz at q;rw[c] at q;exact q
theorem qad2:qa9 ["self", "key"] ["self", "key"] (qa3 qF4):=by walk_at "s"
theorem qH3{C CP:γ}{n:Int}{wr:Bool}{ps:Pr}{g:Nat->Option Int}{dn:Ds}:D.fidx C "done" (Au false C CP n wr ps g dn)=some 2:=by
 show (if C=C then List.findIdx? (λ q:Str×D=>("done" : Str) == q.1) [("plan",Aa true CP n wr ps),("held",rL n g),("done",.l false dn)] else none)=_;rw[if_pos rfl];rfl
def qac3(C CP:γ):VSp:=λ ds Q _=>∃ n wr ps g dn S k,ds=[Au false C CP n wr ps g dn,.int k]/\1<=n/\n<=64/\Aj k/\(∀ x∈S,Aj x)/\Kept n.toNat wr (Oq n ps) g S/\¬ k∈S/\(∀ q,¬ Crowd n.toNat wr (Oq n ps) (S++[k]) q)/\dn.length<=1000 /\
 ∀ came g',Kept n.toNat wr (Oq n ps) g' (S++[k])->Q (.l false came) [Au false C CP n wr ps g' (dn++[.q [.str "put",.int k]]),.int k]
theorem qaf7(T:Txt K mg a):VFn P w K mg base 8 a.f29 a.d29 ["self", "key"] (qac3 a.C4 a.C3):=by
 refine VFn.mk2 T.d29.F qad2 (wOf [true,true]) (by walk_at "m") (by walk_at "l") (λ _ _ _ _ _ _ _ r=>⟨_,(Ac (sif (q2v (A4 qi8 (qb0 _)) (Am qi8 (qb0 _)) qn4 (qm5 0 T.d28 T.C5.cl (qk4 T) qa1 (rm r) (vaN 1 Ad)) Bb) (Ag qn2) Av) (Ac (Bc (Ah T.d19 (qB6 T) qa1 (rm r) (vaV (qb5 (Bj rfl (vnm 0) T.C5.cl T.Cd)) (vaV (e2v (Ak qg4) qg3 (qk9 0 T.d26 T.C5.cl (qh0 T) qa1 (rm r)) (Bl (qa2 (vnm 1) qa6 rfl))) Ad)))) (Ac (Bc (emutP qn8 Nq Nr Nt qc0 (Ek rfl (vpn 0) T.C5.cl T.Cc) (vaV (qa4 (Es (qa2 Dt (qa2 (vnm 1) qa6 rfl) rfl))) Ad))) (Ag (Aq (Ah T.d20 (qD2 T) qa1 (rm r) (vaV (qb5 (Bj rfl (vnm 0) T.C5.cl T.Cd)) (vaB (Ek rfl (vpn 0) T.C5.cl T.C9) (vaN 1 Ad))))))))),λ L Q M h=>?_⟩);obtain⟨n,wr,b,g,f,S,k,rfl,s,t,u,A,KP,j,C,H,q⟩:=h;have E:=KP.perm;have N:((Kz n.toNat).filterMap g).length<=64:=by
   have:=L7 g (Kz n.toNat)
   rw[zB4] at this;lia
 refine At [rA a n wr b g f,.int k] rfl ?_;refine qh2 false (λ Q q=>qJ5 ?_) nofun λ _=>?_
 . refine qK7 (p:=rA a n wr b g f) (x:=.int k) (d:=.non) rfl (qe6 rfl) rfl rfl ⟨false,n,wr,b,g,f,k,rfl,u,(qao3 λ i I e=>j ((KP.h.2 k).mpr ⟨i,I,e⟩)).symm⟩ rfl ?_
   exact qa0 (a:=D.bl false) rfl (qa0 (a:=false) rfl q)
 refine qb1 [rA a n wr b g f,.int k] (λ K v=>qf5 (qh3 ?_)) ?_
 . refine qd8 (y:=Aa true a.C3 n wr b) (A5 rfl qr1) rfl (qf7 (qA7 ?_))
   refine qG6 (p:=rA a n wr b g f) (d:=kL ((Kz n.toNat).filterMap g)) rfl (qe6 rfl) ⟨false,n,wr,b,g,f,rfl,t,rfl⟩ rfl ?_;refine qa0 (a:=D.l false (Ot ((Kz n.toNat).filterMap g++[k]))) (qaG1 (z:=false) (z':=false) (B:=[k]) (by show _+1<=1000;lia)) (qb9 ?_);refine⟨_,⟨true,n,wr,b,false,_,rfl,s,t,λ x J=>?_,by rw[zA6];show _+1<=1000;lia,qK5.of s λ q c=>C q (c.perm (E.append_right [k])),rfl⟩,v⟩;rcases zA8.mp J with h | h
   . exact A x (E.subset h)
   rw[zAa.mp h];exact u
 refine qb1 [rA a n wr b g (f++[.q [.str "put",.int k]]),.int k] (λ K v=>qf5 ?_) ?_
 . refine qag1 (i:=0) (p:=[2]) (ys:=f) (d0:=rA a n wr b g f) (by show (D.fidx a.C4 "done" (rA a n wr b g f)).map (λ n=>(0,[n]))=_;rw[qH3];rfl) rfl rfl ?_
   exact qe8 (y:=.q [.str "put",.int k]) rfl (qb9 (qa0 (a:=(f++[D.q [.str "put",.int k]],D.non)) (if_pos (show f.length < big by unfold big;lia)) v))
 generalize f++[.q [.str "put",.int k]]=o at q ⊢;refine qk0 (qh3 (qd8 (y:=Aa true a.C3 n wr b) (A5 rfl qr1) rfl ?_));refine qa0 (a:=(0,[1])) (by show (D.fidx a.C4 "held" (rA a n wr b g o)).map (λ n=>(0,[n]))=_;rw[qs1];rfl) (qa0 (a:=D.l false (Ou n.toNat g)) rfl ⟨rfl,λ w=>?_⟩);refine qc2 (x:=.int k) rfl (qb9 (qa0 (a:=D.int k) rfl ?_));refine⟨true,n,wr,b,g,S,k,rfl,s,t,u,A,KP,j,?_,λ came G K'=>?_⟩
 . by_cases h:∃ e,Ig n.toNat wr (Oq n b) g k e
   . exact h
   obtain⟨q,c⟩:=KP.crowd λ e z=>h ⟨e,z⟩
   exact absurd c (C q)
 refine qa0 (a:=[rA a n wr b G o,.int k]) ?_ (q came G K');show Ap (.pl 0 [1] w::_) _ _=_;rw[qk7 rfl];rfl
theorem qF1:qa9 ["plan", "room"] ["plan", "room"] (qa3 ql5):=by walk_at "s"
def qq5(C:γ):VSp:=Ay λ ds d=>∃ z n wr ps r,ds=[Aa z C n wr ps,.int r]/\d=(if r < n - 1 then .int (r+1) else if wr=true then .int 0 else .non)
theorem qr5(T:Txt K mg a):VFn P w K mg base 1 a.f21 a.d21 ["plan", "room"] (qq5 a.C3):=by
 refine VFn.mk2 T.d21.F qF1 (wOf [true,true]) qb2 (by walk_at "l") (λ _ _ _ _ _ _ _ e=>⟨_,(Ac (sif (q2 (Am Hv (qb0 _)) Im (vnm 1) (v2 (Ak qv7) qv4 (Bj rfl (vnm 0) T.C6.cl T.C7) Af)) (Ag (Aq (qa4 (v2 (Ak qg4) qg3 (vnm 1) Af)))) Av) (Ag (Aq (eif (tv (Bj rfl (vnm 0) T.C6.cl T.Cb)) (qa4 Af) (qa4 Bb))))),λ f Q g h=>?_⟩);obtain⟨d,⟨z,n,wr,c,r,rfl,rfl⟩,q⟩:=h;refine At [Aa z a.C3 n wr c,.int r] rfl ?_;refine qj1 (decide (r < n - 1)) (Ae rfl (Ae (A5 rfl qe1) rfl rfl) rfl) (λ h=>?_) λ h=>?_
 . rw[if_pos (zAe h)] at q
   exact qf3 (.int (r+1)) rfl q
 rw[if_neg (zB9 h)] at q;refine qk0 (Fp (b:=wr) (A5 rfl qw5) (λ h=>?_) (λ h=>?_))
 . rw[if_pos h] at q
   exact qv9 (d:=.int 0) rfl q
 rw[if_neg (by rw[h];decide)] at q;exact q
theorem qx6:qa9 ["plan", "rooms", "room"] ["plan", "rooms", "room"] (qa3 qi1):=by walk_at "s"
def qx1(C:γ):VSp:=Ay λ ds d=>∃ z n wr ps z' g x,ds=[Aa z C n wr ps,.l z' (Ou n.toNat g),x]/\1<=n/\(x=.non/\d=.bl false∨∃ r:Nat,r < n.toNat/\x=.int (r:Nat)/\(g r=none/\d=.bl false∨∃ k,g r=some k/\Aj k/\(wr=false->Oq n ps k<=r)/\d=.bl (decide (0 < Ab n.toNat (Oq n ps k) r))))
theorem qz1(T:Txt K mg a):VFn P w K mg base 6 a.f22 a.d22 ["plan", "rooms", "room"] (qx1 a.C3):=by
 refine VFn.mk2 T.d22.F qx6 (wOf [true,true,true]) qb2 (by walk_at "l") (λ _ _ _ _ _ _ _ c=>⟨_,(Ag (Aq (Ev (qa4 (v2 (A4 qi8 (qb0 _)) qn4 (vnm 2) Bb)) (Ev (qa4 (v2 (A4 qi8 (qb0 _)) qn4 (v2 (Aw qb4) An (vnm 1) (vnm 2)) Bb)) (F7 (e2v (A4 Da (qb0 _)) Dc (qm5 0 T.d10 T.C6.cl (qj0 T) qa1 (rm c) (vaV (qb5 (v2 (Aw qb4) An (vnm 1) (vnm 2))) (vaN 2 Ad))) Af)))))),λ i Q j h=>?_⟩);obtain⟨d,⟨z,n,wr,b,e,g,x,rfl,f,h⟩,q⟩:=h;refine At [Aa z a.C3 n wr b,.l e (Ou n.toNat g),x] rfl ?_;rcases h with⟨rfl,rfl⟩ | ⟨r,c,rfl,h⟩
 . exact qk0 (E4 false rfl nofun λ _=>q)
 rcases h with⟨hg,rfl⟩ | ⟨k,hg,hk,hl,rfl⟩
 . exact qk0 (E4 true rfl (λ _=>E4 false (Ae (Ae rfl rfl (E3 c)) rfl (by rw[hg];rfl)) nofun λ _=>q) nofun)
 refine qk0 (E4 true rfl (λ _=>E4 true (Ae (Ae rfl rfl (E3 c)) rfl (by rw[hg];rfl)) (λ _=>qA7 ?_) nofun) nofun);refine qC0 (p:=Aa z a.C3 n wr b) rfl (qg0 rfl) (qd8 (y:=.int k) (Ae rfl rfl (by rw[E3 c,hg];rfl)) rfl (qc2 (x:=.int (r:Nat)) rfl (qb9 (qa0 (a:=D.int (r:Nat)) rfl (qa0 (a:=Aa z a.C3 n wr b) rfl ⟨_,⟨z,n,wr,b,k,(r:Nat),rfl,f,hk,by lia,by lia,rfl⟩,?_⟩)))));rw[qM1 f c hl];refine qa0 (a:=[Aa z a.C3 n wr b,.l e (Ou n.toNat g),.int (r:Nat)]) rfl ?_;refine qa0 (a:=D.bl (decide (0 < ((Ab n.toNat (Oq n b k) r:Nat):Int)))) rfl ?_;rw[zC1.mpr (show (0 < ((Ab n.toNat (Oq n b k) r:Nat):Int))↔0 < Ab n.toNat (Oq n b k) r by lia)];exact q
theorem qg7:qa9 ["plan", "rooms", "room", "came", "behind"] ["plan", "rooms", "room"] (qa3 qt2):=by walk_at "s"
noncomputable def qu8(N:Nat)(wr:Bool)(p:Nat):D:=if p+1 < N then .int (p+1:Nat) else if wr=true then .int 0 else .non
theorem qat2{n:Int}{wr:Bool}{p:Nat}(a:1<=n)(b:p < n.toNat):(if ((p:Nat):Int) < n - 1 then D.int (((p:Nat):Int)+1) else if wr=true then D.int 0 else D.non)=qu8 n.toNat wr p:=by
 unfold qu8;by_cases h:p+1 < n.toNat
 . rw[if_pos (by lia),if_pos h];rfl
 rw[if_neg (by lia),if_neg h]
theorem qab2{wr:Bool}{p:Nat}(a:p < N):qu8 N wr p=.int (Row.next N p:Nat)∨(qu8 N wr p=.non/\wr=false/\p+1=N):=by
 unfold qu8;have h:=nor N p;by_cases e:p+1 < N
 . rw[if_pos e];exact .inl (by rw[show Row.next N p=p+1 by lia])
 rw[if_neg e];cases wr with
 | true=>exact .inl (by rw[if_pos rfl,show Row.next N p=0 by lia];rfl)
 | false=>exact .inr ⟨rfl,rfl,by lia⟩
def qO4(C:γ):VSp:=λ ds Q _=>∃ z n wr ps g S k r,ds=[Aa z C n wr ps,rL n g,.int (r:Nat)]/\1<=n/\n<=64/\(∀ x∈S,Aj x)/\Kept n.toNat wr (Oq n ps) g S/\r < n.toNat/\g r=some k /\
 ∀ came g',Kept n.toNat wr (Oq n ps) g' (S.filter λ x=>decide (x≠k))->Q (.l false came) [Aa z C n wr ps,rL n g',.int (r:Nat)]
abbrev qo6 (z) (a:Adr) (n:Int) (wr:Bool) (ps:Pr) (r) (J) (came) (x) (nx) (p1:D):=([Aa z a.C3 n wr ps,p1,.int (rot n.toNat r J:Nat),.l false (came++[D.q [.int x,.int (rot n.toNat r J:Nat)]]),.int (nx:Nat)]:Ds)
theorem qz2(T:Txt K mg a):VFn P w K mg base 7 a.f23 a.d23 ["plan", "rooms", "room"] (qO4 a.C3):=by
 refine VFn.mk2 T.d23.F qg7 (wOf [true,true,false]) (by walk_at "m") (by walk_at "l") (λ _ _ _ _ _ _ _ b=>⟨_,(Ac (Al 3 qg7.nd (qa4 (Bl qa6))) (Ac (Fc (qa4 Bb) (Ec (vpn 1) (vnm 2))) (Ac (Al 4 qg7.nd (Ah T.d21 (qr5 T) qa1 (rm b) (vaN 0 (vaN 2 Ad)))) (Ac (qT0 Nn (te (Ah T.d22 (qz1 T) qa1 (rm b) (vaN 0 (vaN 1 (vaN 4 Ad))))) (Ac (Bc (Bi 3 qn8 Nq Nr Nt qc0 (vaV (qa4 (Es (qa2 (v2 (Aw qb4) An (vnm 1) (vnm 4)) (qa2 (vnm 2) qa6 rfl) rfl))) Ad))) (Ac (Fc (qb5 (v2 (Aw qb4) An (vnm 1) (vnm 4))) (Ec (vpn 1) (vnm 2))) (Ac (Fc (qa4 Bb) (Ec (vpn 1) (vnm 4))) (Ac (Al 2 qg7.nd (qb5 (vnm 4))) (Ag (Al 4 qg7.nd (Ah T.d21 (qr5 T) qa1 (rm b) (vaN 0 (vaN 2 Ad)))))))))) (Ag (Aq (emv 3))))))),λ G Q Y h=>?_⟩);obtain⟨z,n,wr,f,g,S,k,r,rfl,I,n2,hS,KP,b,Z,q⟩:=h;refine At [Aa z a.C3 n wr f,rL n g,.int (r:Nat),.u,.u] rfl ?_;refine qb1 [Aa z a.C3 n wr f,rL n g,.int (r:Nat),.l false [],.u] (λ K t=>t) ?_;have e0:Ou n.toNat (λ j=>if j=r then none else g j)=Ou n.toNat (As n.toNat g r 0):=qj9 λ i hi=>(qx3 b hi).symm
 refine qb1 [Aa z a.C3 n wr f,rL n (As n.toNat g r 0),.int (rot n.toNat r 0:Nat),.l false [],.u] (λ K t=>?_) ?_
 . refine qT1 (d:=.non) (ys:=Ou n.toNat g) rfl rfl rfl (Hq b) ?_
   rw[show (Ou n.toNat g).set r .non=Ou n.toNat (λ j=>if j=r then none else g j) from qad0 (o:=none),e0];rw[qad8 b] at t;exact t
 have bh:∀(J:Nat)(K:Ds->Prop)(Y:XKd)(H L:D),J < n.toNat->K [Aa z a.C3 n wr f,rL n (As n.toNat g r J),.int (rot n.toNat r J:Nat),H,qu8 n.toNat wr (rot n.toNat r J)]->qj3 (qq5 a.C3) [] (tbN 0 (tbN 2 Ax)) [Aa z a.C3 n wr f,rL n (As n.toNat g r J),.int (rot n.toNat r J:Nat),H,L] (λ d a0=>K (a0.set 4 d)) Y:=λ J K Y H L hJ t =>
   qK8 (x:=Aa z a.C3 n wr f) (y:=.int (rot n.toNat r J:Nat)) rfl rfl rfl ⟨z,n,wr,f,_,rfl,(qat2 I (qQ0 b hJ)).symm⟩ rfl t
 refine qb1 [Aa z a.C3 n wr f,rL n (As n.toNat g r 0),.int (rot n.toNat r 0:Nat),.l false [],qu8 n.toNat wr (rot n.toNat r 0)] (λ K t=>qe7 (bh 0 _ _ _ _ (by lia) t)) ?_;refine qb8 (λ G=>∃ J came L,G=[Aa z a.C3 n wr f,rL n (As n.toNat g r J),.int (rot n.toNat r J:Nat),.l false came,L]/\Sh n.toNat (Oq n f) g r J/\Stop n.toNat wr (Oq n f) g r J) (λ K t=>?_) ?_
 . refine qE4 (λ m G=>∃ J came,G=[Aa z a.C3 n wr f,rL n (As n.toNat g r J),.int (rot n.toNat r J:Nat),.l false came,qu8 n.toNat wr (rot n.toNat r J)]/\Sh n.toNat (Oq n f) g r J/\came.length=J/\m+J=n.toNat) n.toNat ⟨0,[],rfl,Sh.start b,rfl,by lia⟩ ?_
   rintro m G ⟨J,came,rfl,v,hc,hm⟩ K2 a1;have hJ:=v.hJ;have hp:=qQ0 b hJ;rcases qab2 (wr:=wr) hp with V | ⟨V,hw,hl⟩
   . have s:=Row.qk8 hp
     have M:∀ x,As n.toNat g r J (Row.next n.toNat (rot n.toNat r J))=some x->0 < Ab n.toNat (Oq n f x) (Row.next n.toNat (rot n.toNat r J))->J+1 < n.toNat/\g (rot n.toNat r (J+1))=some x:=λ x s A=>by
       by_cases p:J+1 < n.toNat
       . rw[qz3 b p,qx4 b p] at s
         exact⟨p,s⟩
       rw[qu4 b (by lia)] at s A;by_cases N:0 < J
       . rw[qC6 b N] at s
         have:=v.round KP.o KP.c b Z (by lia) s N
         lia
       have hz:J=0:=by lia
       subst hz;rw[qx3 b b,if_pos rfl] at s;cases s
     have C:∀ x,As n.toNat g r J (Row.next n.toNat (rot n.toNat r J))=some x->Aj x/\(wr=false->Oq n f x<=Row.next n.toNat (rot n.toNat r J)):=λ x s=>by
       by_cases p:J+1 < n.toNat
       . have e:=qz3 b p
         rw[e,qx4 b p] at s;exact⟨hS x ((KP.h.2 x).mpr ⟨_,qQ0 b p,s⟩),λ hw=>by rw[e];exact KP.ln hw _ x (qQ0 b p) s⟩
       have e:=qu4 b (show J+1=n.toNat by lia);rw[e] at s ⊢;by_cases N:0 < J
       . rw[qC6 b N] at s
         have A:=v.round KP.o KP.c b Z (by lia) s N;exact⟨hS x ((KP.h.2 x).mpr ⟨_,Row.qk8 b,s⟩),λ _=>by rw[(qb6 (D7 I x) b).mp A];exact zA2 _⟩
       have hz:J=0:=by lia
       subst hz;rw[qx3 b b,if_pos rfl] at s;cases s
     generalize E:Row.next n.toNat (rot n.toNat r J)=u at s M C V;rw[V];cases B:As n.toNat g r J u with
     | none =>
       refine qR2 (x:=Aa z a.C3 n wr f) (y:=rL n (As n.toNat g r J)) (w:=.int (u:Nat)) (d:=.bl false) rfl rfl rfl rfl rfl ⟨z,n,wr,f,false,_,_,rfl,I,.inr ⟨u,s,rfl,.inl ⟨B,rfl⟩⟩⟩ rfl ?_;exact t _ ⟨J,came,_,rfl,v,.inr λ x h=>by rw[E,B] at h;cases h⟩
     | some x =>
       refine qR2 (x:=Aa z a.C3 n wr f) (y:=rL n (As n.toNat g r J)) (w:=.int (u:Nat)) rfl rfl rfl rfl rfl ⟨z,n,wr,f,false,_,_,rfl,I,.inr ⟨u,s,rfl,.inr ⟨x,B,(C x B).1,(C x B).2,rfl⟩⟩⟩ rfl ?_;refine qa0 (a:=decide (0 < Ab n.toNat (Oq n f x) u)) rfl (ite_b (λ h=>?_) λ h=>?_)
       . have A:=zAe h
         obtain⟨p,O⟩:=M x B A;have R:u=rot n.toNat r (J+1):=by rw[<- E,qz3 b p]
         have U:∀ H,f2 gIx (rdN 1) (rdN 4) [Aa z a.C3 n wr f,rL n (As n.toNat g r J),.int (rot n.toNat r J:Nat),H,.int (u:Nat)]=some (.int x):=λ H=>Ae rfl rfl (by rw[E3 s,B];rfl)
         refine qb1 (qo6 z a n wr f r J came x u (rL n (As n.toNat g r J))) (λ K t=>qf5 ?_) ?_
         . exact qA6 (ys:=came) (d:=.q [.int x,.int (rot n.toNat r J:Nat)]) rfl (qaH0 (U _) rfl rfl rfl) (by unfold big;lia) t
         refine qb1 (qo6 z a n wr f r J came x u (rL n (Row.set (As n.toNat g r J) (rot n.toNat r J) x))) (λ K t=>?_) ?_
         . refine qI5 (d:=.int x) (ys:=Ou n.toNat (As n.toNat g r J)) (U _) rfl rfl rfl (Hq hp) ?_
           rw[qF0];exact t
         refine qb1 (qo6 z a n wr f r J came x u (rL n (As n.toNat g r (J+1)))) (λ K t=>?_) ?_
         . refine qT1 (d:=.non) (ys:=Ou n.toNat (Row.set (As n.toNat g r J) (rot n.toNat r J) x)) rfl rfl rfl (Hq s) ?_
           rw[show (Ou n.toNat (Row.set (As n.toNat g r J) (rot n.toNat r J) x)).set u .non=Ou n.toNat (λ j=>if j=u then none else Row.set (As n.toNat g r J) (rot n.toNat r J) x j) from qad0 (o:=none)];have e:Ou n.toNat (λ j=>if j=u then none else Row.set (As n.toNat g r J) (rot n.toNat r J) x j)=Ou n.toNat (As n.toNat g r (J+1)):=qj9 λ i hi=>by
             rw[qac8 b p hi,R];by_cases W:i=rot n.toNat r (J+1)
             . rw[if_pos W,if_pos W]
             rw[if_neg W,if_neg W];by_cases X:i=rot n.toNat r J
             . rw[if_pos X,X,Row.qb7,O]
             rw[if_neg X,Row.qd2 X]
           rw[e];exact t
         refine qb1 [Aa z a.C3 n wr f,rL n (As n.toNat g r (J+1)),.int (u:Nat),.l false (came++[D.q [.int x,.int (rot n.toNat r J:Nat)]]),.int (u:Nat)] (λ K t=>qT4 (d:=.int (u:Nat)) rfl rfl t) ?_;rw[R] at A ⊢;refine qe7 (bh (J+1) _ _ _ _ p (a1 (m - 1) _ (by lia) ⟨J+1,_,rfl,v.step p O A,by rw[zA6,hc];rfl,by lia⟩))
       have A:=zB9 h;exact t _ ⟨J,came,_,rfl,v,.inr λ y h=>by rw[E] at h ⊢;rw[B] at h;cases h;lia⟩
   rw[V];refine qR2 (x:=Aa z a.C3 n wr f) (y:=rL n (As n.toNat g r J)) (w:=.non) (d:=.bl false) rfl rfl rfl rfl rfl ⟨z,n,wr,f,false,_,_,rfl,I,.inl ⟨rfl,rfl⟩⟩ rfl ?_;exact t _ ⟨J,came,_,rfl,v,.inl ⟨hw,hl⟩⟩
 rintro G ⟨J,came,L,rfl,v,st⟩;exact qk0 (mv_to rfl (q came _ (KP.taken b Z v st)))
theorem qC9:qa9 ["self", "key", "room"] ["self", "key"] (qa3 qy3):=by walk_at "s"
def qZ0(C CP:γ):VSp:=λ ds Q _=>∃ n wr ps g dn S k,ds=[Au false C CP n wr ps g dn,.int k]/\1<=n/\n<=64/\(∀ x∈S,Aj x)/\Kept n.toNat wr (Oq n ps) g S/\k∈S/\dn.length<=1000 /\
 ∀(r:Nat) came g',Kept n.toNat wr (Oq n ps) g' (S.filter λ x=>decide (x≠k))->Q (.q [.int (r:Nat),.l false came]) [Au false C CP n wr ps g' (dn++[.q [.str "take",.int k]]),.int k]
theorem qau3{g:Nat->Option Int}(h:Bz N g k=.int (j:Nat)):j < N/\g j=some k:=by
 unfold Bz at h;cases e:B9 N g k with
 | none=>rw[e] at h;cases h
 | some i =>
   rw[e] at h;have h:D.int (i:Nat)=D.int (j:Nat):=h;injection h with h
   have h:i=j:=by lia
   subst h;obtain⟨a,b,_⟩:=List.findIdx?_eq_some_iff_getElem.mp e;rw[zB4] at a;rw[List.getElem_range] at b;exact⟨a,zAe b⟩
theorem qaa1(T:Txt K mg a):VFn P w K mg base 8 a.f30 a.d30 ["self", "key"] (qZ0 a.C4 a.C3):=by
 refine VFn.mk2 T.d30.F qC9 (wOf [true,true]) (by walk_at "m") (by walk_at "l") (λ _ _ _ _ _ _ _ u=>⟨_,(Ac (Al 2 qC9.nd (qm5 0 T.d28 T.C5.cl (qk4 T) qa1 (rm u) (vaN 1 Ad))) (Ac (sif (q2 (Am Ei (qb0 _)) Eh (vnm 2) Bb) (Ag qn2) Av) (Ac (Bc (emutP qn8 Nq Nr Nt qc0 (Ek rfl (vpn 0) T.C5.cl T.Cc) (vaV (qa4 (Es (qa2 Dt (qa2 (vnm 1) qa6 rfl) rfl))) Ad))) (Ag (Aq (Iy (vaV (qb5 (vnm 2)) (vaV (Ah T.d23 (qz2 T) qa1 (rm u) (vaV (qb5 (Bj rfl (vnm 0) T.C5.cl T.Cd)) (vaB (Ek rfl (vpn 0) T.C5.cl T.C9) (vaN 2 Ad)))) Ad)))))))),λ I Q J h=>?_⟩);obtain⟨n,wr,c,g,f,S,k,rfl,C,E,v,KP,z,G,q⟩:=h;obtain⟨i,H,e⟩:=(KP.h.2 k).mp z;obtain⟨j,A⟩:=qT5 H e;obtain⟨r,s⟩:=qau3 A;refine At [rA a n wr c g f,.int k,.u] rfl ?_;refine qb1 [rA a n wr c g f,.int k,.int (j:Nat)] (λ K t=>?_) ?_
 . exact qe7 (qK7 (p:=rA a n wr c g f) (x:=.int k) (d:=.int (j:Nat)) rfl (qe6 rfl) rfl rfl ⟨false,n,wr,c,g,f,k,rfl,v k z,A.symm⟩ rfl t)
 refine qh2 false (λ Q q=>qf6 (b:=false) rfl q) nofun λ _=>?_
 refine qb1 [rA a n wr c g (f++[.q [.str "take",.int k]]),.int k,.int (j:Nat)] (λ K t=>qf5 ?_) ?_
 . refine qag1 (i:=0) (p:=[2]) (ys:=f) (d0:=rA a n wr c g f) (by show (D.fidx a.C4 "done" (rA a n wr c g f)).map (λ n=>(0,[n]))=_;rw[qH3];rfl) rfl rfl ?_
   exact qe8 (y:=.q [.str "take",.int k]) rfl (qb9 (qa0 (a:=(f++[D.q [.str "take",.int k]],D.non)) (if_pos (show f.length < big by unfold big;lia)) t))
 generalize f++[.q [.str "take",.int k]]=o at q ⊢;refine qk0 (qaG9 (qd8 (y:=.int (j:Nat)) rfl rfl (qf7 (qh3 (qd8 (y:=Aa true a.C3 n wr c) (A5 rfl qr1) rfl ?_)))));refine qa0 (a:=(0,[1])) (by show (D.fidx a.C4 "held" (rA a n wr c g o)).map (λ n=>(0,[n]))=_;rw[qs1];rfl) (qa0 (a:=D.l false (Ou n.toNat g)) rfl ⟨rfl,λ w=>?_⟩);refine qc2 (x:=.int (j:Nat)) rfl (qb9 (qa0 (a:=D.int (j:Nat)) rfl ?_));refine⟨true,n,wr,c,g,S,k,j,rfl,C,E,v,KP,r,s,λ came B K'=>?_⟩;refine qa0 (a:=[rA a n wr c B o,.int k,.int (j:Nat)]) ?_ (qb9 ⟨lt2,q j came B K'⟩);show Ap (.pl 0 [1] w::_) _ _=_;rw[qk7 rfl];rfl
theorem qF3:qa9 ["_law_row", "_law_steps_here", "_law_plan", "_law_asked", "_law_there", "_law_word", "_law_key"] ["_law_row", "_law_steps_here", "_law_plan", "_law_asked"] (qa3 qad5):=by walk_at "s"
theorem qaX3{S:List Int}(a:S.Nodup):(S.filter λ x=>decide (x≠k))=S.erase k:=by
 rw[a.erase_eq_filter];apply Li;intro x _;by_cases h:x=k
 . subst h;simp
 simp[h]
theorem qaO6{z:Bool}{g:Nat->Option Int}(h:∀ i,i < N->g i=g' i):gNe (.l z (Ou N g)) (.l z' (Ou N g'))=some (.bl false):=by
 rw[qj9 h];show (De (eqN 20) (Ou N g') (Ou N g')).map (λ x=>D.bl !x)=_;rw[Jk _ λ _=>Jj];rfl
section
variable{NC:List Int->Prop}{st:List (Bool×Int)}{S:List Int}
theorem Way.inv(h:Way NC (st++[(p,k)]) S):∃ S0,Way NC st S0/\(p=true/\Aj k/\¬ k∈S0/\NC (S0++[k])/\S=S0++[k]∨p=false/\k∈S0/\S=S0.erase k):=by
 generalize e:st++[(p,k)]=l at h;cases h with
 | nil=>exact absurd e (by simp)
 | put h a c d =>
   obtain⟨b,e2⟩:=List.append_inj' e rfl;subst b;cases e2;exact⟨_,h,.inl ⟨rfl,a,c,d,rfl⟩⟩
 | take h a =>
   obtain⟨b,e2⟩:=List.append_inj' e rfl;subst b;cases e2;exact⟨_,h,.inr ⟨rfl,a,rfl⟩⟩
theorem Way.det(h:Way NC st S):∀{S'},Way NC st S'->S=S':=by
 induction h with
 | nil =>
   intro S' a;generalize e:([]:List (Bool×Int))=l at a;cases a with
   | nil=>rfl
   | put=>exact absurd e (by simp)
   | take=>exact absurd e (by simp)
 | put _ _ _ _ b =>
   intro S' a;obtain⟨S0,w,h | h⟩:=a.inv
   . rw[h.2.2.2.2,b w]
   cases h.1
 | take _ _ b =>
   intro S' a;obtain⟨S0,w,h | h⟩:=a.inv
   . cases h.1
   rw[h.2.2,b w]
theorem Way.pre(h:Way NC st S)(i:Nat):∃ S',Way NC (st.take i) S':=by
 induction h with
 | nil=>exact⟨[],by rw[M7];exact .nil⟩
 | @put st S k h hk hn hc ih =>
   rcases Nat.lt_or_ge st.length i with z | z
   . exact⟨_,by rw[zAr (by rw[zA6];exact z)];exact .put h hk hn hc⟩
   rw[Ls z];exact ih
 | @take st S k h hk ih =>
   rcases Nat.lt_or_ge st.length i with z | z
   . exact⟨_,by rw[zAr (by rw[zA6];exact z)];exact .take h hk⟩
   rw[Ls z];exact ih
theorem Way.at_{T:List Int}(h:Way NC st T)(w:Way NC (st.take i) S)(e:st[i]? = some (p,k)):∃ S',Way NC (st.take (i+1)) S'/\(p=true/\Aj k/\¬ k∈S/\NC (S++[k])/\S'=S++[k]∨p=false/\k∈S/\S'=S.erase k):=by
 obtain⟨S',a⟩:=h.pre (i+1);refine⟨S',a,?_⟩;rw[zBq,e] at a;obtain⟨S0,b,h⟩:=a.inv;rw[w.det b];exact h
end
theorem qac2{st:List (Bool×Int)}(e:st[i]? = some (p,k)):stD (st.take i)++[.q [.str (wS p),.int k]]=stD (st.take (i+1)):=by rw[qI6,zBq,e];rfl
def qaz5(C CP:γ):VSp:=λ ds Q _=>∃ n wr ps g z st S asked,ds=[Au false C CP n wr ps g [],.l z (stD st),Op n wr ps,.bl asked]/\1<=n/\n<=64/\(ps.map (·.1)).Nodup/\Way (NCd n wr ps) st S/\st.length<=330/\Kept n.toNat wr (Oq n ps) g [] /\
 ∀ g',Kept n.toNat wr (Oq n ps) g' S->Q (.bl true) [Au false C CP n wr ps g' (stD st),.l z (stD st),Op n wr ps,.bl asked]
theorem qaC4(T:Txt K mg a):VFn P w K mg base 9 a.f43 a.d43 ["_law_row", "_law_steps_here", "_law_plan", "_law_asked"] (qaz5 a.C4 a.C3):=by
 refine VFn.mk2 T.d43.F qF3 (wOf [true,true,true,true]) (by walk_at "m") (by walk_at "l") (λ _ _ _ _ _ _ _ s=>⟨_,(Ac (Al 4 qF3.nd (qa4 (Bl qa6))) (Ac (Ja Nn (vpn 1) (G3 (n:=2) rfl (qL9 (Be 5 qF3.nd) (qL9 (Be 6 qF3.nd) G2))) (Ac (sif (q2 (Am (qn6 s.u64) (qb0 _)) Bm (vnm 5) Dt) (Ac (Bc (qm5 0 T.d29 T.C5.cl (qaf7 T) qa1 (rm s) (vaN 6 Ad))) (Ag (Bc (Bi 4 qn8 Nq Nr Nt qc0 (vaV (qb5 (vnm 6)) Ad))))) (Ac (Bc (qm5 0 T.d30 T.C5.cl (qaa1 T) qa1 (rm s) (vaN 6 Ad))) (Ag (Bc (Bi 4 qaD0 Nq Nx N0 qG2 (vaV (qb5 (vnm 6)) Ad)))))) (Ag (sif (Hj (tv (vnm 3)) (Fg (q2e (A4 (qn5 s.u64) (qb0 _)) (Am (qn5 s.u64) (qb0 _)) Dr (qk9 0 T.d25 T.C5.cl (qe0 T) qa1 (rm s)) (Ah T.d38 (qr6 T) qa1 (rm s) (vaN 2 (vaN 4 Ad)))))).te (Ag (Aq (qa4 vbl))) Av)))) (Ag (Aq (qa4 vbl))))),λ j Q X h=>?_⟩);obtain⟨n,wr,e,g,z,f,T,asked,rfl,H,I,N,WT,Y,KP,q⟩:=h;refine At [rA a n wr e g [],.l z (stD f),Op n wr e,.bl asked,.u,.u,.u] rfl ?_;refine qb1 [rA a n wr e g [],.l z (stD f),Op n wr e,.bl asked,kL [],.u,.u] (λ K o=>qq7 rfl o) ?_;refine qb8 (λ j=>∃ g t v,j=[rA a n wr e g (stD f),.l z (stD f),Op n wr e,.bl asked,kL T,t,v]/\Kept n.toNat wr (Oq n e) g T) (λ K o=>?_) ?_
 . refine qa0 (a:=(1,[])) rfl (qa0 (a:=D.l z (stD f)) rfl (qa0 (a:=stD f) rfl ⟨qV4 f,λ u=>?_⟩))
   refine qd7 (λ i j=>∃ g S t v,j=[rA a n wr e g (stD (f.take i)),.hole u,Op n wr e,.bl asked,kL S,t,v]/\Way (NCd n wr e) (f.take i) S/\Kept n.toNat wr (Oq n e) g S) _ 0 _ ⟨g,[],_,_,rfl,.nil,KP⟩ ?_ ?_
   . rintro i y J j ⟨g,S,t,v,rfl,W,K1⟩ K2 A
     rw[zAb] at W A;obtain⟨⟨p,k⟩,L,rfl⟩:∃ B:Bool×Int,f[i]? = some B/\y=.q [.str (wS B.1),.int B.2]:=by
       unfold stD at J;rw[zB3] at J;obtain⟨B,O,R⟩:=zA9.mp J;exact⟨B,O,R.symm⟩
     have U:=(zA4.mp L).1;obtain⟨S',W',V⟩:=WT.at_ W L;have C:=W.len;have E:(stD (f.take i)).length<=1000:=by rw[qK9,zBk];lia
     have M:=qac2 L;rw[zAb];refine qH1 (At [rA a n wr e g (stD (f.take i)),.hole u,Op n wr e,.bl asked,kL S,.str (wS p),.int k] rfl ?_);refine qb8 (λ j=>∃ g,j=[rA a n wr e g (stD (f.take (i+1))),.hole u,Op n wr e,.bl asked,kL S',.str (wS p),.int k]/\Kept n.toNat wr (Oq n e) g S') (λ K o=>?_) ?_
     . rw[zBk] at C
       rcases V with⟨rfl,hk,hn,nc,rfl⟩ | ⟨rfl,hk,rfl⟩
       . refine if_v (b:=true) rfl (λ _=>?_) nofun
         refine qb8 (λ j=>∃ g,j=[rA a n wr e g (stD (f.take (i+1))),.hole u,Op n wr e,.bl asked,kL S,.str (wS true),.int k]/\Kept n.toNat wr (Oq n e) g (S++[k])) (λ K o=>?_) ?_
         . refine qf5 (qC0 (p:=rA a n wr e g (stD (f.take i))) rfl (qe6 rfl) (qc2 (x:=.int k) rfl (qb9 (qa0 (a:=D.int k) rfl (qa0 (a:=rA a n wr e g (stD (f.take i))) rfl ⟨n,wr,e,g,_,S,k,rfl,H,I,hk,W.num,K1,hn,nc,E,λ came G K'=>qa0 (a:=[rA a n wr e G (stD (f.take (i+1))),.hole u,Op n wr e,.bl asked,kL S,.str (wS true),.int k]) ?_ (o _ ⟨G,rfl,K'⟩)⟩)))))
           rw[<- M];rfl
         rintro j ⟨g,rfl,K1⟩;exact qf5 (qY4 (ys:=Ot S) (d:=.int k) rfl rfl rfl (by rw[qf4];unfold big;lia) (by rw[qD8];exact o _ ⟨g,rfl,K1⟩))
       refine if_v (b:=false) rfl nofun λ _=>?_
       refine qb8 (λ j=>∃ g,j=[rA a n wr e g (stD (f.take (i+1))),.hole u,Op n wr e,.bl asked,kL S,.str (wS false),.int k]/\Kept n.toNat wr (Oq n e) g (S.erase k)) (λ K o=>?_) ?_
       . refine qf5 (qC0 (p:=rA a n wr e g (stD (f.take i))) rfl (qe6 rfl) (qc2 (x:=.int k) rfl (qb9 (qa0 (a:=D.int k) rfl (qa0 (a:=rA a n wr e g (stD (f.take i))) rfl ⟨n,wr,e,g,_,S,k,rfl,H,I,W.num,K1,hk,E,λ r came G K'=>qa0 (a:=[rA a n wr e G (stD (f.take (i+1))),.hole u,Op n wr e,.bl asked,kL S,.str (wS false),.int k]) ?_ (o _ ⟨G,rfl,by rw[qaX3 W.nd] at K';exact K'⟩)⟩)))))
         rw[<- M];rfl
       rintro j ⟨g,rfl,K1⟩;exact qf5 (qae1 (S:=S) (k:=k) rfl rfl hk (o _ ⟨g,rfl,K1⟩))
     rintro j ⟨g,rfl,K1⟩;have C:=K1.len;cases asked with
     | false=>exact G8 false (λ Q q=>qg6 false false (λ Q q=>qf6 (b:=false) rfl q) nofun q) nofun λ _=>A _ ⟨g,S',_,_,rfl,W',K1⟩
     | true=>exact G8 false (λ Q q=>qg6 true false (λ Q q=>qf6 (b:=true) rfl q) (λ _ Q q=>qaI8 (qG6 (p:=rA a n wr e g (stD (f.take (i+1)))) (d:=rL n g) rfl (qe6 rfl) ⟨false,n,wr,e,g,_,rfl,rfl⟩ rfl (qaF7 (x:=Op n wr e) (y:=kL S') rfl rfl rfl ⟨n,wr,e,false,S',rfl,H,I,N,K1.h.1,by lia,λ ⟨q,c⟩=>absurd c (K1.no_crowd q),λ _ Z Kh=>qa0 (a:=[rA a n wr e g (stD (f.take (i+1))),.hole u,Op n wr e,.bl true,kL S',.str (wS p),.int k]) rfl (qa0 (a:=D.bl false) (qaO6 (K1.same Kh λ _=>Iff.rfl)) (qa0 (a:=false) rfl q))⟩))) q) nofun λ _=>A _ ⟨g,S',_,_,rfl,W',K1⟩
   rintro j ⟨g,S,t,v,rfl,W,K1⟩;rw[zAb,qK9,zBu] at W;obtain rfl:=WT.det W;rw[zAb,qK9,zBu];exact qa0 (qal2 rfl) (o _ ⟨g,t,v,rfl,K1⟩)
 rintro j ⟨g,t,v,rfl,K1⟩;exact qf3 (.bl true) rfl (q g K1)
theorem qZ5:qa9 ["self"] ["self"] (qa3 qy4):=by walk_at "s"
def qC5(C CP:γ):VSp:=Ay λ ds d=>∃ zr n wr ps g dn S,ds=[Au zr C CP n wr ps g dn]/\n<=64/\Kept n.toNat wr (Oq n ps) g S/\d=.int (S.length:Nat)
theorem qD4(T:Txt K mg a):VFn P w K mg base 2 a.f27 a.d27 ["self"] (qC5 a.C4 a.C3):=by
 refine VFn.mk2 T.d27.F qZ5 (wOf [true]) qb2 (by walk_at "l") (λ _ _ _ _ _ _ _ f=>⟨_,(Ag (Aq (ebi ql4 ql3.ops T.Ca (Du (vaV (qk9 0 T.d26 T.C5.cl (qh0 T) qa1 (rm f)) Ad))))),λ j Q k h=>?_⟩);obtain⟨d,⟨b,n,wr,c,g,e,S,rfl,i,KP,rfl⟩,q⟩:=h;refine At [Au b a.C4 a.C3 n wr c g e] rfl ?_;refine qk0 (Jm (qf7 (qG6 (p:=Au b a.C4 a.C3 n wr c g e) (d:=kL ((Kz n.toNat).filterMap g)) rfl (qe6 rfl) ⟨b,n,wr,c,g,e,rfl,i,rfl⟩ rfl (qb9 (qa0 (a:=D.int (S.length:Nat)) ?_ q)))));show some (D.int ((Ot ((Kz n.toNat).filterMap g)).length:Nat))=_;rw[qf4,KP.perm.length_eq]
theorem qao2:qa9 ["_law_found"] ["_law_found"] (qa3 qP6):=by walk_at "s"
def qan4:VSp:=Ay λ ds d=>∃ x t,ds=[x]/\x.kind=some t/\d=.bl (E6 t "int" && !(E6 t "bool"))
theorem qU0(T:Txt K mg a):VFn P w K mg base 1 a.f33 a.d33 ["_law_found"] qan4:=by
 refine VFn.mk2 T.d33.F qao2 (wOf [true]) qb2 (by walk_at "l") (λ _ _ _ _ _ _ _ f=>⟨_,(Ag (Aq (qa4 (vand (vbi qh5 qH5.ops T.C8 (qa2 (vnm 0) (qa2 (vty "int" T.Ct) qa6 rfl) rfl)) (Iw (vnot (vbi qh5 qH5.ops T.C8 (qa2 (vnm 0) (qa2 (vty "bool" T.Cq) qa6 rfl) rfl)))))))),λ g Q i h=>?_⟩);obtain⟨d,⟨x,t,rfl,b,rfl⟩,q⟩:=h;refine At [x] rfl ?_;have c:∀ n:String,Hh n=true->Ba (fx2 gIsi) (A6 (rdN 0) (A6 (kC (D.ty n)) λ _=>some [])) [x]=some (.bl (E6 t n)):=λ n e=>by
   unfold Ba A6;rw[rd0 (qm3 b)];show (if Hh n=true then x.kind.map λ t=>D.bl (E6 t n) else none)=_;rw[if_pos e,b];rfl
 exact qf3 _ (qak1 (c "int" rfl) (A5 (c "bool" rfl) rfl)) q
theorem qF2:qa9 ["_law_row", "_law_rooms", "_law_keys", "_law_key", "_law_found"] ["_law_row", "_law_rooms", "_law_keys"] (qa3 qP7):=by walk_at "s"
theorem qax6{g:Nat->Option Int}:∀ l:List Nat,(l.map λ i=>Fe (g i)).countP (λ z=>eqV z .non)+(l.filterMap g).length=l.length
 | []=>rfl
 | i::l=>by
   have a:=qax6 (g:=g) l;rw[zAy,Ly,zC0];cases g i with
   | none =>
     show _+(if true=true then 1 else 0)+(l.filterMap g).length=_;rw[if_pos rfl,zAk];lia
   | some k =>
     show _+(if false=true then 1 else 0)+((l.filterMap g).length+1)=_;rw[if_neg (by decide),zAk];lia
theorem qaY7{z:Bool}{m:Nat}{g:Nat->Option Int}(h:((Kz N).filterMap g).length=m):f2 gSub (Ba (fx1 Fa) (A6 (kC (.l z (Ou N g))) λ _=>some [])) (f2 Hl (kC (.l z (Ou N g))) (kC .non)) []=some (.int (m:Nat)):=by
 refine Ae (x:=.int (N:Nat)) (y:=.int ((N - m:Nat):Int)) ?_ (Ae rfl rfl ?_) ?_
 . show some (D.int ((Ou N g).length:Nat))=_
   rw[qo4]
 . show (flats (Ou N g)).bind (λ a=>some (D.int (a.countP (λ z=>eqV z .non):Nat)))=_
   rw[qp9]
   have:=qax6 (g:=g) (Kz N)
   rw[zB4,h] at this;show some (D.int ((((Kz N).map λ i=>Fe (g i)).countP λ z=>eqV z .non:Nat):Int))=_;congr 2;lia
 have:=L7 g (Kz N)
 rw[zB4,h] at this;show some (D.int ((N:Nat) - ((N - m:Nat):Int)))=_;congr 2;lia
def qan5(C CP:γ):VSp:=Ay λ ds d=>∃ zr n wr ps g dn S z y ks,ds=[Au zr C CP n wr ps g dn,.l z (Ou n.toNat g),.l y (Ot ks)]/\n<=64/\Kept n.toNat wr (Oq n ps) g S/\(∀ k∈ks,Aj k)/\d=.bl true
theorem qap2(T:Txt K mg a):VFn P w K mg base 5 a.f44 a.d44 ["_law_row", "_law_rooms", "_law_keys"] (qan5 a.C4 a.C3):=by
 refine VFn.mk2 T.d44.F qF2 (wOf [true,true,true]) qb2 (by walk_at "l") (λ _ _ _ _ _ _ _ f=>⟨_,(Ac (sif (tor (q2v (A4 (qn5 f.u64) (qb0 _)) (Am (qn5 f.u64) (qb0 _)) Dr (qk9 0 T.d25 T.C5.cl (qe0 T) qa1 (rm f)) (vnm 1)) (Hi (q2e (A4 (qn5 f.u64) (qb0 _)) (Am (qn5 f.u64) (qb0 _)) Dr (qk9 0 T.d26 T.C5.cl (qh0 T) qa1 (rm f)) (ecN (NY:=["_law_key"]) (src:=[none]) 1 (blk (λ av C s0 H0 ex=>(Be 0 (show (["_law_key"]:List Str).Nodup by decide +kernel))) (λ av C s0 H0 ex=>(Fl (q2 (Am qi8 (qb0 _)) qn4 (vnm 0) Bb))) (λ av C s0 H0 ex=>(qb5 (vnm 0)))))))).te (Ag (Aq (qa4 vbl))) Av) (Ac (sif (tor (Br (te (Ah T.d33 (qU0 T) qa1 (rm f) (vaV (qk9 0 T.d27 T.C5.cl (qD4 T) qa1 (rm f)) Ad)))) (Hi (q2v (A4 (qn5 f.u64) (qb0 _)) (Am (qn5 f.u64) (qb0 _)) Dr (qk9 0 T.d27 T.C5.cl (qD4 T) qa1 (rm f)) (v2 (Ak qv7) qv4 (vbi ql4 ql3.ops T.Ca (qa2 (vnm 1) qa6 rfl)) (vbm qaL0 Nq Nz N7 qag5 (vnm 1) Bb qax7))))).te (Ag (Aq (qa4 vbl))) Av) (Ac (Ja Nn (vpn 2) (Be 3 qF2.nd) (Ac (Al 4 qF2.nd (qm5 0 T.d28 T.C5.cl (qk4 T) qa1 (rm f) (vaN 3 Ad))) (Ac (sif (Hj (q2 (Am qr3 (by with_unfolding_all rfl)) Ej (vnm 3) (vnm 1)) (Fg (tor (Br (te (Ah T.d33 (qU0 T) qa1 (rm f) (vaN 4 Ad)))) (Hi (q2 (Am (qn5 f.u64) (qb0 _)) Dr (vnm 4) (vbm qaB8 Nq Nu Nv qG3 (vnm 1) (vnm 3) qaj0)))).te)).te (Ag (Aq (qa4 vbl))) Av) (Ag (sif (Hj (q2 (Am qk3 (by with_unfolding_all rfl)) Ej (vnm 3) (vnm 1)) (Fg (q2 (Am qi8 (qb0 _)) qn4 (vnm 4) Bb))).te (Ag (Aq (qa4 vbl))) Av))))) (Ag (Aq (qa4 vbl)))))),λ E Q M h=>?_⟩);obtain⟨d,⟨m,n,wr,r,g,s,S,z,y,t,rfl,n2,KP,O,rfl⟩,q⟩:=h;refine At [Au m a.C4 a.C3 n wr r g s,.l z (Ou n.toNat g),.l y (Ot t),.u,.u] rfl ?_;have many:∀(Q:DK)(M:XKd),Q (.int (S.length:Nat)) [Au m a.C4 a.C3 n wr r g s,.l z (Ou n.toNat g),.l y (Ot t),.u,.u]->qw8 a.C4 "many" (qC5 a.C4 a.C3) [] 0 Ax [Au m a.C4 a.C3 n wr r g s,.l z (Ou n.toNat g),.l y (Ot t),.u,.u] Q M:=λ Q M q=>qG6 (p:=Au m a.C4 a.C3 n wr r g s) (d:=.int (S.length:Nat)) rfl (qe6 rfl) ⟨m,n,wr,r,g,s,S,rfl,n2,KP,rfl⟩ rfl q
 refine qh2 false (λ Q q=>qI2 false false (λ Q q=>qJ5 (qG6 (p:=Au m a.C4 a.C3 n wr r g s) (d:=rL n g) rfl (qe6 rfl) ⟨m,n,wr,r,g,s,rfl,rfl⟩ rfl (qa0 (a:=D.bl false) (qaO6 λ _ _=>rfl) (qa0 (a:=false) rfl q)))) (λ _ Q q=>qaI8 (qG6 (p:=Au m a.C4 a.C3 n wr r g s) (d:=kL ((Kz n.toNat).filterMap g)) rfl (qe6 rfl) ⟨m,n,wr,r,g,s,rfl,n2,rfl⟩ rfl (qa0 (a:=D.l z (Ou n.toNat g)) rfl (qa0 (a:=Ou n.toNat g) rfl ⟨qD9 _ _,?_⟩)))) q) nofun λ _=>?_
 . refine ql0 (λ ι=>∃ d,ι=[d]) Fq _ [] _ (by show 0+_ < 1000000;rw[qo4];lia) ⟨_,rfl⟩ ?_ ?_
   . rintro y U ι W ⟨d,rfl⟩ R hR I
     have this:=hR [y] ⟨_,rfl⟩;refine qm4 ?_;rcases Jj U with rfl | ⟨k,rfl⟩
     . have this:R (W++[]) _:=this
       rw[zAd] at this;exact qf6 (b:=false) (Ae rfl rfl rfl) (Dk (by decide) this)
     exact qf6 (b:=true) (Ae rfl rfl rfl) (B8 rfl (qz9 (d:=.int k) rfl rfl ⟨I,this⟩))
   rintro ι ⟨d,rfl⟩;rw[qR5,zB5];exact qa0 (a:=D.bl false) (by rw[qaX0,zAl rfl];rfl) (qa0 (a:=false) rfl q)
 refine qh2 false (λ Q q=>qI2 false false (λ Q q=>(show D9 _ _ _ _ from(show ttE _ _ _ _ from qh3 (qf7 (many _ _ (qb9 ⟨.bl true,⟨.int (S.length:Nat),_,rfl,rfl,rfl⟩,qa0 (a:=[Au m a.C4 a.C3 n wr r g s,.l z (Ou n.toNat g),.l y (Ot t),.u,.u]) rfl (qa0 (a:=true) rfl q)⟩)))))) (λ _ Q q=>qJ5 (many _ _ (qa0 (a:=D.bl false) ?_ (qa0 (a:=false) rfl q)))) q) nofun λ _=>?_
 . have e:=qaY7 (z:=z) (N:=n.toNat) (g:=g) KP.perm.length_eq
   exact(congrArg (λ o:Option D=>o.bind (gNe (.int (S.length:Nat)))) e).trans (qaj7 rfl)
 refine qb8 (λ E=>∃ G c,E=[Au m a.C4 a.C3 n wr r g s,.l z (Ou n.toNat g),.l y (Ot t),G,c]) (λ K X=>?_) ?_
 . refine qa0 (a:=(2,[])) rfl (qa0 (a:=D.l y (Ot t)) rfl (qa0 (a:=Ot t) rfl ⟨qh9 t,λ u=>?_⟩))
   refine qd7 (λ i E=>∃ G c,E=[Au m a.C4 a.C3 n wr r g s,.l z (Ou n.toNat g),.hole u,G,c]) _ 0 _ ⟨_,_,rfl⟩ ?_ ?_
   . rintro i y U E ⟨G,c,rfl⟩ K2 J
     obtain⟨k,hi,rfl⟩:=qaq3 U;have hk:=O k (zAx hi);refine qm4 (At [Au m a.C4 a.C3 n wr r g s,.l z (Ou n.toNat g),.hole u,.int k,c] rfl ?_);refine qb1 [Au m a.C4 a.C3 n wr r g s,.l z (Ou n.toNat g),.hole u,.int k,Bz n.toNat g k] (λ K X=>qe7 (qK7 (p:=Au m a.C4 a.C3 n wr r g s) (x:=.int k) (d:=Bz n.toNat g k) rfl (qe6 rfl) rfl rfl ⟨m,n,wr,r,g,s,k,rfl,hk,rfl⟩ rfl X)) ?_;have L:∀ c,f2 (Gd false) (rdN 3) (rdN 1) [Au m a.C4 a.C3 n wr r g s,.l z (Ou n.toNat g),.hole u,.int k,c]=some (.bl (B9 n.toNat g k).isSome):=λ c=>by
       refine Ae (x:=.int k) (y:=.l z (Ou n.toNat g)) rfl rfl ?_;show ((flats (Ou n.toNat g)).bind λ H=>some (D.bl (if false=true then !inV (.int k) H else inV (.int k) H)))=_;rw[qp9];show some (D.bl (inV (.int k) _))=_;rw[qaq8];rfl
     have A:∀ c,f2 (Gd true) (rdN 3) (rdN 1) [Au m a.C4 a.C3 n wr r g s,.l z (Ou n.toNat g),.hole u,.int k,c]=some (.bl !(B9 n.toNat g k).isSome):=λ c=>by
       refine Ae (x:=.int k) (y:=.l z (Ou n.toNat g)) rfl rfl ?_;show ((flats (Ou n.toNat g)).bind λ H=>some (D.bl (if true=true then !inV (.int k) H else inV (.int k) H)))=_;rw[qp9];show some (D.bl !(inV (.int k) _))=_;rw[qaq8];rfl
     have B:I8 (.l z (Ou n.toNat g)) (.int k)=(B9 n.toNat g k).map λ j=>D.int (j:Nat):=by
       show ((some (V.int k)).bind λ v=>(flats (Ou n.toNat g)).bind λ H=>(Bs v H).map λ j=>D.int (j:Nat))=_;rw[qp9];show (Bs (.int k) _).map _=_;rw[qV5];rfl
     unfold Bz;cases f:B9 n.toNat g k with
     | some j =>
       rw[f] at B;have Y:=λ c=>by have h:=L c;rw[f] at h;exact h
       have Z:=λ c=>by have h:=A c;rw[f] at h;exact h
       refine qh2 false (λ Q q=>qg6 true false (λ Q q=>qf6 (Y _) q) (λ _ Q q=>qI2 false false (λ Q q=>(show D9 _ _ _ _ from(show ttE _ _ _ _ from qaV3 (x:=.int (j:Nat)) (d:=.bl true) rfl ⟨.int (j:Nat),_,rfl,rfl,rfl⟩ rfl (qa0 (a:=true) rfl q)))) (λ _ Q q=>qf6 (Ae rfl (Ae rfl rfl B) (qaj7 rfl)) q) q) q) nofun λ _=>?_
       exact G8 false (λ Q q=>qg6 false false (λ Q q=>qf6 (Z _) q) nofun q) nofun λ _=>J _ ⟨_,_,rfl⟩
     | none =>
       have Y:=λ c=>by have h:=L c;rw[f] at h;exact h
       have Z:=λ c=>by have h:=A c;rw[f] at h;exact h
       refine qh2 false (λ Q q=>qg6 false false (λ Q q=>qf6 (Y _) q) nofun q) nofun λ _=>?_
       exact G8 false (λ Q q=>qg6 true false (λ Q q=>qf6 (Z _) q) (λ _ Q q=>qf6 (b:=false) (Ae rfl rfl rfl) q) q) nofun λ _=>J _ ⟨_,_,rfl⟩
   rintro E ⟨G,c,rfl⟩;exact qa0 (qal2 rfl) (X _ ⟨G,c,rfl⟩)
 rintro E ⟨G,c,rfl⟩;exact qf3 (.bl true) rfl q
theorem qC8:qa9 ["self", "deed"] ["self"] (qa3 qy2):=by walk_at "s"
def qO2:Sp:=λ vs H Q _=>∃ x t,vs=[x]/\Bk H x=some t/\Q (.bl (Ii x)) H
theorem qQ4(T:Txt K mg a):Dw P w K mg base CX0 1 a.f1 a.d1 ["thing"] qO2:=by
 refine T.d1.F.ok qC7 (λ d H Q E h=>?_) (λ f A outer s H d Q E i h=>?_)
 . obtain⟨x,t,rfl,_⟩:=h
   rfl
 obtain⟨x,t,rfl,b,q⟩:=h;refine⟨_,(qy9 (qZ6 (qap0 (cbi qh5 T.C8 (qc5 (pv 0) (qc5 (qaB4 "int" T.Ct) ql9))) (qao7 (qaK2 (cbi qh5 T.C8 (qc5 (pv 0) (qc5 (qaB4 "bool" T.Cq) ql9)))))))),?_⟩;refine⟨_,rfl,x,_,t,rfl,b,by decide,_,rfl,?_⟩;have g:=qaD8 b;have e2:=qaq4 b;rw[g];refine ite2 (λ c=>⟨_,rfl,x,_,t,rfl,b,by decide,_,rfl,?_⟩) (λ c=>?_)
 . rw[e2]
   cases x<;>first | exact q | (simp[Ii] at c)
 have:Ii x=false:=by
   cases e:Ii x with
   | false=>rfl
   | true=>rw[e] at c;exact absurd rfl c
 rw[this] at q;exact q
def qq4:Sp:=λ vs H Q _=>∃ x t l m,vs=[x,.int l,.int m]/\Bk H x=some t/\Q (.bl (qat5 l m x)) H
theorem qr4(T:Txt K mg a):Dw P w K mg base CX0 2 a.f2 a.d2 ["thing", "least", "most"] qq4:=by
 refine T.d2.F.ok qi5 (λ c H Q E h=>?_) (λ d A outer s H c Q E e h=>?_)
 . obtain⟨x,t,l,m,rfl,_⟩:=h
   rfl
 obtain⟨x,t,l,m,rfl,f,q⟩:=h;refine⟨_,(qy9 (qZ6 (qap0 (Gw T.d1 (qQ4 T) (rm e) (qc5 (pv 0) ql9)) (qao7 (qaf0 Gq Gq (pv 1) (pv 0) (pv 2)))))),?_⟩;refine⟨_,rfl,x,t,rfl,f,_,rfl,?_⟩;cases x with
 | int i =>
   refine iteT ⟨_,rfl,_,rfl,_,_,rfl,rfl,_,rfl,?_⟩;by_cases b:l<=i
   . rw[zAl b]
     refine iteT ⟨_,rfl,_,_,rfl,rfl,?_⟩;have q:Q (.bl (decide (l<=i)&&decide (i<=m))) H:=q;rw[zAl b,Bool.true_and] at q;exact q
   rw[zBe b];refine iteF ?_;have q:Q (.bl (decide (l<=i)&&decide (i<=m))) H:=q;rw[zBe b,Bool.false_and] at q;exact q
 | _=>exact iteF q
def qI7:Sp:=λ vs H Q _=>∃ x t,vs=[x]/\Bk H x=some t/\Q (.bl (numV x)) H
theorem qK1(T:Txt K mg a):Dw P w K mg base CX0 3 a.f3 a.d3 ["thing"] qI7:=by
 refine T.d3.F.ok qx5 (λ b H Q E h=>?_) (λ c A outer s H b Q E d h=>?_)
 . obtain⟨x,t,rfl,_⟩:=h
   rfl
 obtain⟨x,t,rfl,e,q⟩:=h;refine⟨_,(qy9 (qZ6 (Gw T.d2 (qr4 T) (rm d) (qc5 (pv 0) (qc5 qJ7 (qc5 (qav6 T.Ck) ql9)))))),?_⟩;exact⟨_,rfl,x,t,_,_,rfl,e,q⟩
def G9(C:γ)(x y:D):Option D:=match y with
 | .int k=>if (D.int k).num=true then (D.fld C "held" x).bind λ l=>match l with
   | .l _ ys=>(flats ys).map λ a=>match Bs (.int k) a with
     | some j=>.int (j:Nat)
     | none=>.non
   | _=>none else none
 | _=>none
theorem qaw8{v:V}:∀ a:List V,inV v a=(Bs v a).isSome
 | []=>rfl
 | y::r=>by
   have b:=qaw8 (v:=v) r;unfold inV at b ⊢;rw[zCd,b];show _=(if eqV y v=true then some 0 else (Bs v r).map (· + 1)).isSome;cases eqV y v<;>simp
theorem qao4{zr:Bool}{C CP:γ}{n:Int}{wr:Bool}{ps:Pr}{g:Nat->Option Int}{dn:Ds}(a:Aj k):G9 C (Au zr C CP n wr ps g dn) (.int k)=some (Bz n.toNat g k):=by
 show (if (D.int k).num=true then (D.fld C "held" (Au zr C CP n wr ps g dn)).bind _ else none)=_;rw[if_pos (show (D.int k).num=true from qaL7.mpr a),qr2];show (flats (Ou n.toNat g)).map _=_;rw[qp9];show some (match Bs (.int k) ((Kz n.toNat).map λ i=>Fe (g i)) with
   | some j=>D.int (j:Nat)
   | none=>.non)=_
 rw[qV5];rfl
theorem qB5(T:Txt K mg a):Dw P w K mg base CX0 4 a.f28 a.d28 ["self", "key"] (spPu (G9 a.C4)):=by
 refine T.d28.F.ok qq9 (λ c H Q E h=>?_) (λ R A outer s H c Q E S h=>?_)
 . obtain⟨F,u,x,d,e,o,A,B,w,rfl,_⟩:=h
   rfl
 obtain⟨F,u,x,d,e,o,A,B,w,rfl,U,V,b,t,q⟩:=h;cases o with
 | int k =>
   cases V;have b:(if (D.int k).num=true then (D.fld a.C4 "held" e).bind λ l=>match l with
     | .l _ g=>(flats g).map λ f=>match Bs (.int k) f with
       | some j=>D.int (j:Nat)
       | none=>.non
     | _=>none else none)=some d:=b
   by_cases i:(D.int k).num=true
   . rw[if_pos i] at b
     cases m:D.fld a.C4 "held" e with
     | none=>rw[m] at b;cases b
     | some l =>
     rw[m] at b;obtain⟨p,C,y,G,v,rfl,I,J,L,M,B1,W⟩:=qaK9 (K:=K) T.C5.cl T.C9 F H u e A l (λ v H'=>∃ B,Oy F H' v l B) U m (λ v H' B' r _ _=>⟨B',r⟩);cases l with
     | l z g =>
       have b:((flats g).map λ f=>match Bs (.int k) f with
         | some j=>D.int (j:Nat)
         | none=>.non)=some d:=b
       obtain⟨f,X,b⟩:=zA9.mp b;obtain⟨N,c,A3,rfl,n,Y,_⟩:=W.lst_inv;obtain⟨rfl,O⟩:=Y.flats X;refine⟨_,(qQ1 (ps_if (qaJ0 (qaA4 (Gw T.d3 (qK1 T) (rm S) (qc5 (pv 1) ql9))))
   (qy9 qaA6)
   qav0)
   (qy9 (qZ6 (qae9 (qau9 qr3 (pv 1) (qao8 (pv 0) rfl) (by with_unfolding_all rfl)) (Gv Nq Nu Nv qG3 (qao8 (pv 0) rfl) (qc5 (pv 1) ql9)) qaK3)))),?_⟩
       refine⟨_,rfl,.int k, "int",rfl,rfl,_,rfl,?_⟩;rw[show numV (.int k)=true from i];refine iteF ⟨_,rfl,_,rfl,p,C,y,G,_,rfl,I,J,L,M,N,c,rfl,.inl (SqL.of n),rfl,O,_,rfl,?_⟩;show if inV (.int k) c=true then _ else _
       rw[qaw8];cases e2:Bs (.int k) c with
       | some j =>
         rw[e2] at b;have b:D.int (j:Nat)=d:=b;subst b;cases t;obtain⟨Z,i1,i2,i3⟩:=qaj1 e2;exact iteT ⟨_,rfl,p,C,y,G,_,rfl,I,J,L,M,.inl ⟨rfl,_,SqL.of n⟩,_,rfl,N,c,.int k,j,Z,rfl,rfl,n,rfl,O,i1,i2,i3,q⟩
       | none =>
         rw[e2] at b;have b:D.non=d:=b;subst b;cases t;exact iteF q
     | _=>cases b
   rw[if_neg i] at b;cases b
 | _=>cases b
def qY9(C CP:γ):VSp:=λ ds Q _=>∃ n wr ps g dn S,ds=[Au false C CP n wr ps g dn]/\1<=n/\n<=64/\(∀ x∈S,Aj x)/\Kept n.toNat wr (Oq n ps) g S /\
 (dn=[]/\Q (.bl false) ds∨∃ a k,Aj k/\(dn=a++[.q [.str "put",.int k]]/\k∈S/\(∀ g',Kept n.toNat wr (Oq n ps) g' (S.filter λ x=>decide (x≠k))->Q (.bl true) [Au false C CP n wr ps g' a]) ∨
   dn=a++[.q [.str "take",.int k]]/\¬ k∈S/\(∀ q,¬ Crowd n.toNat wr (Oq n ps) (S++[k]) q)/\∀ g',Kept n.toNat wr (Oq n ps) g' (S++[k])->Q (.bl true) [Au false C CP n wr ps g' a]))
theorem qD3(T:Txt K mg a):VFn P w K mg base 8 a.f31 a.d31 ["self"] (qY9 a.C4 a.C3):=by
 refine VFn.mk2 T.d31.F qC8 (wOf [true]) (by walk_at "m") (by walk_at "l") (λ _ _ _ _ _ _ _ B=>⟨_,(Ac (sif (q2 (Am (qn6 B.u64) (qb0 _)) Bm (vbi ql4 ql3.ops T.Ca (qa2 (Bj rfl (vnm 0) T.C5.cl T.Cc) qa6 rfl)) Af) (Ag (Aq (qa4 vbl))) Av) (Ac (Al 1 qC8.nd (qaY0 qaU7 Nq Nw N2 qaU8 (Ek rfl (vpn 0) T.C5.cl T.Cc))) (Ac (sif (q2 (Am (qn6 B.u64) (qb0 _)) Bm (v2 (Aw qb4) An (vnm 1) Af) Dt) (Ag (Bc (Ah T.d23 (qz2 T) qa1 (rm B) (vaV (qb5 (Bj rfl (vnm 0) T.C5.cl T.Cd)) (vaBV (Ek rfl (vpn 0) T.C5.cl T.C9) (qaR3 0 T.d28 T.C5.cl (qB5 T) (rm B) (v2 (Aw qb4) An (vnm 1) Af))))))) (Ag (Bc (Ah T.d20 (qD2 T) qa1 (rm B) (vaV (qb5 (Bj rfl (vnm 0) T.C5.cl T.Cd)) (vaB (Ek rfl (vpn 0) T.C5.cl T.C9) (vaV (qb5 (v2 (Aw qb4) An (vnm 1) Af)) Ad))))))) (Ag (Aq (qa4 vbl)))))),λ v Q E h=>?_⟩);obtain⟨n,wr,o,g,A,S,rfl,J,L,M,KP,h⟩:=h;have s:∀(A:Ds) N,f2 gEq (Ba (fx1 Fa) (A6 (f1 (D.fld a.C4 "done") (rdN 0)) λ _=>some [])) (kC (.int 0)) [rA a n wr o g A,N]=some (.bl (((A.length:Nat):Int) == 0)):=λ A N=>by
   refine Ae (x:=.int (A.length:Nat)) (y:=.int 0) ?_ rfl rfl;unfold Ba A6;rw[A5 rfl qT6];rfl
 refine At [rA a n wr o g A,.u] rfl ?_;have u:∀(f:Ds)(d:D)(K:Ds->Prop)(E:XKd),D.imm d=true->K [rA a n wr o g f,d]->El gPop (λ v=>(D.fidx a.C4 "done" (rA a n wr o g (f++[d]))).map λ n=>(0,[n])) Ax [rA a n wr o g (f++[d]),.u] (λ d G=>K (G.set 1 d)) E:=λ f d K E _ t=>by
   refine qag1 (i:=0) (p:=[2]) (ys:=f++[d]) (d0:=rA a n wr o g (f++[d])) (by show (D.fidx a.C4 "done" (rA a n wr o g (f++[d]))).map (λ n=>(0,[n]))=_;rw[qH3];rfl) rfl rfl (qb9 (qa0 (a:=(f,d)) ?_ t));show ((f++[d])[(f++[d]).length - 1]?).map (λ R=>((f++[d]).dropLast,R))=_;rw[zA6,show f.length + [d].length - 1=f.length from rfl,zBo (zA2 _),Nat.sub_self,Lr];rfl
 rcases h with⟨rfl,q⟩ | ⟨f,k,hk,h⟩
 . exact qj1 true (s [] _) (λ _=>qf3 (.bl false) rfl q) nofun
 have C:∀ d:D,((((f++[d]).length:Nat):Int) == 0)=false:=λ d=>by
   rw[zA6];exact zBz.mpr (by show ((f.length+1:Nat):Int)≠0;lia)
 rcases h with⟨rfl,hin,q⟩ | ⟨rfl,nin,nc,q⟩
 . refine qj1 false ((s _ _).trans (by rw[C])) nofun λ _=>?_
   refine qb1 [rA a n wr o g f,.q [.str "put",.int k]] (λ K t=>qe7 (u f _ K _ rfl t)) ?_;obtain⟨i,U,e⟩:=(KP.h.2 k).mp hin;obtain⟨j,O⟩:=qT5 U e;obtain⟨H,I⟩:=qau3 O;refine qb8 (λ v=>∃ r,v=[rA a n wr o r f,.q [.str "put",.int k]]/\Kept n.toNat wr (Oq n o) r (S.filter λ x=>decide (x≠k))) (λ K t=>if_v (b:=true) rfl (λ _=>qf5 (qh3 ?_)) nofun) ?_
   . refine qd8 (y:=Aa true a.C3 n wr o) (A5 rfl qr1) rfl ?_
     refine qa0 (a:=(0,[1])) (by show (D.fidx a.C4 "held" (rA a n wr o g f)).map (λ n=>(0,[n]))=_;rw[qs1];rfl) ?_;refine qa0 (a:=D.l false (Ou n.toNat g)) rfl ?_;refine⟨rfl,qa0 (a:=D.int (j:Nat)) ?_ ⟨rfl,λ w=>?_⟩⟩
     . show (if (rA a n wr o g f).isM a.C4 "room_of" = true then (some (D.int k)).bind λ y=>(G9 a.C4 (rA a n wr o g f) y).bind λ d=>d.flat.map λ _=>d else none)=_
       rw[if_pos (qe6 rfl)];show (G9 a.C4 (rA a n wr o g f) (.int k)).bind _=_;rw[qao4 hk,O];rfl
     refine⟨true,n,wr,o,g,S,k,j,rfl,J,L,M,KP,H,I,λ came r K'=>?_⟩;refine qa0 (a:=[rA a n wr o r f,D.q [.str "put",.int k]]) ?_ (t _ ⟨r,rfl,K'⟩);show Ap (.pl 0 [1] w::_) _ _=_;rw[qk7 rfl];rfl
   rintro v ⟨r,rfl,K'⟩;exact qf3 (.bl true) rfl (q r K')
 refine qj1 false ((s _ _).trans (by rw[C])) nofun λ _=>?_
 refine qb1 [rA a n wr o g f,.q [.str "take",.int k]] (λ K t=>qe7 (u f _ K _ rfl t)) ?_;refine qb8 (λ v=>∃ r,v=[rA a n wr o r f,.q [.str "take",.int k]]/\Kept n.toNat wr (Oq n o) r (S++[k])) (λ K t=>if_v (b:=false) rfl nofun λ _=>qf5 (qh3 ?_)) ?_
 . refine qd8 (y:=Aa true a.C3 n wr o) (A5 rfl qr1) rfl ?_
   refine qa0 (a:=(0,[1])) (by show (D.fidx a.C4 "held" (rA a n wr o g f)).map (λ n=>(0,[n]))=_;rw[qs1];rfl) ?_;refine qa0 (a:=D.l false (Ou n.toNat g)) rfl ?_;refine⟨rfl,λ w=>qd8 (y:=D.int k) rfl rfl (qb9 ?_)⟩;refine⟨true,n,wr,o,g,S,k,rfl,J,L,hk,M,KP,nin,?_,λ came r K'=>?_⟩
   . by_cases h:∃ e,Ig n.toNat wr (Oq n o) g k e
     . exact h
     obtain⟨q,c⟩:=KP.crowd λ e z=>h ⟨e,z⟩
     exact absurd c (nc q)
   refine qa0 (a:=[rA a n wr o r f,D.q [.str "take",.int k]]) ?_ (t _ ⟨r,rfl,K'⟩);show Ap (.pl 0 [1] w::_) _ _=_;rw[qk7 rfl];rfl
 rintro v ⟨r,rfl,K'⟩;exact qf3 (.bl true) rfl (q r K')
theorem qr0:qa9 ["_law_row", "_law_many", "_law_turn"] ["_law_row", "_law_many"] (qa3 ql7):=by walk_at "s"
theorem Way.nc{n:Int}{wr:Bool}{ps:Pr}{st:List (Bool×Int)}{S:List Int}(a:1<=n)(h:Way (NCd n wr ps) st S):NCd n wr ps S:=by
 induction h with
 | nil=>exact(Kept.none (wr:=wr) (by lia) (D7 a)).no_crowd
 | put _ _ _ b _=>exact b
 | take _ _ d=>exact λ q c=>d q (c.mono Mq)
theorem t2_to{g:D->D->Option D}(h:ta ds (λ x ds1=>tb ds1 (λ y a=>orF (g x y) λ d=>Q d a) xe) xe):t2 g ta tb ds Q xe:=h
def qq6(C CP:γ):VSp:=λ ds Q _=>∃ n wr ps g st S,ds=[Au false C CP n wr ps g (stD st),.int (st.length:Nat)]/\1<=n/\n<=64/\Way (NCd n wr ps) st S/\st.length<=330/\Kept n.toNat wr (Oq n ps) g S /\
 ∀ g',Q (.bl true) [Au false C CP n wr ps g' [],.u]
theorem qF9(T:Txt K mg a):VFn P w K mg base 9 a.f45 a.d45 ["_law_row", "_law_many"] (qq6 a.C4 a.C3):=by
 refine VFn.mk2 T.d45.F qr0 (wOf [true,true]) (by walk_at "m") (by walk_at "l") (λ _ _ _ _ _ _ _ r=>⟨_,(Ac (qJ2 Nn T.Ci (Du (vaN 1 Ad)) (Be 2 qr0.nd) (Ag (sif (q2v (A4 qi8 (qb0 _)) (Am qi8 (qb0 _)) qn4 (qk9 0 T.d31 T.C5.cl (qD3 T) qa1 (rm r)) vbl) (Ag (Aq (qa4 vbl))) Av))) (Ag (Aq (Ev (e2v (A4 Ei (qb0 _)) Eh (qk9 0 T.d31 T.C5.cl (qD3 T) qa1 (rm r)) vbl) (Ev (e2 (A4 (qn6 r.u64) (qb0 _)) Bm (qk9 0 T.d25 T.C5.cl (qe0 T) qa1 (rm r)) (e2 (Ak qv6) qv5 (qa4 (Bl (qa2 Bb qa6 rfl))) (ebi ql4 ql3.ops T.Ca (Du (vaV (qk9 0 T.d25 T.C5.cl (qe0 T) qa1 (rm r)) Ad))))) (F7 (e2v (A4 (qn6 r.u64) (qb0 _)) Bm (qk9 0 T.d32 T.C5.cl (qp4 T) qa1 (rm r)) (Bl qa6)))))))),λ s Q O h=>?_⟩);obtain⟨n,wr,b,g,f,S,rfl,u,v,W,R,KP,q⟩:=h;refine At [rA a n wr b g (stD f),.int (f.length:Nat),.u] rfl ?_;refine qb8 (λ s=>∃ g o,s=[rA a n wr b g [],.u,o]/\Kept n.toNat wr (Oq n b) g []) (λ K G=>?_) ?_
 . refine qW0 (n:=(f.length:Nat)) rfl (qR1 (by lia) (by lia)) ?_
   refine qd7 (λ i s=>∃ g S o,s=[rA a n wr b g (stD (f.take (f.length - i))),.u,o]/\Way (NCd n wr b) (f.take (f.length - i)) S/\Kept n.toNat wr (Oq n b) g S) _ 0 _ ⟨g,S,.u,by rw[Nat.sub_zero,zBu];rfl,by rw[Nat.sub_zero,zBu];exact W,KP⟩ ?_ ?_
   . rintro i y H s ⟨g,S,o,rfl,W,K1⟩ K2 t
     obtain⟨A,rfl⟩:=qF6 H;rw[zAb] at W t ⊢;obtain⟨m,I⟩:∃ m,f.length - i=m+1:=⟨f.length - i - 1,by lia⟩
     have z:f.length - (i+1)=m:=by lia
     obtain⟨⟨p,k⟩,B⟩:∃ J,f[m]? = some J:=⟨_,zAw (by lia)⟩
     have L:=qac2 B;rw[I] at W ⊢;rw[z] at t;have W0:=W;rw[zBq,B] at W0;obtain⟨S0,W1,C⟩:=Way.inv W0;rw[<- L];refine qm4 (qaO0 (qJ5 (qC0 (p:=rA a n wr b g (stD (f.take m)++[D.q [.str (wS p),.int k]])) rfl (qe6 rfl) (qb9 (qa0 (a:=rA a n wr b g (stD (f.take m)++[D.q [.str (wS p),.int k]])) rfl ⟨n,wr,b,g,_,S,rfl,u,v,W.num,K1,.inr ⟨stD (f.take m),k,?_,?_⟩⟩)))))
     . rcases C with⟨_,hk,_⟩ | ⟨_,hk,_⟩
       . exact hk
       exact W1.num k hk
     have fin:∀ j,Kept n.toNat wr (Oq n b) j S0->K2 [rA a n wr b j (stD (f.take m)),.u,.int (i:Nat)]:=λ j K'=>t _ ⟨j,S0,_,rfl,W1,K'⟩
     rcases C with⟨rfl,hk,hn,nc,rfl⟩ | ⟨rfl,hk,rfl⟩
     . refine .inl ⟨rfl,zAu _ (zAa.mpr rfl),λ j K'=>qa0 (a:=[rA a n wr b j (stD (f.take m)),.u,.int (i:Nat)]) rfl (qa0 (a:=D.bl false) rfl (qa0 (a:=false) rfl (Dk (by decide) (fin j ?_))))⟩
       rw[Mn,List.filter_eq_self.mpr λ x M=>zAl (show x≠k from λ e=>hn (e ▸ M))] at K';rw[show [k].filter (λ x=>decide (x≠k))=[] by simp,zAd] at K';exact K'
     have E:(S0.erase k++[k]).Perm S0:=List.perm_append_comm.trans (List.perm_cons_erase hk).symm;refine .inr ⟨rfl,λ h=>(W1.nd.mem_erase_iff.mp h).1 rfl,λ q c=>W1.nc u q (c.perm E),λ j K'=>qa0 (a:=[rA a n wr b j (stD (f.take m)),.u,.int (i:Nat)]) rfl (qa0 (a:=D.bl false) rfl (qa0 (a:=false) rfl (Dk (by decide) (fin j (K'.of_perm E)))))⟩
   rintro s ⟨g,S,o,rfl,W,K1⟩;rw[zAb,qL0,Int.toNat_natCast,Nat.sub_self,Mf] at W ⊢;obtain rfl:=W.det .nil;exact G _ ⟨g,o,rfl,K1⟩
 rintro s ⟨g,o,rfl,K1⟩;have N:∀ i,i < n.toNat->g i=none:=λ i A=>by
   cases h:g i with
   | none=>rfl
   | some k=>exact nomatch (K1.h.2 k).mpr ⟨i,A,h⟩
 refine qk0 (qaG0 (qA7 (qC0 (p:=rA a n wr b g []) rfl (qe6 rfl) (qb9 (qa0 (a:=rA a n wr b g []) rfl ⟨n,wr,b,g,[],[],rfl,u,v,nofun,K1,.inl ⟨rfl,qa0 (a:=[rA a n wr b g [],.u,o]) rfl (qa0 (a:=D.bl true) rfl (qa0 (a:=true) rfl (B8 rfl (qaG0 (t2_to (qG6 (p:=rA a n wr b g []) (d:=rL n g) rfl (qe6 rfl) ⟨false,n,wr,b,g,_,rfl,rfl⟩ rfl (qI4 (x:=.l false [.non]) rfl (Jm (qf7 (qG6 (p:=rA a n wr b g []) (d:=rL n g) rfl (qe6 rfl) ⟨false,n,wr,b,g,_,rfl,rfl⟩ rfl (qb9 (qa0 (a:=D.int n) ?_ (qa0 (qR0 (by lia) v) (qa0 (a:=D.bl true) (qaX1 N) (qa0 (a:=true) rfl (B8 rfl (qA7 (qG6 (p:=rA a n wr b g []) (d:=.l false []) rfl (qe6 rfl) ⟨false,n,wr,b,g,[],rfl,rfl,rfl⟩ rfl (qa0 (a:=D.bl true) rfl (q g))))))))))))))))))))⟩⟩)))));show some (D.int ((Ou n.toNat g).length:Nat))=_;rw[qo4,show ((n.toNat:Nat):Int)=n by lia]
theorem qq8:qa9 ["_law_script", "_law_bag_here", "_law_asked", "_law_broad", "_law_plan", "_law_keys", "_law_goal", "_law_rooms", "_law_there", "_law_rows", "_law_steps_here", "_law_k", "_law_row"] ["_law_script"] (qa3 Ga):=by walk_at "s"
theorem qaQ4{g:VTG}(h:te ds (λ d a=>g d a e.nx) e.xe):Ea te g e ds:=h
theorem qaX7{z:Bool}(ks:List Int):gEq (.l z (Ot ks)) (.l z' [])=some (.bl (decide (ks=[]))):=by
 cases ks<;>rfl
theorem qaW8{z:Bool}{j:Int}(h:0<=j):gSl (.l z (Ot ks)) none (some j)=some (kL (ks.take j.toNat)):=by
 have e:Dl (Ot ks) none (some j)=Ot (ks.take j.toNat):=by
   rw[show j=((j.toNat:Nat):Int) by lia,qH4,Int.toNat_natCast];unfold Ot;rw[La]
 show gd (D.imms (Dl (Ot ks) none (some j))=true) (.l false (Dl (Ot ks) none (some j)))=_;rw[e];exact ql2 (qh9 _)
theorem qaO7(N:Nat)(g:Nat->Option Int):D.fzs (Ou N g)=Ou N g:=by
 unfold Ou
 induction Kz N with
 | nil=>rfl
 | cons a l b =>
   show (Di (g a)).fz::D.fzs (l.map λ i=>Di (g i))=_;have e:(Di (g a)).fz=Di (g a):=by cases g a<;>rfl
   rw[b,e];rfl
theorem qaE5{zr:Bool}{C CP:γ}{n:Int}{wr:Bool}{ps:Pr}{g:Nat->Option Int}{dn:Ds}:(Au zr C CP n wr ps g dn).fz=Au true C CP n wr ps g (D.fzs dn):=by
 show D.ins true C [("plan",(Aa true CP n wr ps).fz),("held",.l true (D.fzs (Ou n.toNat g))),("done",.l true (D.fzs dn))]=_;rw[qaO7,qaj8];rfl
theorem qar1:∀ st:List (Bool×Int),D.fzs (stD st)=stD st
 | []=>rfl
 | q::st=>by
   show D.q [.str (wS q.1),.int q.2]::D.fzs (stD st)=_;rw[qar1 st];rfl
theorem ne_st{z:Bool}(st:List (Bool×Int)):gNe (.l z (stD st)) (.l z' (stD st))=some (.bl false):=by
 show (De (eqN 20) (stD st) (stD st)).map (λ x=>D.bl !x)=_;rw[qm8 λ x a=>?_]
 . rfl
 obtain⟨q,_,rfl⟩:=zBc.mp a;exact qA3 rfl
noncomputable def pick(p:Prop)[Decidable p]{α:Type}(l:List α):List α:=if p then l else []
theorem qaT4(h:ta ds (λ x ds1=>orF x.asB λ k=>if k=true then Q (.bl true) ds1 else tb ds1 Q xe) xe):tOrE ta tb ds Q xe:=h
abbrev qx0 (u) (a0) (c0) (n:Int) (wr:Bool) (ps:Pr) (ks) (g) (a:Adr) (p1 e f b c d:D):=([.hole u,p1,.bl a0,.bl c0,Op n wr ps,kL ks,e,rL n g,Aa true a.C3 n wr ps,f,b,c,d]:Ds)
theorem qaU5(T:Txt K mg a):Dw P w K mg base (CX1 P w) 12 a.f46 a.d46 ["_law_script"] (Gy K):=by
 refine T.d46.F.okX qq8 (λ vs H Q E h=>?_) (λ a8 A outer s H vs Q E U h=>?_)
 . obtain⟨l,ns,rfl,_⟩:=h
   rfl
 obtain⟨l,ns,rfl,hS,hl,k⟩:=h;refine⟨_,qQ1 (sset 1 qq8.nd (Gw T.d34 (qaL4 T) (rm U) (qc5 (pv 0) ql9))) (show VSs ⟨λ _=>E,λ _=>false,Ky 13 none,[]⟩ (Dx true (CX1 P w) P w K mg base ["_law_script", "_law_bag_here", "_law_asked", "_law_broad", "_law_plan", "_law_keys", "_law_goal", "_law_rooms", "_law_there", "_law_rows", "_law_steps_here", "_law_k", "_law_row"] "law" (qa3 Ga) a.f46 a8 A outer s H E) _ _ from(Ac (Al 2 qq8.nd (e2v (A4 (qn6 U.u64) (qb0 _)) Bm (Ah T.d35 (qb3 T) qa1 (rm U) (vaN 1 (vaV (qa4 Af) Ad))) Af)) (Ac (Al 3 qq8.nd (e2v (A4 (qn6 U.u64) (qb0 _)) Bm (Ah T.d35 (qb3 T) qa1 (rm U) (vaN 1 (vaV (qa4 Af) Ad))) Af)) (Ac (Fc (Ah T.d40 (qap4 T) qa1 (rm U) (vaN 1 (vaV (qa4 (v2 (Aw qb4) An (Bl (qa2 Af (qa2 Af qa6 rfl) rfl)) (Fv qX6 qaP8.ops T.Ct (qa2 (vnm 3) qa6 rfl)))) Ad))) (G3 (n:=2) rfl (qL9 (Be 4 qq8.nd) (qL9 (Be 5 qq8.nd) G2)))) (Ac (sif (q2 (Am (qn6 U.u64) (qb0 _)) Bm (vnm 5) (Bl qa6)) (Ag (Al 5 qq8.nd (qa4 (Bl (qa2 Af qa6 rfl))))) Av) (Ac (Al 6 qq8.nd (Ah T.d41 (qaa3 T) qa1 (rm U) (vaN 4 (vaV (eslN 5 (Ah T.d35 (qb3 T) qa1 (rm U) (vaN 1 (vaV (qa4 (v2 (Ak qg4) qg3 (vbi ql4 ql3.ops T.Ca (qa2 (vnm 5) qa6 rfl)) Af)) Ad)))) Ad)))) (Ac (Al 7 qq8.nd (Ah T.d38 (qr6 T) qa1 (rm U) (vaN 4 (vaN 6 Ad)))) (Ac (Al 8 qq8.nd (efzV (emake T.C6 T.D1 T.d7 (qQ7 T) qa1 (rm U) (vaV (qb5 (v2 (Aw qb4) An (vnm 4) Af)) (vaV (qb5 (v2 (Aw qb4) An (vnm 4) Af)) (vaV (qa4 (Fv qh4 qM3.ops T.Cj (qa2 (v2 (Aw qb4) An (vnm 4) Af) qa6 rfl))) Ad)))))) (Ac (Al 9 qq8.nd (Hk (vaV (qaP7 (ndv:=[]) T.C5 T.Cu T.d24.bn (qt7 T) qa1 (rm U) (vaN 8 Ad)) (vaV (qaP7 (ndv:=[]) T.C5 T.Cu T.d24.bn (qt7 T) qa1 (rm U) (vaN 8 Ad)) Ad)))) (Ac (scR1 (NY:=["_law_k", "_law_bag_here", "_law_plan", "_law_keys", "_law_goal"]) (src:=[none,some 1,some 4,some 5,some 6]) 10 qq8.nd T.Ci (Du (vaV (qa4 Af) Ad)) (blk (λ av C o H0 ex=>(Be 0 (show (["_law_k", "_law_bag_here", "_law_plan", "_law_keys", "_law_goal"]:List Str).Nodup by decide +kernel))) (λ av C o H0 ex=>Fk) (λ av C o H0 ex=>(efzV (Ah T.d42 (qap3 T) qt9 (rm U) (vaN 1 (vaN 2 (vaN 3 (vaN 4 Ad))))))))) (Ac (qJ2 Nn T.Ci (Du (vaV (qa4 Af) Ad)) (Be 11 qq8.nd) (Ag (sif (Br (te (Ah T.d43 (qaC4 T) qa1 (rm U) (vaB (vpix (vpn 9) (vnm 11)) (vaV (qb5 (v2 (Aw qb4) An (vnm 10) (vnm 11))) (vaN 4 (vaN 2 Ad))))))) (Ag (Aq (qa4 vbl))) Av))) (Ac (slent 12 (λ av=>(G4 Nn (e2n 9 (Ak qg4) qg3 (Hk (vaV (efzV (qaY1 T.C5 T.Cu T.d24 (qt7 T) qa1 (rm U) (vaN 8 (vaN 7 Ad)))) Ad))) (Be 12 qq8.nd) (Ag (sif (Br (te (Ah T.d44 (qap2 T) qa1 (rm U) (vaN 12 (vaN 7 (vaN 5 Ad)))))) (Ag (Aq (qa4 vbl))) Av))))) (Ac (sif (tor (q2v (A4 (qn5 U.u64) (qb0 _)) (Am (qn5 U.u64) (qb0 _)) Dr (qaP6 T.d32 T.C5.cl (qp4 T) qa1 (rm U) (vpix (vpn 9) Af)) (v2 (Aw qb4) An (vnm 10) Af)) (Hi (q2v (A4 (qn5 U.u64) (qb0 _)) (Am (qn5 U.u64) (qb0 _)) Dr (qaP6 T.d32 T.C5.cl (qp4 T) qa1 (rm U) (vpix (vpn 9) Af)) (v2 (Aw qb4) An (vnm 10) Af)))).te (Ag (Aq (qa4 vbl))) Av) (Ag (Aq (eor (Ev (qb5 (vnm 3)) (F7 (e2v (A4 (qn6 U.u64) (qb0 _)) Bm (Ah T.d35 (qb3 T) qa1 (rm U) (vaN 1 (vaV (qa4 Af) Ad))) Af))) (F7 (Ah T.d45 (qF9 T) qa1 (rm U) (vaB (vpix (vpn 9) Af) (vaV (qa4 (vbi ql4 ql3.ops T.Ca (qa2 (v2 (Aw qb4) An (vnm 10) Af) qa6 rfl))) Ad)))))))))))))))))))).h,?_⟩;refine⟨_,rfl,l,ns,rfl,hS,hl,λ p L H' hp hL kp B=>?_⟩;obtain⟨x,y,z,O,B⟩:=B;refine qaq2 (rest:=[]) (X:=Dx true (CX1 P w) P w K mg base [] "law" (qa3 Ga) a.f46 a8 A outer s H E) (n:=11) (x:=x) (y:=y) (z:=z) (ns:=O) rfl (λ _=>rfl) rfl B.at_ B.li B.ne (λ H'=>k H') ?_;have B0:O3 O (bagD x y z O):=⟨x,y,z,rfl,B.x0,B.y0,B.y1,B.z0,B.nn⟩
 generalize bagD x y z O=b at B0;generalize V.ref l=u;refine At [.hole u,b,.u,.u,.u,.u,.u,.u,.u,.u,.u,.u,.u] rfl ?_;refine qb8 (λ N=>∃ b t,N=[.hole u,b,.bl t,.u,.u,.u,.u,.u,.u,.u,.u,.u,.u]/\O3 O b) (λ K Y=>qe7 (qA7 (qc4 rfl B0 rfl (by decide) (by decide) λ v b' v0 v1 B'=>qa0 (a:=D.bl (decide (v=1))) rfl (Y _ ⟨b',_,rfl,B'⟩)))) ?_;rintro N ⟨b,t,rfl,B⟩;refine qb8 (λ N=>∃ b I,N=[.hole u,b,.bl t,.bl I,.u,.u,.u,.u,.u,.u,.u,.u,.u]/\O3 O b) (λ K Y=>qe7 (qA7 (qc4 rfl B rfl (by decide) (by decide) λ v b' v0 v1 B'=>qa0 (a:=D.bl (decide (v=3))) rfl (Y _ ⟨b',_,rfl,B'⟩)))) ?_;clear B;rintro N ⟨b,I,rfl,B⟩;refine qb8 (λ N=>∃ b n wr e f,N=[.hole u,b,.bl t,.bl I,Op n wr e,kL f,.u,.u,.u,.u,.u,.u,.u]/\O3 O b/\1<=n/\n<=64/\Ij e/\f.Nodup/\(∀ k∈f,Aj k)/\f.length<=66) (λ K Y=>?_) ?_
 . obtain⟨M,hM,M1,M2⟩:∃ M:Int,f2 gIx (kC (.l false [.int 24,.int 64])) (Ba (fx1 gInt) (A6 (rdN 3) λ _=>some [])) [.hole u,b,.bl t,.bl I,.u,.u,.u,.u,.u,.u,.u,.u,.u]=some (.int M)/\1<=M/\M<=64:=by
     cases I
     . exact⟨24,rfl,by decide,by decide⟩
     exact⟨64,rfl,by decide,by decide⟩
   refine qaQ4 (qh3 (qc2 (x:=b) (qi6 rfl B.known) (qe8 (y:=.int M) hM (qb9 (qa0 (a:=b) (qi6 rfl B.known) ?_)))));exact⟨b,M,O,rfl,B,M1,M2,λ b' n wr e f B' n1 n2 G nd hk a1=>qa0 (a:=[.hole u,b',.bl t,.bl I,.u,.u,.u,.u,.u,.u,.u,.u,.u]) rfl (qH1 (Y _ ⟨b',n,wr,e,f,rfl,B',n1,n2,G,nd,hk,a1⟩))⟩
 clear B;rintro N ⟨b,n,wr,e,f,rfl,B,n1,n2,GP,a2,hk,a1⟩;refine qb8 (λ N=>∃ f,N=[.hole u,b,.bl t,.bl I,Op n wr e,kL f,.u,.u,.u,.u,.u,.u,.u]/\f.Nodup/\(∀ k∈f,Aj k)/\f.length<=66/\0 < f.length) (λ K Y=>?_) ?_
 . refine if_v (b:=decide (f=[])) (Ae rfl rfl (qaX7 f)) (λ h=>?_) λ h=>Y _ ⟨f,rfl,a2,hk,a1,List.length_pos_iff.mpr (zB9 h)⟩
   exact qq7 (d:=kL [5]) rfl (Y _ ⟨[5],rfl,by simp,λ x hx=>by rw[zAa.mp hx];exact⟨by decide,by decide⟩,by decide,by decide⟩)
 clear a1 hk a2;rintro N ⟨f,rfl,a2,hk,a1,a9⟩;refine qb8 (λ N=>∃ b G,N=[.hole u,b,.bl t,.bl I,Op n wr e,kL f,kL G,.u,.u,.u,.u,.u,.u]/\O3 O b/\G.Sublist f/\NCd n wr e G) (λ K Y=>?_) ?_
 . refine qe7 (qh3 (qc2 (x:=Op n wr e) rfl (qf7 ⟨rfl,qc4 (ds:=[.hole u,b,.bl t,.bl I,Op n wr e,kL f,.u,.u,.u,.u,.u,.u,.u]) (m:=(f.length:Nat)+1) rfl B ?_ (by lia) (by lia) λ v b v0 v1 B=>qa0 (a:=v) rfl (qa0 (qaW8 (z:=false) v0) (qb9 (qa0 (a:=Op n wr e) rfl ?_)))⟩)))
   . refine Ae (x:=.int (f.length:Nat)) (y:=.int 1) ?_ rfl rfl
     rw[qm1 (z:=false) (ys:=Ot f) rfl,qf4]
   exact⟨n,wr,e,false,f.take v.toNat,rfl,n1,n2,GP.nd,a2.sublist (zCa _ _),by rw[zBk];lia,λ S h nc=>qa0 (a:=[.hole u,b,.bl t,.bl I,Op n wr e,kL f,.u,.u,.u,.u,.u,.u,.u]) rfl (Y _ ⟨b,S,rfl,B,h.trans (zCa _ _),nc⟩)⟩
 clear B;rintro N ⟨b,G,rfl,B,sub,nc⟩;have b0:=a2.sublist sub;have hG:∀ x∈G,Aj x:=λ x hx=>hk x (sub.subset hx)
 have b1:=zAj sub.length_le a1;refine qb8 (λ N=>∃ g,N=[.hole u,b,.bl t,.bl I,Op n wr e,kL f,kL G,rL n g,.u,.u,.u,.u,.u]/\Kept n.toNat wr (Oq n e) g G) (λ K Y=>qe7 (qaF7 (x:=Op n wr e) (y:=kL G) rfl rfl rfl ⟨n,wr,e,false,G,rfl,n1,n2,GP.nd,b0,by lia,λ ⟨q,c⟩=>absurd c (nc q),λ _ g Kg=>qa0 (a:=[.hole u,b,.bl t,.bl I,Op n wr e,kL f,kL G,.u,.u,.u,.u,.u,.u]) rfl (Y _ ⟨g,rfl,Kg⟩)⟩)) ?_;rintro N ⟨g,rfl,KG⟩;refine qb1 (qx0 u t I n wr e f g a b (kL G) .u .u .u .u) (λ K Y=>qe7 (Jl (qaw4 (qd8 (y:=.int n) rfl rfl (qd8 (y:=.bl wr) rfl rfl (qe8 (y:=.l false (Ov e)) (qaw5 (z:=true)) (qb9 ⟨n,wr,false,e,rfl,n1,n2,GP,rfl,qa0 (a:=Aa false a.C3 n wr e) rfl (qa0 (a:=[.hole u,b,.bl t,.bl I,Op n wr e,kL f,kL G,rL n g,.u,.u,.u,.u,.u]) rfl ?_)⟩))))))) ?_
 . rw[qaj8]
   exact Y
 have K0:Kept n.toNat wr (Oq n e) (λ _=>none) []:=Kept.none (by lia) (D7 n1);refine qb1 [.hole u,b,.bl t,.bl I,Op n wr e,kL f,kL G,rL n g,Aa true a.C3 n wr e,.l false [rA a n wr e (λ _=>none) [],rA a n wr e (λ _=>none) []],.u,.u,.u] (λ K Y=>?_) ?_
 . refine qe7 (qG5 (qf7 (qc2 (x:=Aa true a.C3 n wr e) rfl (qb9 (qa0 (a:=Aa true a.C3 n wr e) rfl ⟨n,wr,e,.non,λ _=>none,[],rfl,n1,n2,nofun,K0,.inl ⟨rfl,rfl⟩,rfl,?_⟩)))))
   refine qa0 (a:=rA a n wr e (λ _=>none) []) rfl (qa0 (a:=(qx0 u t I n wr e f g a b (kL G) .u .u .u .u)) rfl ?_);refine qf7 (qc2 (x:=Aa true a.C3 n wr e) rfl (qb9 (qa0 (a:=Aa true a.C3 n wr e) rfl ⟨n,wr,e,.non,λ _=>none,[],rfl,n1,n2,nofun,K0,.inl ⟨rfl,rfl⟩,rfl,?_⟩)));exact qa0 (a:=rA a n wr e (λ _=>none) []) rfl (qa0 (a:=(qx0 u t I n wr e f g a b (kL G) .u .u .u .u)) rfl (qb9 ⟨lt2,Y⟩))
 refine qb8 (λ N=>∃ b o r T0 T1,N=[.hole u,b,.bl t,.bl I,Op n wr e,kL f,kL G,rL n g,Aa true a.C3 n wr e,.l false [rA a n wr e (λ _=>none) [],rA a n wr e (λ _=>none) []],.l false [.l true (stD o),.l true (stD r)],.u,.u]/\O3 O b/\Way (NCd n wr e) o T0/\(∀ x,x∈T0↔x∈G)/\o.length<=330/\Way (NCd n wr e) r T1/\(∀ x,x∈T1↔x∈G)/\r.length<=330) (λ K Y=>qe7 (qaY6 (qe8 (y:=.int 2) rfl (qb9 (qa0 (a:=(2:Int)) rfl ⟨by decide,?_⟩))))) ?_
 . refine qax9 (λ i a5 ι=>∃ b d L,ι=[d,b,Op n wr e,kL f,kL G]/\O3 O b/\a5=L.map (λ st=>D.l true (stD st))/\L.length=i/\∀ st∈L,∃ T,Way (NCd n wr e) st T/\(∀ x,x∈T↔x∈G)/\st.length<=330) _ 0 [] _ ⟨b,_,[],rfl,B,rfl,rfl,nofun⟩ ?_ ?_
   . rintro j y hy a5 ι ⟨b,d,L,rfl,B,rfl,Z,hL⟩ R hR
     have hj:=(qF6 hy).1;rw[zAb] at Z hR;refine qm4 (qam2 (B8 rfl (Jl (qh3 (qc2 (x:=b) (qi6 rfl B.known) (qc2 (x:=Op n wr e) rfl (qc2 (x:=kL f) rfl (qc2 (x:=kL G) rfl (qb9 (qa0 (a:=D.l false (Ot G)) rfl (qa0 (a:=D.l false (Ot f)) rfl (qa0 (a:=Op n wr e) rfl (qa0 (a:=b) (qi6 rfl B.known) ?_)))))))))))));refine⟨b,O,n,wr,e,false,f,false,G,rfl,B,n1,n2,GP.nd,hk,a9,a1,b0,hG,b1,nc,λ b' st T B' W hT hl=>qa0 (a:=[y,b',Op n wr e,kL f,kL G]) rfl ⟨by rw[zAg,Z];unfold big;lia,hR _ _ ⟨b',y,L++[st],rfl,B',?_,by rw[zA6,Z];rfl,λ x hx=>?_⟩⟩⟩
     . rw[zBf]
       show _++[D.l true (D.fzs (stD st))]=_;rw[qar1];rfl
     rcases zA8.mp hx with h | h
     . exact hL x h
     rw[zAa.mp h];exact⟨T,W,hT,hl⟩
   rintro a5 ι ⟨b,d,L,rfl,B,rfl,Z,hL⟩
   match L,Z with
   | [o,r],_ =>
     obtain⟨T0,W0,a6,l0⟩:=hL o (by simp);obtain⟨T1,W1,a7,l1⟩:=hL r (by simp);exact Y _ ⟨b,o,r,T0,T1,rfl,B,W0,a6,l0,W1,a7,l1⟩
 clear B;rintro N ⟨b,o,r,T0,T1,rfl,B,W0,a6,l0,W1,a7,l1⟩;refine qb8 (λ N=>∃ J g1 k,N=(qx0 u t I n wr e f g a b (kL G) (.l false [rA a n wr e J (stD o),rA a n wr e g1 (stD r)]) (.l false [.l true (stD o),.l true (stD r)]) k .u)/\Kept n.toNat wr (Oq n e) J T0/\Kept n.toNat wr (Oq n e) g1 T1) (λ K Y=>?_) ?_
 . refine qV9 (n:=2) rfl (by decide) ?_
   refine qd7 (λ i N=>∃ J g1 k,N=(qx0 u t I n wr e f g a b (kL G) (.l false [rA a n wr e J (stD (pick (0 < i) o)),rA a n wr e g1 (stD (pick (1 < i) r))]) (.l false [.l true (stD o),.l true (stD r)]) k .u)/\Kept n.toNat wr (Oq n e) J (pick (0 < i) T0)/\Kept n.toNat wr (Oq n e) g1 (pick (1 < i) T1)) _ 0 _ ⟨_,_,_,rfl,K0,K0⟩ ?_ ?_
   . rintro j y hy N ⟨J,g1,k,rfl,K0,K1⟩ K2 a3
     obtain⟨hj,rfl⟩:=qF6 hy;refine qm4 (show sIf _ _ _ _ _ from(show D9 _ _ _ _ from(show ttE _ _ _ _ from ?_)));rcases (show j=0∨j=1 by lia) with rfl | rfl
     . refine qh3 (qa0 (a:=(9,[0])) rfl (qa0 (a:=rA a n wr e J []) rfl ⟨rfl,λ v=>?_⟩))
       refine qd8 (y:=.l true (stD o)) rfl rfl (qc2 (x:=Op n wr e) rfl (qc2 (x:=.bl t) rfl (qb9 (qa0 (a:=D.bl t) rfl (qa0 (a:=Op n wr e) rfl ?_)))));refine⟨n,wr,e,J,true,o,T0,t,rfl,n1,n2,GP.nd,W0,l0,K0,λ gn Kn=>qa0 (a:=(qx0 u t I n wr e f g a b (kL G) (.l false [rA a n wr e gn (stD (pick (0 < (0+0+1)) o)),rA a n wr e g1 (stD (pick (1 < (0+0+1)) r))]) (.l false [.l true (stD o),.l true (stD r)]) (.int ((0:Nat):Int)) .u)) ?_ (qa0 (a:=true) rfl (Dk (by decide) (a3 _ ⟨gn,g1,_,rfl,Kn,K1⟩)))⟩;show Ap (.pl 9 [0] v::_) (_::_) _=_;rw[qk7 rfl];rfl
     refine qh3 (qa0 (a:=(9,[1])) rfl (qa0 (a:=rA a n wr e g1 []) rfl ⟨rfl,λ v=>?_⟩));refine qd8 (y:=.l true (stD r)) rfl rfl (qc2 (x:=Op n wr e) rfl (qc2 (x:=.bl t) rfl (qb9 (qa0 (a:=D.bl t) rfl (qa0 (a:=Op n wr e) rfl ?_)))));refine⟨n,wr,e,g1,true,r,T1,t,rfl,n1,n2,GP.nd,W1,l1,K1,λ gn Kn=>qa0 (a:=(qx0 u t I n wr e f g a b (kL G) (.l false [rA a n wr e J (stD (pick (0 < (0+1+1)) o)),rA a n wr e gn (stD (pick (1 < (0+1+1)) r))]) (.l false [.l true (stD o),.l true (stD r)]) (.int ((1:Nat):Int)) .u)) ?_ (qa0 (a:=true) rfl (Dk (by decide) (a3 _ ⟨J,gn,_,rfl,K0,Kn⟩)))⟩;show Ap (.pl 9 [1] v::_) (_::_) _=_;rw[qk7 rfl];rfl
   rintro N ⟨J,g1,k,rfl,K0,K1⟩;exact Y _ ⟨J,g1,k,rfl,K0,K1⟩
 rintro N ⟨J,g1,k,rfl,K0,K1⟩;refine qb1 (qx0 u t I n wr e f g a b (kL G) (.l false [rA a n wr e J (stD o),rA a n wr e g1 (stD r)]) (.l false [.l true (stD o),.l true (stD r)]) k .u) (λ K Y=>qaM5 (d:=.u) rfl ?_) ?_
 . have eZ:D.fzs [.hole u,b,.bl t,.bl I,Op n wr e,kL f,kL G,rL n g,Aa true a.C3 n wr e,.l false [rA a n wr e J (stD o),rA a n wr e g1 (stD r)],.l false [.l true (stD o),.l true (stD r)],k,.u]=[.hole u,b.fz,.bl t,.bl I,Op n wr e,.l true (Ot f),.l true (Ot G),.l true (Ou n.toNat g),Aa true a.C3 n wr e,.l true [Au true a.C4 a.C3 n wr e J (stD o),Au true a.C4 a.C3 n wr e g1 (stD r)],.l true [.l true (stD o),.l true (stD r)],k.fz,.u]:=by
     show [D.hole u,b.fz,.bl t,.bl I,.q [.int n,.bl wr,.l true (D.fzs (Ov e))],(kL f).fz,(kL G).fz,.l true (D.fzs (Ou n.toNat g)),(Aa true a.C3 n wr e).fz,.l true [(rA a n wr e J (stD o)).fz,(rA a n wr e g1 (stD r)).fz],.l true [.l true (D.fzs (stD o)),.l true (D.fzs (stD r))],k.fz,.u]=_;rw[qV6,fz_ks,fz_ks,qaO7,qaj8,qaE5,qaE5,qar1,qar1];rfl
   rw[eZ];refine⟨rfl,qG5 (qf7 (Jl (qaw4 (qc2 (x:=Aa true a.C3 n wr e) rfl (qc2 (x:=.l true (Ou n.toNat g)) rfl (qb9 (qa0 (a:=D.l true (Ou n.toNat g)) rfl (qa0 (a:=Aa true a.C3 n wr e) rfl ⟨n,wr,e,_,g,G,rfl,n1,n2,hG,KG,.inr ⟨true,rfl⟩,rfl,qa0 (a:=rA a n wr e g []) rfl (qa0 (a:=[.hole u,b.fz,.bl t,.bl I,Op n wr e,.l true (Ot f),.l true (Ot G),.l true (Ou n.toNat g),Aa true a.C3 n wr e,.l true [Au true a.C4 a.C3 n wr e J (stD o),Au true a.C4 a.C3 n wr e g1 (stD r)],.l true [.l true (stD o),.l true (stD r)],k.fz,.u]) rfl ?_)⟩))))))))⟩;rw[qaE5];refine qb9 ⟨by show 1<=1000000;decide,qa0 (a:=D.l false [Au true a.C4 a.C3 n wr e J (stD o),Au true a.C4 a.C3 n wr e g1 (stD r),Au true a.C4 a.C3 n wr e g []]) (show Gc (D.l true [_,_]) (D.l false [_])=_ from ql2 ⟨rfl,rfl,lt3⟩) (qa0 (a:=[Au true a.C4 a.C3 n wr e J (stD o),Au true a.C4 a.C3 n wr e g1 (stD r),Au true a.C4 a.C3 n wr e g []]) rfl ⟨rfl,?_⟩)⟩;refine qd7 (λ _ N=>∃ d,N=[.hole u,b.fz,.bl t,.bl I,Op n wr e,.l true (Ot f),.l true (Ot G),.l true (Ou n.toNat g),Aa true a.C3 n wr e,.l true [Au true a.C4 a.C3 n wr e J (stD o),Au true a.C4 a.C3 n wr e g1 (stD r)],.l true [.l true (stD o),.l true (stD r)],k.fz,d]) _ 0 _ ⟨_,rfl⟩ ?_ λ _ _=>Y
   rintro j y hy N ⟨d,rfl⟩ K2 a3;obtain⟨g',a4,S',rfl,K',e'⟩:∃ g' a4 S',y=Au true a.C4 a.C3 n wr e g' a4/\Kept n.toNat wr (Oq n e) g' S'/\Ou n.toNat g=Ou n.toNat g':=by
     match j,hy with
     | 0,hy=>exact⟨J,_,T0,(Nm hy).symm,K0,qj9 (KG.same K0 λ x=>(a6 x).symm)⟩
     | 1,hy=>exact⟨g1,_,T1,(Nm hy).symm,K1,qj9 (KG.same K1 λ x=>(a7 x).symm)⟩
     | 2,hy=>exact⟨g,_,G,(Nm hy).symm,KG,rfl⟩
   refine qm4 (show sIf _ _ _ _ _ from(show D9 _ _ _ _ from(show ttE _ _ _ _ from ?_)));exact qR2 (x:=Au true a.C4 a.C3 n wr e g' a4) (y:=.l true (Ou n.toNat g)) (w:=.l true (Ot f)) (d:=.bl true) rfl rfl rfl rfl rfl ⟨true,n,wr,e,g',a4,S',true,true,f,by rw[e'],n2,K',hk,rfl⟩ rfl (qa0 (a:=true) rfl (Dk (by decide) (a3 _ ⟨_,rfl⟩)))
 have deeds:∀(Q:DK)(xe:XKd),Q (.l false (stD o)) [.hole u,b,.bl t,.bl I,Op n wr e,kL f,kL G,rL n g,Aa true a.C3 n wr e,.l false [rA a n wr e J (stD o),rA a n wr e g1 (stD r)],.l false [.l true (stD o),.l true (stD r)],k,.u]->qN9 a.C4 "deeds" (qo8 a.C4 a.C3) [] (pfIx (λ _=>some (9,[])) (kC (.int 0))) Ax [.hole u,b,.bl t,.bl I,Op n wr e,kL f,kL G,rL n g,Aa true a.C3 n wr e,.l false [rA a n wr e J (stD o),rA a n wr e g1 (stD r)],.l false [.l true (stD o),.l true (stD r)],k,.u] Q xe:=λ Q xe q=>qag7 (i:=9) (p:=[0]) (d:=rA a n wr e J (stD o)) rfl rfl (qe6 rfl) λ v=>qb9 ⟨_,⟨false,n,wr,e,J,_,rfl,qV4 o,rfl⟩,qa0 (a:=(qx0 u t I n wr e f g a b (kL G) (.l false [rA a n wr e J (stD o),rA a n wr e g1 (stD r)]) (.l false [.l true (stD o),.l true (stD r)]) k .u)) (by show Ap (.pl 9 [0] v::_) (_::_) _=_;rw[qk7 rfl];rfl) q⟩
 have deeds1:∀(Q:DK)(xe:XKd),Q (.l false (stD r)) [.hole u,b,.bl t,.bl I,Op n wr e,kL f,kL G,rL n g,Aa true a.C3 n wr e,.l false [rA a n wr e J (stD o),rA a n wr e g1 (stD r)],.l false [.l true (stD o),.l true (stD r)],k,.u]->qN9 a.C4 "deeds" (qo8 a.C4 a.C3) [] (pfIx (λ _=>some (9,[])) (kC (.int 1))) Ax [.hole u,b,.bl t,.bl I,Op n wr e,kL f,kL G,rL n g,Aa true a.C3 n wr e,.l false [rA a n wr e J (stD o),rA a n wr e g1 (stD r)],.l false [.l true (stD o),.l true (stD r)],k,.u] Q xe:=λ Q xe q=>qag7 (i:=9) (p:=[1]) (d:=rA a n wr e g1 (stD r)) rfl rfl (qe6 rfl) λ v=>qb9 ⟨_,⟨false,n,wr,e,g1,_,rfl,qV4 r,rfl⟩,qa0 (a:=(qx0 u t I n wr e f g a b (kL G) (.l false [rA a n wr e J (stD o),rA a n wr e g1 (stD r)]) (.l false [.l true (stD o),.l true (stD r)]) k .u)) (by show Ap (.pl 9 [1] v::_) (_::_) _=_;rw[qk7 rfl];rfl) q⟩
 refine qh2 false (λ Q q=>qI2 false false (λ Q q=>qJ5 (deeds _ _ (qa0 (a:=D.bl false) (ne_st o) (qa0 (a:=false) rfl q)))) (λ _ Q q=>qJ5 (deeds1 _ _ (qa0 (a:=D.bl false) (ne_st r) (qa0 (a:=false) rfl q)))) q) nofun λ _=>?_
 have undo:∀ b,O3 O b->qj3 (qq6 a.C4 a.C3) [] (tbB (pfIx (λ _=>some (9,[])) (kC (.int 0))) (tbV (B7 (Ba (fx1 Fa) (A6 (f2 gIx (rdN 10) (kC (.int 0))) λ _=>some []))) Ax)) [.hole u,b,.bl t,.bl I,Op n wr e,kL f,kL G,rL n g,Aa true a.C3 n wr e,.l false [rA a n wr e J (stD o),rA a n wr e g1 (stD r)],.l false [.l true (stD o),.l true (stD r)],k,.u] lawE.rt lawE.xe:=λ b B=>by
   refine qh3 (qa0 (a:=(9,[0])) rfl (qa0 (a:=rA a n wr e J (stD o)) rfl ⟨rfl,λ v=>?_⟩));refine qe8 (y:=.int (o.length:Nat)) (by show some (D.int ((stD o).length:Nat))=_;rw[qK9]) (qb9 ?_);refine⟨n,wr,e,J,o,T0,rfl,n1,n2,W0,l0,K0,λ gn=>qa0 (a:=(qx0 u t I n wr e f g a b (kL G) (.l false [rA a n wr e gn [],rA a n wr e g1 (stD r)]) (.l false [.l true (stD o),.l true (stD r)]) k .u)) ?_ rfl⟩;show Ap (.pl 9 [0] v::_) (_::_) _=_;rw[qk7 rfl];rfl
 refine qk0 (qaT4 (qaG0 ?_));cases I with
 | false=>exact qz9 (d:=.bl false) rfl rfl (qa0 (a:=false) rfl (Dk (by decide) (qa0 (a:=false) rfl (Dk (by decide) (undo b B)))))
 | true=>exact qz9 (d:=.bl true) rfl rfl (qa0 (a:=true) rfl (B8 rfl (qA7 (qc4 rfl B rfl (by decide) (by decide) λ v b' v0 v1 B'=>qa0 (a:=D.bl (decide (v=0))) rfl (qa0 (a:=decide (v=0)) rfl (ite_b (λ _=>rfl) λ _=>undo b' B'))))))
end
theorem dfX{K:No}{mg:Str->Option V'}{x qual:Str}{st:Kk}{f:γ}{ps:List Str}{oc:V'}{n g:Option γ}{m:Array (Option V')}{kV e i d j:V'}{h:Heap}(X:K.In h)(G:h.Ns Jy mg)(a:W.nsIn K Jy x=some (some (.ref f)))(l:K.lookup f=some ⟨oc,n,.func (W.fnOf x qual (qe9 st) (qd0 st) (qa3 st) .none kV e i g d j),m⟩)(c:W.codeIn K d qual=true)(k:W.keepIn K (.ref f)=true)(b:∀(kV e i:V')(g:Option γ)(d j:V')(us:List V'),us.length=ps.length->bindArgs (W.fnOf x qual (qe9 st) (qd0 st) (qa3 st) .none kV e i g d j) ⟨us,[]⟩=pure (ps.zip us)) :
 Df K mg x qual st f (W.fnOf x qual (qe9 st) (qd0 st) (qa3 st) .none kV e i g d j) ps:=dfmk l c k (W.mg_of X G a) b
theorem qaZ8{l:W.OpenLaw}{w:Ki}{K:No}{mg:Str->Option V'}{fa f0 f1 f2 f3 f4 f5 f6 f7 f8 f9 d f g h i j n o p q r t u x c y z A B C D E F G H I J L M N O P Q R S T e3 C0 C1:γ}{d0 d1 d2 d3 d4 d5 d6 d7 d8 d9 U V X Y Z a0 a1 a2 a3 a4 a5 a6 a7 a8 a9 b0 b1 b2 b3 b4 b5 b6 b7 b8 b9 c0 c1 c2 c3 c4 c5 c6 c7 c8 c9 e0 b:ε}{Ce Ch Cg:Tok}(e4:mg "law" = some (.ref fa))(j0:Df K mg "_wall" "_wall" qau0 f0 d0 ["k"])(j1:Df K mg "is_whole" "is_whole" qx9 f1 d1 ["thing"])(j2:Df K mg "is_whole_within" "is_whole_within" qf8 f2 d2 ["thing", "least", "most"])(j3:Df K mg "is_number" "is_number" qt1 f3 d3 ["thing"])(j4:Df K mg "are_parted" "are_parted" qp0 f4 d4 ["numbers"])(j5:Df K mg "is_number_pair" "is_number_pair" qg8 f5 d5 ["thing"])(j6:Df K mg "is_home_list" "is_home_list" qj5 f6 d6 ["thing"])(j7:Md K C0 "__init__" "Plan.__init__" qt5 f7 d7 ["self", "rooms", "wraps", "homes"])(j8:Md K C0 "is_room" "Plan.is_room" qj7 f8 d8 ["self", "thing"])(j9:Md K C0 "home" "Plan.home" qt6 f9 d9 ["self", "key"])(e5:Md K C0 "far" "Plan.far" qy6 d U ["self", "key", "room"])(e6:Md K C0 "goes_ahead" "Plan.goes_ahead" qf9 f V ["self", "room", "one", "other"])(e7:Df K mg "room_ahead" "room_ahead" qo9 g X ["plan", "room"])(e8:Df K mg "word_by_room_ahead" "word_by_room_ahead" qe2 h Y ["plan", "rooms", "room"])(e9:Df K mg "word_due" "word_due" qx8 i Z ["plan", "rooms", "room"])(g0:Df K mg "is_turned" "is_turned" qt0 j a0 ["plan", "rooms"])(g9:Df K mg "fault_of" "fault_of" qy0 n a1 ["plan", "rooms"])(h0:Df K mg "are_crowd" "are_crowd" qt3 o a2 ["plan", "keys", "room"])(h1:Df K mg "crowded_room" "crowded_room" qj6 p a3 ["plan", "keys"])(h2:Df K mg "refuse_crowd" "refuse_crowd" qj4 q a4 ["plan", "keys"])(h3:Df K mg "bring_in" "bring_in" qy1 r a5 ["plan", "rooms", "key"])(h4:Df K mg "room_behind" "room_behind" ql5 t a6 ["plan", "room"])(h5:Df K mg "is_drawn_from" "is_drawn_from" qi1 u a7 ["plan", "rooms", "room"])(h6:Df K mg "draw_back" "draw_back" qt2 x a8 ["plan", "rooms", "room"])(h7:MdN K C1 "__init__" "Row.__init__" qy5 c a9 ["self", "plan", "rooms"])(h8:Md K C1 "rooms_held" "Row.rooms_held" qg9 y b0 ["self"])(h9:Md K C1 "keys_held" "Row.keys_held" qi2 z b1 ["self"])(i0:Md K C1 "many" "Row.many" qy4 A b2 ["self"])(i1:Md K C1 "room_of" "Row.room_of" ql6 B b3 ["self", "key"])(i2:Md K C1 "put" "Row.put" qF4 C b4 ["self", "key"])(i3:Md K C1 "take" "Row.take" qy3 D b5 ["self", "key"])(i4:Md K C1 "undo" "Row.undo" qy2 E b6 ["self"])(i5:Md K C1 "deeds" "Row.deeds" qt4 F b7 ["self"])(i6:Df K mg "_law_whole" "_law_whole" qP6 G b8 ["_law_found"])(i7:Df K mg "_law_bag" "_law_bag" qaz9 H b9 ["_law_script"])(i8:Df K mg "_law_take" "_law_take" qad3 I c0 ["_law_bag_here", "_law_many"])(i9:Df K mg "_law_home" "_law_home" qad4 J c1 ["_law_plan", "_law_key"])(k0:Df K mg "_law_passing" "_law_passing" qy7 L c2 ["_law_plan", "_law_keys"])(k1:Df K mg "_law_housed" "_law_housed" qF5 M c3 ["_law_plan", "_law_keys"])(k2:Df K mg "_law_drawn_homes" "_law_drawn_homes" qj8 N c4 ["_law_bag_here", "_law_size", "_law_many"])(k3:Df K mg "_law_drawn" "_law_drawn" qP9 O c5 ["_law_bag_here", "_law_most"])(k4:Df K mg "_law_fitting" "_law_fitting" qy8 P c6 ["_law_plan", "_law_keys"])(k5:Df K mg "_law_steps" "_law_steps" qP8 Q c7 ["_law_bag_here", "_law_plan", "_law_keys", "_law_goal"])(k6:Df K mg "_law_done" "_law_done" qad5 R c8 ["_law_row", "_law_steps_here", "_law_plan", "_law_asked"])(k7:Df K mg "_law_tells" "_law_tells" qP7 S c9 ["_law_row", "_law_rooms", "_law_keys"])(k8:Df K mg "_law_all_undone" "_law_all_undone" ql7 T e0 ["_law_row", "_law_many"])(e1:Df K mg "law" "law" Ga e3 b ["_law_script"])(k9:mg "MOST_NUMBER" = some (.int 1000000000000000000 Ce))(l0:mg "MOST_ROOMS" = some (.int 64 Ch))(l1:mg "MOST_HOMES" = some (.int 64 Cg))(l2:mg "abs" = none)(l3:mg "all" = none)(l4:mg "bool" = none)(l5:mg "dict" = none)(l6:mg "enumerate" = none)(l7:mg "int" = none)(l8:mg "isinstance" = none)(l9:mg "len" = none)(m0:mg "list" = none)(m1:mg "max" = none)(m2:mg "min" = none)(m3:mg "range" = none)(m4:mg "set" = none)(m5:mg "sorted" = none)(m6:mg "tuple" = none)(m7:Cl K mg "Plan" C0)(m8:Mk K C0 f7)(m9:qg1 K C0 "rooms")(n0:qg1 K C0 "wraps")(n1:qg1 K C0 "homes")(n2:qg1 K C0 "home_numbers")(n3:IsO K C0)(n4:Cl K mg "Row" C1)(n5:Mk K C1 c)(n6:qg1 K C1 "plan")(n7:qg1 K C1 "held")(n8:qg1 K C1 "done")(hb:∀(s:δ)(v:V'),BindsTo s b ⟨[v],[]⟩ [("_law_script",v)]):∃ fd:ε,(∀(s:δ)(v:V'),BindsTo s fd ⟨[v],[]⟩ [("_law_script",v)])/\∀ base:Heap,K.In base->base.Ns Jy mg->Dw l.prog w K mg base (CX1 l.prog w) 12 fa fd ["_law_script"] (Gy K):=by
 have e:=e4.symm.trans e1.m;injection e with e
 injection e with e
 subst e;exact⟨b,hb,λ base _ _=>qaU5 (a:=⟨f0,d0,f1,d1,f2,d2,f3,d3,f4,d4,f5,d5,f6,d6,f7,d7,f8,d8,f9,d9,d,U,f,V,g,X,h,Y,i,Z,j,a0,n,a1,o,a2,p,a3,q,a4,r,a5,t,a6,u,a7,x,a8,c,a9,y,b0,z,b1,A,b2,B,b3,C,b4,D,b5,E,b6,F,b7,G,b8,H,b9,I,c0,J,c1,L,c2,M,c3,N,c4,O,c5,P,c6,Q,c7,R,c8,S,c9,T,e0,fa,b,Ce,Ch,Cg,C0,C1⟩) ⟨j0,j1,j2,j3,j4,j5,j6,j7,j8,j9,e5,e6,e7,e8,e9,g0,g9,h0,h1,h2,h3,h4,h5,h6,h7,h8,h9,i0,i1,i2,i3,i4,i5,i6,i7,i8,i9,k0,k1,k2,k3,k4,k5,k6,k7,k8,e1,k9,l0,l1,l2,l3,l4,l5,l6,l7,l8,l9,m0,m1,m2,m3,m4,m5,m6,m7,m8,m9,n0,n1,n2,n3,n4,n5,n6,n7,n8⟩⟩
theorem walk{l:W.OpenLaw}{q:Ke}{loose:List Str}{XP:(Str->Option V')->Heap->Prop}{YP:Ki->Heap->Prop}{d:DefRec}{K:Params->No}(c:l.most=some 63)(b:d.params.defaults=[])(e:∀(w:Ki)(h:Heap),YP w h->(K w.params).In h)(F:∀(w:Ki)(mg:Str->Option V')(fa:γ)(h:Heap),(K w.params).In h->h.Ns Jy mg->mg d.name=some (.ref fa) ->
 ∃ fd:ε,(∀(s:δ)(u:V'),BindsTo s fd ⟨[u],[]⟩ [("_law_script",u)])/\∀ base:Heap,(K w.params).In base->base.Ns Jy mg->Dw l.prog w (K w.params) mg base (CX1 l.prog w) 12 fa fd ["_law_script"] (Gy (K w.params))) :
 W.WalkO q loose XP YP l.row.toRowW d [] (λ f vs=>PySem.call f vs) :=
 L2.qaG3 (n:=63) (k:=12) (x := "_law_script") (CX:=λ w=>CX1 l.prog w) (sp:=λ w=>Gy (K w.params)) c (by decide) b ⟨λ _=>rfl,by decide,by decide⟩ e F (λ _ _ a g i _ j=>⟨a,g,rfl,j,i,λ _=>rfl⟩) λ _ _ _ _ _ ⟨_,_,_,_,_,_,_,_,z⟩=>z
end LV.My
open PySem PySem.W PyProof.Rows L2
local macro_rules | `(tactic| walk_at "u")=>`(tactic| (intro _ _ _ _ _ _;repeat' first | exact LV.ec0 (rfl) | refine LV.ec1 λ _=>?_))
local macro_rules | `(tactic| walk_at "d")=>`(tactic| (refine' LV.My.dfX (by assumption) (by assumption) ?a ?l ?c ?k ?b;(case a | l | c | k=>k_is);(case b=>walk_at "u")))
local macro_rules | `(tactic| walk_at "e")=>`(tactic| (refine' mdmk ?l ?c ?k ?a ?i ?b;(case a | i | l | c | k=>k_is);(case b=>walk_at "u")))
local macro_rules | `(tactic| walk_at "c")=>`(tactic| (refine' mg_of (by assumption) (by assumption) ?a;k_is))
local macro_rules | `(tactic| walk_at "z")=>`(tactic| (refine' mg_none_of (by assumption) (by assumption) ?a;k_is))
local macro_rules | `(tactic| walk_at "q")=>`(tactic| (first | k_is | kernel_rfl | rfl))
local macro_rules | `(tactic| walk_at "n")=>`(tactic| (show findIn _ _ _=some none;k_is))
theorem PySem.Challenge.cw_homeward_k34_whole_any_order_holds : PySem.Challenge.rw_homeward_k34_whole_any_order.Holds := by
 w_on;o_law;k_head;(case hw=>w_witness2)
 k_fill
 refine LV.My.walk (l:=PySem.Challenge.rw_homeward_k34_whole_any_order) rfl rfl (λ w h Y=>PySem.W.kIn_of Y) ?F
 case F =>
 intro w g j h KX G f;refine' LV.My.qaZ8 f ?j0 ?j1 ?j2 ?j3 ?j4 ?j5 ?j6 ?j7 ?j8 ?j9 ?j10 ?j11 ?j12 ?j13 ?j14 ?j15 ?j16 ?j17 ?j18 ?j19 ?j20 ?j21 ?j22 ?j23 ?j24 ?j25 ?j26 ?j27 ?j28 ?j29 ?j30 ?j31 ?j32 ?j33 ?j34 ?j35 ?j36 ?j37 ?j38 ?j39 ?j40 ?j41 ?j42 ?j43 ?j44 ?j45 ?j46 ?j47 ?j48 ?j49 ?j50 ?j51 ?j52 ?j53 ?j54 ?j55 ?j56 ?j57 ?j58 ?j59 ?j60 ?j61 ?j62 ?j63 ?j64 ?j65 ?j66 ?j67 ?j68 ?j69 ?j70 ?j71 ?j72 ?j73 ?j74 ?j75 ?j76 ?hb
 case j47|j48|j49=>walk_at "c"
 case j65|j72=>refine' ⟨⟨?_,?_,?_,?_⟩,mg_of (by assumption) (by assumption) ?a⟩;(case a=>k_is);k_is;k_is;k_is;k_is
 case j0|j1|j2|j3|j4|j5|j6|j12|j13|j14|j15|j16|j17|j18|j19|j20|j21|j22|j23|j33|j34|j35|j36|j37|j38|j39|j40|j41|j42|j43|j44|j45|j46=>walk_at "d"
 case j7|j8|j9|j10|j11|j25|j26|j27|j28|j29|j30|j31|j32=>walk_at "e"
 case j24=>refine' LV.mdmkN ?l ?c ?k ?a ?i ?t ?b ?bn;(case a | i | l | c | k | t=>k_is);(case b=>intro _ _ _ _ _ _;repeat' first | exact LV.ec0 (⟨_,rfl,rfl⟩) | refine LV.ec1 λ _=>?_);(case bn=>intro _ _ _ _ _ _;refine LV.ec2 ?_;repeat' first | exact LV.ec0 (⟨_,rfl,rfl⟩) | refine LV.ec1 λ _=>?_)
 case j50|j51|j52|j53|j54|j55|j56|j57|j58|j59|j60|j61|j62|j63|j64=>walk_at "z"
 case j67|j68|j69|j70|j74|j75|j76=>walk_at "n"
 case j71=>refine⟨?_,?_,?_,?_,kf_of ?_ ?_ ?_ ?_ ?_ ?_ ?_⟩<;>walk_at "q"
 case j66|j73=>refine⟨?_,?_,?_,?_⟩<;>k_is
 case hb=>exact λ s v=>.of_eq rfl
#print axioms PySem.Challenge.cw_homeward_k34_whole_any_order_holds
