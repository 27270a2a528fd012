import PyProof.Rows.All
import Wide.All
import OpenK.AllK
import Wide.FinOn
import Lean
import PyProof.EqAt
import PyProof.EqKinds
import PyProof.TupleCall
import PyProof.CompFree
import KE.KIsAll
import PyProof.AttrMiss
import PyProof.IsiH_list
import KE.KDictOf
import PyProof.ConsumeWalk
import PyProof.Rows.SetFrom
import PyProof.NeKinds
import PyProof.AutoListH
import PyProof.EnumMake
import PyProof.EnumFor
import PyProof.EnumStmt
import PyProof.LayNew
import PyProof.Rows.EnumRows
import KE.KDictList
import KE.KItemsList
import PyProof.ZipIter
import PyProof.Rows.ZipGen
import KE.KRevIter
import PySem.Challenge.RW_homeward_k54_whole_no_lesser_farthest
set_option linter.all false
set_option Elab.async false
def zA0:=@List.count_append
def zA1:=@Option.bind_eq_some_iff
def zA2:=@PySem.Heap.get?_push_of_some
def zA3:=@List.mem_cons_of_mem
def zA4:=@Nat.le_refl
def zA5:=@List.getElem?_eq_some_iff
def zA6:=@List.size_toArray
def zA7:=@List.mem_cons_self
def zA8:=@List.length_map
def zA9:=@List.mem_range
def zAa:=@Option.map_eq_some_iff
def zAb:=@decide_eq_true
def zAc:=@of_decide_eq_true
def zAd:=@PySem.Heap.lt_size
def zAe:=@List.append_nil
def zAf:=@List.length_cons
def zAg:=@List.mem_singleton
def zAh:=@List.mem_cons
def zAi:=@Nat.zero_add
def zAj:=@List.mem_append
def zAk:=@List.length_append
def zAl:=@decide_eq_false
def zAm:=@Nat.le_trans
def zAn:=@Bool.and_eq_true_iff
def zAo:=@List.map_cons
def zAp:=@Nat.lt_of_lt_of_le
def zAq:=@Nat.ne_of_lt
def zAr:=@List.take_of_length_le
def zAs:=@PySem.Heap.get?_push_size
def zAt:=@List.mem_map
def zAu:=@List.count_cons
def zAv:=@List.length_range
def zAw:=@List.append_assoc
def zAx:=@Bool.false_ne_true
def zAy:=@List.getElem?_map
def zAz:=@List.filterMap_cons
def zB0:=@List.nil_append
def zB1:=@List.lookup_cons
def zB2:=@List.getElem?_append_left
def zB3:=@List.getElem?_eq_getElem
def zB4:=@List.mem_of_getElem?
def zB5:=@List.mem_filter
def zB6:=@List.forall_mem_cons
def zB7:=@List.mem_append_right
def zB8:=@of_decide_eq_false
def zB9:=@beq_self_eq_true
def zBa:=@Array.toList_append
def zBb:=@Array.length_toList
def zBc:=@Option.isSome_iff_exists
def zBd:=@List.cons_merge_cons
def zBe:=@List.map_append
def zBf:=@Nat.le_of_lt
def zBg:=@List.take_append_drop
def zBh:=@List.length_take
def zBi:=@Nat.zero_le
def zBj:=@Nat.lt_irrefl
def zBk:=@List.take_add_one
def zBl:=@List.getElem?_set_ne
def zBm:=@Bool.and_eq_true
def zBn:=@List.not_mem_nil
def zBo:=@List.countP_cons
def zBp:=@Array.perm_iff_toList_perm
def zBq:=@List.forall_mem_append
def zBr:=@List.replicate_succ
def zBs:=@beq_eq_false_iff_ne
def zBt:=@List.nodup_append
def zBu:=@Nat.lt_of_succ_lt
def zBv:=@List.length_nil
def zBw:=@List.nodup_cons
def zBx:=@beq_iff_eq
def zBy:=@Int.emod_lt_of_pos
def zBz:=@List.length_drop
def zC0:=@List.cons_append
def zC1:=@List.take_length
def zC2:=@decide_eq_true_eq
def zC3:=@Nat.le_of_lt_succ
def zC4:=@Int.emod_nonneg
def zC5:=@Nat.not_lt_zero
def zC6:=@List.find?_cons
def zC7:=@PySem.Heap.get?_update_other
def zC8:=@List.getD_eq_getElem?_getD
def zC9:=@List.all_eq_true
def zCa:=@List.mem_filterMap
def zCb:=@List.getElem?_eq_none
def zCc:=@List.sum_cons
def zCd:=@Nat.lt_of_le_of_lt
def zCe:=@List.drop_eq_getElem_cons
def zCf:=@List.pairwise_map
def zCg:=@List.flatten_cons
def zCh:=@Nat.sub_le
def zCi:=@List.range_succ
def zCj:=@List.map_map
def zCk:=@List.length_pos_iff
def zCl:=@List.filter_cons_of_pos
def zCm:=@List.filter_cons_of_neg
def zCn:=@Nat.succ_le_succ
def zCo:=@Nat.lt_succ_self
def zCp:=@PySem.Heap.size_push
def zCq:=@Nat.lt_or_eq_of_le
def zCr:=@List.findIdx?_cons
def zCs:=@List.filterMap_map
def zCt:=@Nat.min_eq_left
def zCu:=@List.any_cons
set_option genSizeOf false
set_option genInjectivity false
set_option maxRecDepth 100000
noncomputable section
structure PySem.W.Fast where
 (tw17856930796617287606 tw5997969501052171801 tw15302316532081358961 tw856390950486655253 tw8280103318203629239 tw12883065721794769839 tw2001533849799997015 tw2802951408318786672 tw16200002792726846407 tw7843875853922974325 tw16097740755855629543 tw17352113906114660672 tw9503342043824737802 tw5227765205146511857 tw10107952609066884809 tw17830555519585573112 tw17585357664494299431 tw1000218469391832924 tw9183897148885085335 tw13026665437317198926 tw1461447446355709991 tw7379267047766719929 tw1677856164828874388 tw9640002103948166009 tw1256772428897889129 tw18323674583724408587 tw4495214805101254964 tw17639346536315204005 tw3078474670978004107 tw788187577481577927 tw2330470681822593361 tw13035562517743123343 tw1864112364095951505 tw15173770507540555016 tw10348072082438402520 tw1909678683665271680 tw10203660845208613769 tw12031583886604419139 tw3592039970152777984 tw16639588780442015467
 tw11487469272334081171 tw1588518811100474075 tw16116066987012825033 tw12823216409060889587 tw4500847205648528330 tw7859746482692917719 tw14719749381199667598 tw3943833200098051964 tw285348952204990434 tw17737000660907216266 tw16802810562756073609 tw14871357324951094920 tw345328518475146625 tw12261591548328045254 tw4640620520328983033 tw18381206938625881047 tw12481598661992002786 tw16698075067615052564 tw16760792395615339193 tw12526652777586912172 tw10588682601029743572 tw9795012252216556966 tw5882713615660835866 tw12133833987595198833 tw15569436708658371539 tw1402782514692677897 tw13435524783786828085 tw144890523108003200 tw6962193122429982024 tw13365014254039754714 tw11936249275976849880 tw6182481168188072515 tw2460685899480330188 tw9825274434815268573 tw14687924740596135557 tw8696259208215070312 tw11487938304539292286 tw8012591660744851882 tw1549479216799482029 tw13162782486785628564
 tw9387716835416821366 tw17896979228882560607 tw3426313050894319945 tw12442391296933700997 tw11080377959818799735 tw15976847790979967815 tw5353891852078228968 tw3359863058407544448 tw10651707926177929913 tw6274577879287410555 tw12001552427551253817 tw6472139806835153907 tw12853889555424681441 tw12050959335663259283 tw3312539429044258737 tw13863073426520798745 tw3773239661043429152 tw17586407247787864271 tw14301266783381674938 tw2588665533318545157 tw9554235440217489045 tw2032328112147788333 tw13811475157613912272 tw6173185717764056851 tw9877791215265563858 tw9069234104456927093 tw1719917082944364725 tw9021953497181145096 tw8104247379717389347 tw852603457753872978 tw2457535146548981670 tw11148449569677959767 tw4462540575149562716 tw792479205279287435 tw3649157943540928770 tw6743805156297189633 tw720895303277829303 tw15885576480294504847 tw16568131065830155029 tw7917993142225406613
 tw10570557137374187540 tw15126363139448941285 tw10123016639520292167 tw9828782642177213614 tw3849601605794031233 tw3181559429516929558 tw7545622109846877739 tw8377085753119152979 tw7256503152036666627 tw3304292860099453441 tw11088460456001526350 tw14479937913855939956 tw17839746664367687008 tw9669678284591457014 tw1262137350564567113 tw13084792372625742264 tw885971601751366974 tw13648947972186521410 tw7674259488823407256 tw3246380727310559256 tw7832399019813214584 tw8698240671069926166 tw8978047371642328342 tw3071130551789214524 tw4680361019517903820 tw9898899554431811590 tw15414270438767239869 tw6819531672876768706 tw333033572681790632 tw18400163519412236264 tw14279867574462565426 tw11448204621381818786 tw1124805875741508966 tw14909379094857106129 tw13608824595207147556 tw12869115629474465492 tw9957373365407080558 tw14118705586285556183 tw1446161822034495377 tw4177443614919684936
 tw11682406709070772973 tw17034545362248796272 tw8662438099332020283 tw7015308119597467293 tw9244714858974496922 tw861019911803211681 tw17831763112803938283 tw15757644001138129201 tw607633929471916400 tw15912914727803385011 tw7469919355989705861 tw6095756635856348110 tw13303080875501060883 tw860328195601108530 tw6500734315158118830 tw16364668191117569358 tw7972180157202046782 tw2544350587869261878 tw11748819996600431321 tw5984552079550192979 tw9752548586326584612 tw18414462784710201217 tw15242249344030550669 tw16093077209785363597 tw7171683343823020088 tw5987156662779664283 tw14035551109786031316 tw317692001634085159 tw18225406009250885577 tw1654587044569708743 tw11284853602293433809 tw15980096715704580366 tw6277977501438291856 tw15169945949020981342 tw10989881681562893177 tw18347757408645124088 tw3734739330473015250 tw13227150344891992591 tw4242603771800946852 tw7076068487574556494
 tw17244215440215403769 tw3870489640875225815 tw3077766139946044618 tw18322649585462304285 tw5557685211172823317 tw17283250141145340288 tw3519747024031253477 tw10668864076855887753 tw17698796542355194054 tw2588407618373370000 tw13998145955899101747 tw8140650097752582171 tw4413155260358616609 tw17942716971567403809 tw11233288907945497801 tw14740651820006795981 tw13449864710116946165 tw4345342053935292750 tw3999964751947155872 tw11710796021862543584 tw5016552087656909264 tw2968768616848760265 tw4893497882863614995 tw18136729650701249909 tw10549541756270763572 tw16138176583586095693 tw8694932931246292626 tw9668094039270225152 tw7847915613253354232 tw12970442077145876349 tw11991219105821397377 tw3692845436707918030 tw7780622462662186945 tw7697641243120318807 tw7193223309156181284 tw6073500039110751674 tw3311719127128381481 tw17079754107316117876 tw11263649533238643839 tw11136813866782606126
 tw2527522476145300138 tw6179867564045798466 tw15595182816811238655 tw1099403833560935744:Nat)
abbrev N'(x:PySem.Str):Prop:=(x == ("__debug__" : PySem.Str))=false
abbrev γ:=PySem.Addr
abbrev V':=PySem.Value
abbrev Sh:=PySem.Shared
abbrev δ:=PySem.FuncData
open PySem renaming wpAny_bind→G',wpAny_pure→Jr,starEach→Js,sizeLine→Jt,compareOp→Ju,foldedSetIterable→Jv,wpAny_holding→Jw,bootBuiltins→Jx,wpAny_truthy_bool→Jy,attributeBase→Jz,sizeLine_eq→J0,mainGlobals→J1,sysModules→J2,keywordEach→J',wpAny_mono→Ka,wpAny_rule→Kb,wpAny_passesOwn→Kc,call_meets→Kd,assignEach→Ke,binaryOp→Kf,wpAny→Kg,model→Kh,Program→Ki,Around→Kj,World→Kk,Expr→Kl,Stmt→Km
open PyProof.Rows renaming wpS_bind→Kn,wpS_pure→Ko,pendingOf→Kq,failedOf→Kr,wpS_modify→Ks,arrOf→Kt,Keyed→Ku,SortSt→Kv,kindOf→Kw,setArr→Kx,setPending→Ky
open _root_.List renaming range→Kz,replicate→K3,merge→K4,drop_of_length_le→K5,take_sublist→K6,nodup_range→K7,lookup→K8,length→K9,length_filterMap_le→La,count_nil→Lb,reverse_cons→Lc,all_cons→Ld,getElem_mem→Lf,drop_length→Lg,length_filter_le→Lh,foldl→Li,foldl_cons→Lj,getElem_of_mem→Ll,drop_zero→Lm,getD→Ln,filterMap_nil→Lp,zip_cons_cons→Lq,map_filterMap→Lr,pairwise_iff_getElem→Ls,set_set→Lu,of_mem_zip→Lv,length_set→Lw,length_singleton→Lx,filterMap_append→Ly,nodup_nil→Lz,set_append_right→L5,drop_drop→L6,mem_append_left→L7,set_append_left→L8,mem_of_mem_take→L9,map_take→Ma,map_congr_left→Mb,mergeSort_perm→Mc,map_nil→Me,filter_append→Mf,getElem_range→Mg,getElem_take→Mh,getElem_drop→Mi,foldl_append→Mj,flatMap_cons→Ml,getElem_inj→Mm,any_eq_true→Mn,merge_right→Mo,nil_merge→Mp,take_take→Mq,take_zero→Mr,mapM_cons→Ms,filterMap→Mt,take_add→Mu,sum→Mv,any_map→Mw,all_map→Mx,map→Mz
open PySem.Value renaming ref→M0,int→M3,none→M4,bool→M5,str→M6,float→M7,isStrOf→M8,isInt→M9,bytes→M',type→Na
open And renaming imp_right→Nb
open Option.some renaming inj→Nc
open PySem.PassesOwn renaming leaving→Nd
open PySem.W renaming Frag→Nf,kitOne→Ng
open PySem.F renaming plain_max_loop→Nh,plainAttrs_list→Ni,slot_list_append→Nj,type_list_append→Nk,entry_max_loop→Nl,slot_dict_get→Nm,slot_list_insert→Nn,args_dict_get_3→No,slot_list_index→Np,entry_dict_get→Nq,slot_int_rmul→Nr,plain_max→Nt,entry_max→Nu,kind_max→Nv
open PySem.NameKind renaming free→Nw,cell→Nx
open False renaming elim→Ny
open Or renaming inr→Nz,inl→N0,imp→N1
namespace L2
open PySem PySem.Spec PyProof.Rows
variable{M:Model}{N:List Str}{base:Heap}{body:List Km}{ch fp:List γ}{i n t':Nat}{kw:List (Str×V')}{mg:Str->Option V'}{op:CmpOp}{pl:Sem Bool}{us:List V'}
abbrev Key:=Sum Int Str
noncomputable def Fd:Key->V'->Bool
 | .inl k,v=>M9 k v
 | .inr x,v=>M8 x v
noncomputable def keyH(w:Kk):Key->Int
 | .inl k=>hashInt k
 | .inr x=>hashStr w x
theorem qc8:∀{k:Key}{v:V'},Fd k v=true->(∃ i t,k=Sum.inl i/\v=M3 i t)∨(∃ x t,k=Sum.inr x/\v=M6 x t)
 | .inl i,v,h=>by
   obtain⟨t,e⟩:=Value.isInt_shape (k:=i) (v:=v) h;exact .inl ⟨i,t,rfl,e⟩
 | .inr x,v,h=>by
   obtain⟨t,e⟩:=Value.isStrOf_shape (x:=x) (v:=v) h;exact .inr ⟨x,t,rfl,e⟩
theorem qam3(i:Int)(t:Tok):Fd (.inl i) (.int i t)=true:=by simp[Fd,M9]
theorem qam2(x:Str)(t:Tok):Fd (.inr x) (.str x t)=true:=by simp[Fd,M8]
theorem qaV0(a b:Int):decide ((Sum.inl a:Key)=Sum.inl b)=(a == b):=by
 by_cases e:a=b
 . subst e;simp
 have h:¬ (Sum.inl a:Key)=Sum.inl b:=λ q=>e (Sum.inl.inj q)
 rw[zAl h];exact(zBs.mpr e).symm
theorem qaU7(a b:Str):decide ((Sum.inr a:Key)=Sum.inr b)=decide (a=b):=by
 by_cases e:a=b
 . subst e;simp
 have h:¬ (Sum.inr a:Key)=Sum.inr b:=λ q=>e (Sum.inr.inj q)
 rw[zAl h,zAl e]
theorem qaU9(a:Int)(b:Str):decide ((Sum.inl a:Key)=Sum.inr b)=false:=zAl (λ q=>nomatch q)
theorem qaU8(a:Str)(b:Int):decide ((Sum.inr a:Key)=Sum.inl b)=false:=zAl (λ q=>nomatch q)
def qf5(prog:Ki)(w:Kk):PySem.KeyKind prog w Key where
 is:=Fd
 hash:=keyH w
 inj:=λ v a b g f=>by
   rcases qc8 g with⟨i,t,rfl,rfl⟩ | ⟨x,t,rfl,rfl⟩
   . rcases qc8 f with⟨j,u,rfl,e⟩ | ⟨y,u,rfl,e⟩
     . injection e with c _;rw[c]
     exact nomatch e
   rcases qc8 f with⟨j,u,rfl,e⟩ | ⟨y,u,rfl,e⟩
   . exact nomatch e
   injection e with c _;rw[c]
 byValue:=λ k v h=>by
   rcases qc8 h with⟨i,t,rfl,rfl⟩ | ⟨x,t,rfl,rfl⟩<;>rfl
 pyHash:=λ d h=>by
   rcases qc8 d with⟨i,t,rfl,rfl⟩ | ⟨x,t,rfl,rfl⟩
   . exact wpAny_pyHash_int h
   exact wpAny_pyHash_str h
 eqBool:=λ l d h=>by
   rcases qc8 l with⟨i,t,rfl,rfl⟩ | ⟨x,t,rfl,rfl⟩
   . rcases qc8 d with⟨j,u,rfl,rfl⟩ | ⟨y,u,rfl,rfl⟩
     . rw[qaV0] at h;exact wpAny_eqBool_int h
     rw[qaU9] at h;exact SeqAt.EqAt.int_str i t y u _ _ _ _ h
   rcases qc8 d with⟨j,u,rfl,rfl⟩ | ⟨y,u,rfl,rfl⟩
   . rw[qaU8] at h;exact SeqAt.EqAt.str_int x t j u _ _ _ _ h
   rw[qaU7] at h;exact wpAny_eqBool_str h
 «strs»:=λ k x t v h=>by
   rcases qc8 h with⟨i,u,rfl,e⟩ | ⟨y,u,rfl,e⟩
   . exact nomatch e
   injection e with c _
   subst c;cases v<;>rfl
theorem qV4(prog:Ki)(w:Kk)(i:Int)(t:Tok):(qf5 prog w).is (.inl i) (.int i t)=true:=qam3 i t
theorem qV3(prog:Ki)(w:Kk)(x:Str)(t:Tok):(qf5 prog w).is (.inr x) (.str x t)=true:=qam2 x t
inductive V where
 | non | bl (b:Bool) | int (i:Int) | str (x:Str) | byt (b:Array UInt8) | flt (b:UInt64) | ref (a:γ) | ty (n:String)
 deriving DecidableEq
def N7:V->V'->Prop
 | .non,u=>u=M4
 | .bl b,u=>u=M5 b
 | .int i,u=>∃ t,u=M3 i t
 | .str x,u=>∃ t,u=M6 x t
 | .byt b,u=>∃ t,u=M' b t
 | .flt b,u=>∃ t,u=M7 b t
 | .ref a,u=>u=M0 a
 | .ty n,u=>u=Na n
abbrev N8:List V->List V'->Prop:=Paired N7
theorem N8.length{xs:List V}(r:N8 xs us):xs.length=us.length:=Paired.length r
theorem N8.get:∀{xs:List V}{us:List V'}{i:Nat}{x:V},N8 xs us->xs[i]? = some x->∃ u,us[i]? = some u/\N7 x u
 | _,_,_,_,.nil,e=>by simp at e
 | _,_,0,_,.cons r _,e=>by simp at e;subst e;exact⟨_,rfl,r⟩
 | _,_,i+1,x,.cons _ t,e=>by
   obtain⟨u,a,b⟩:=N8.get (i:=i) (x:=x) t (by simpa using e);exact⟨u,by simpa using a,b⟩
theorem N8.set{x:V}{u:V'}(r:N7 x u):∀{xs:List V}{us:List V'}(i:Nat),N8 xs us->N8 (xs.set i x) (us.set i u)
 | _,_,_,.nil=>.nil
 | _,_,0,.cons _ t=>.cons r t
 | _,_,i+1,.cons q t=>.cons q (N8.set r i t)
theorem N8.append{xs ys:List V}{a:List V'}(h:N8 xs us)(s:N8 ys a):N8 (xs++ys) (us++a):=by
 induction h with
 | nil=>exact s
 | cons r t i=>exact .cons r i
theorem N8.take:∀{xs:List V}{us:List V'}(n:Nat),N8 xs us->N8 (xs.take n) (us.take n)
 | _,_,0,_=>.nil
 | _,_,_+1,.nil=>.nil
 | _,_,n+1,.cons r t=>.cons r (N8.take n t)
theorem N8.drop:∀{xs:List V}{us:List V'}(n:Nat),N8 xs us->N8 (xs.drop n) (us.drop n)
 | _,_,0,r=>r
 | _,_,_+1,.nil=>.nil
 | _,_,n+1,.cons _ t=>N8.drop n t
def RelO:Option V->Option V'->Prop
 | some v,some u=>N7 v u
 | none,none=>True
 | _,_=>False
def KV{a:Type}:List (a×V)->List (a×V')->Prop:=Paired λ(p:a×V)(q:a×V')=>p.1=q.1/\N7 p.2 q.2
noncomputable def kV:Key->V
 | .inl i=>.int i
 | .inr x=>.str x
inductive HO where
   | l (xs:List V)
   | q (xs:List V)
   | dK (kvs:List (Key×V)) | dT (kvs:List (List Key×V))
   | set (S:Int->Bool) (n:Nat)
   | ins (C dx:γ) (fs:List (Str×V))
   | own (x:γ)
   | xd (fs:List (Str×V))
   | met (f x:γ)
   | rng (lo hi:Int)
   | frz (o:Obj) (u:HO)
   | tbl (ps:Array V')
   | ext (φ:Heap->Prop)
noncomputable abbrev Hp:=γ->Option HO
noncomputable def upd(H:Hp)(a:γ)(o:HO):Hp:=λ b=>if b=a then some o else H b
theorem qb8{H:Hp}{a:γ}{o:HO}:upd H a o a=some o:=by unfold upd;rw[if_pos rfl]
theorem qc7{H:Hp}{a b:γ}{o:HO}(h:b≠a):upd H a o b=H b:=by unfold upd;rw[if_neg h]
theorem qaE8{H:Hp}{a:γ}{o u:HO}:upd (upd H a o) a u=upd H a u:=by
 funext b;unfold upd;split<;>rfl
theorem ne_of{H:Hp}{a b:γ}{o u:HO}(h:H a=some o)(h':H b=some u)(d:o≠u):a≠b:=by
 intro e;subst e;rw[h] at h';exact d (Nc h')
theorem qd4{H:Hp}{a b:γ}{o:HO}(h:H a=some o)(h':H b=none):a≠b:=by
 intro e;subst e;rw[h] at h';cases h'
section
variable(P:Ki)(w:Kk)
def ObjOk(H:Hp)(h:Heap)(a:γ):HO->Prop
 | .l xs=>xs.length<=Jt/\∃(its:List V')(n:Nat),N8 xs its/\h.get? a=some { cls:=.type "list",data:=.seq its.toArray n }
 | .q xs=>xs.length<=Jt/\∃ its:List V',N8 xs its/\IsTup h a its.toArray
 | .dK kvs=>kvs.length<=Jt/\(a == J2)=false/\∃ vs,KV kvs vs/\h.DictOf (qf5 P w) a vs
 | .dT kvs=>kvs.length<=Jt/\(a == J2)=false/\∃ xs:List (List Key×γ×V'),
     Paired (λ(p:List Key×V)(q:List Key×γ×V')=>p.1=q.1/\H q.2.1=some (.q (p.1.map kV))/\N7 p.2 q.2.2) kvs xs /\
     ∃ o es b,h.get? a=some o/\o.ExactDict/\o.data=.dict es b/\es.toList=xs.map (entryOfKey (tupleKind (qf5 P w)))/\(xs.map (·.1)).Nodup
 | .set S n=>h.SetOf (intKind P w) a S n
 | .ins C dx fs=>H dx=some (.own a)/\fs.length<=1000/\dx≠a/\h.get? a=some (W.instObj C dx) /\
     ∃ mA,h.Ns1 dx mA/\(∀ f,RelO (fs.lookup f) (mA f))/\PySem.Within mA (fs.map (·.1))
 | .own _=>∃ o,h.get? a=some o
 | .xd fs=>∃ mA,h.Ns1 a mA/\∀ f,RelO (fs.lookup f) (mA f)
 | .rng lo hi=>∃ t u v,h.get? a=some { cls:=.type "range",data:=.fields #[.int lo t,.int hi u,.int 1 v] }
 | .frz o u=>h.get? a=some o/\ObjOk H h a u
 | .tbl ps=>h.get? a=some { cls:=.none,data:=.fields ps }
 | .met f x=>h.get? a=some (W.methodObj (.ref f) (.ref x))
 | .ext φ=>φ h/\(∃ o,h.get? a=some o)/\∀ h1 h2:Heap,φ h1->(∀ o,h1.get? a=some o->h2.get? a=some o)->φ h2
def HOk(H:Hp)(h:Heap):Prop:=∀ a o,H a=some o->ObjOk P w H h a o
end
section
variable{P:Ki}{w:Kk}{H H':Hp}{h h':Heap}{a:γ}{o:HO}
theorem ObjOk.lt(x:ObjOk P w H h a o):a < h.objs.size:=by
 cases o with
 | l c=>obtain⟨_,_,_,_,e⟩:=x;exact zAd e
 | q c=>obtain⟨_,_,_,p⟩:=x;exact p.lt
 | dK b=>obtain⟨_,_,_,_,o,_,_,e,_⟩:=x;exact zAd e
 | dT b=>obtain⟨_,_,_,_,o,_,_,e,_⟩:=x;exact zAd e
 | set S n=>obtain⟨o,_,_,_,e,_⟩:=x;exact zAd e
 | ins C g d=>obtain⟨_,_,_,e,_⟩:=x;exact zAd e
 | own y=>obtain⟨_,e⟩:=x;exact zAd e
 | xd d=>obtain⟨_,⟨_,_,_,e,_⟩,_⟩:=x;exact zAd e
 | rng i j=>obtain⟨_,_,_,e⟩:=x;exact zAd e
 | frz k u=>obtain⟨e,_⟩:=x;exact zAd e
 | tbl l=>exact zAd (show h.get? a=some _ from x)
 | met f y=>exact zAd (show h.get? a=some _ from x)
 | ext φ=>obtain⟨_,⟨_,e⟩,_⟩:=x;exact zAd e
theorem Paired.mapP{α β:Type}{F G:α->β->Prop}{l:List α}{m:List β}(h:Paired F l m)(f:∀ a b,F a b->G a b):Paired G l m:=by
 induction h with
 | nil=>exact .nil
 | cons r t i=>exact .cons (f _ _ r) i
theorem ObjOk.stay(x:ObjOk P w H h a o)(k:∀ b u,(b=a∨H b=some (.own a))->h.get? b=some u->h'.get? b=some u)(E:∀ b,H b=some (.own a)->H' b=some (.own a))(F:∀ b xs,H b=some (.q xs)->H' b=some (.q xs)):ObjOk P w H' h' a o:=by
 induction o with
 | l xs=>obtain⟨z,l,n,r,e⟩:=x;exact⟨z,l,n,r,k _ _ (.inl rfl) e⟩
 | q xs=>obtain⟨z,l,r,g,e,c⟩:=x;exact⟨z,l,r,g,k _ _ (.inl rfl) e,c⟩
 | dK m=>obtain⟨z,y,G,r,g,i,j,e,c⟩:=x;exact⟨z,y,G,r,g,i,j,k _ _ (.inl rfl) e,c⟩
 | dT m =>
   obtain⟨z,y,xs,r,g,i,j,e,c⟩:=x;exact⟨z,y,xs,Paired.mapP r λ p q z=>⟨z.1,F _ _ z.2.1,z.2.2⟩,g,i,j,k _ _ (.inl rfl) e,c⟩
 | set S n=>obtain⟨g,i,j,t,e,c⟩:=x;exact⟨g,i,j,t,k _ _ (.inl rfl) e,c⟩
 | ins C L I =>
   obtain⟨d,z,J,e,s,⟨A,i,j,e2,c⟩,r⟩:=x;exact⟨E _ d,z,J,k _ _ (.inl rfl) e,s,⟨A,i,j,k _ _ (.inr d) e2,c⟩,r⟩
 | own y=>obtain⟨g,e⟩:=x;exact⟨g,k _ _ (.inl rfl) e⟩
 | xd I=>obtain⟨s,⟨A,i,j,e,c⟩,r⟩:=x;exact⟨s,⟨A,i,j,k _ _ (.inl rfl) e,c⟩,r⟩
 | rng M N=>obtain⟨t,u,v,e⟩:=x;exact⟨t,u,v,k _ _ (.inl rfl) e⟩
 | frz g u K=>obtain⟨e,q⟩:=x;exact⟨k _ _ (.inl rfl) e,K q⟩
 | tbl B =>
   have e:h.get? a=some { cls:=.none,data:=.fields B }:=x;show h'.get? a=some { cls:=.none,data:=.fields B };exact k a _ (.inl rfl) e
 | met f y =>
   have e:h.get? a=some (W.methodObj (.ref f) (.ref y)):=x;show h'.get? a=some (W.methodObj (.ref f) (.ref y));exact k a _ (.inl rfl) e
 | ext φ=>obtain⟨p,⟨o,e⟩,D⟩:=x;exact⟨D _ _ p λ o q=>k _ _ (.inl rfl) q,⟨o,k _ _ (.inl rfl) e⟩,D⟩
theorem HOk.lt(x:HOk P w H h)(e:H a=some o):a < h.objs.size:=(x a o e).lt
theorem HOk.fresh(x:HOk P w H h)(e:h.objs.size<=a):H a=none:=by
 cases q:H a with
 | none=>rfl
 | some u=>exact absurd (zAp (x.lt q) e) (zBj _)
theorem HOk.kept(x:HOk P w H h)(k:∀ b u,h.get? b=some u->h'.get? b=some u):HOk P w H h':=λ a o e =>
 (x a o e).stay (λ b u _ q=>k b u q) (λ _ q=>q) λ _ _ q=>q
theorem HOk.laid(x:HOk P w H h)(k:∀ b u,h.get? b=some u->h'.get? b=some u)(i:h.objs.size<=a)(d:ObjOk P w (upd H a o) h' a o):HOk P w (upd H a o) h':=λ b u e=>by
 have f:=x.fresh i;by_cases g:b=a
 . subst g;rw[qb8] at e;cases e;exact d
 rw[qc7 g] at e;exact(x b u e).stay (λ c v _ q=>k c v q) (λ c q=>by rw[qc7 (qd4 q f)];exact q) λ c j q=>by rw[qc7 (qd4 q f)];exact q
end
def Rd(H:Hp)(a:γ)(u:HO):Prop:=H a=some u∨∃ o,H a=some (.frz o u)
theorem Rd.ok{P:Ki}{w:Kk}{H:Hp}{h:Heap}{a:γ}{u:HO}(r:Rd H a u)(x:HOk P w H h):ObjOk P w H h a u:=by
 rcases r with r | ⟨o,r⟩
 . exact x a u r
 obtain⟨_,q⟩:=x a _ r;exact q
def Mut:Option HO->Prop
 | some (.l _)=>True
 | some (.dK _)=>True
 | some (.dT _)=>True
 | some (.set _ _)=>True
 | some (.ins _ _ _)=>True
 | some (.ext _)=>True
 | _=>False
section
variable{P:Ki}{w:Kk}{H:Hp}{h h':Heap}{x e:γ}{o':HO}
theorem HOk.write(ok:HOk P w H h)(d:Mut (H x))(m:e=x∨H e=some (.own x))(k:∀ b u,b≠e->h.get? b=some u->h'.get? b=some u)(j:∃ u,h'.get? e=some u)(l:ObjOk P w (upd H x o') h' x o'):HOk P w (upd H x o') h':=λ b u q=>by
 have nown:∀ c y,H c=some (.own y)->c≠x:=λ c y r z=>by subst z;rw[r] at d;exact d
 have ntup:∀ c f,H c=some (.q f)->c≠x:=λ c f r z=>by subst z;rw[r] at d;exact d
 by_cases g:b=x
 . subst g;rw[qb8] at q;cases q;exact l
 rw[qc7 g] at q;by_cases a:b=e
 . have n:H b=some (.own x):=by
     rcases m with z | z
     . exact absurd (a.trans z) g
     rw[a];exact z
   rw[q] at n;cases n;obtain⟨v,o⟩:=j;exact⟨v,by rw[a];exact o⟩
 refine(ok b u q).stay (λ c v i r=>k c v ?_ r) (λ c r=>by rw[qc7 (nown c b r)];exact r) λ c f r=>by rw[qc7 (ntup c f r)];exact r
 rcases i with rfl | i
 . exact a
 rintro rfl;rcases m with z | z
 . exact nown c b i z
 rw[i] at z;cases z;exact g rfl
end
structure Un(fs ex:List γ)(H H':Hp)(h h':Heap):Prop where
 keep:∀ b o,h.get? b=some o->H b=none->b∉fs->b∉ex->h'.get? b=some o
 slot:∀ b o,h.get? b=some o->H b=none->b∈fs->b∉ex->∃ sl,h'.get? b=some { o with slots:=sl }
 free:∀ b o,h.get? b=some o->H b=none->b∉ex->H' b=none
 there:∀ b o,h.get? b=some o->b∉ex->∃ o',h'.get? b=some o'
 tups:∀ b xs,H b=some (.q xs)->H' b=some (.q xs)
 frzs:∀ b o u,H b=some (.frz o u)->H' b=some (.frz o u)
 tbls:∀ b ps,H b=some (.tbl ps)->∃ more,H' b=some (.tbl (ps++more))
section
variable{fs s:List γ}{H v w:Hp}{h t y h':Heap}{a x e:γ}{o:HO}
theorem Un.any(u:Un fs s H v h t){b:γ}{ob:Obj}(q:h.get? b=some ob)(n:H b=none)(a:b∉s):∃ d,t.get? b=some { ob with slots:=d }:=by
 by_cases c:b∈fs
 . exact u.slot b ob q n c a
 exact⟨ob.slots,u.keep b ob q n c a⟩
theorem Un.trans(a:Un fs s H v h t)(b:Un fs s v w t y):Un fs s H w h y where
 keep:=λ c d q n g e=>b.keep c d (a.keep c d q n g e) (a.free c d q n e) g e
 slot:=λ c d q n g e=>by
   obtain⟨p,f⟩:=a.slot c d q n g e;obtain⟨j,e2⟩:=b.slot c _ f (a.free c d q n e) g e;exact⟨j,e2⟩
 free:=λ c d q n e=>by
   obtain⟨k,f⟩:=a.there c d q e;exact b.free c k f (a.free c d q n e) e
 there:=λ c d q e=>by
   obtain⟨k,f⟩:=a.there c d q e;exact b.there c k f e
 tups:=λ c i q=>b.tups c i (a.tups c i q)
 frzs:=λ c d i q=>b.frzs c d i (a.frzs c d i q)
 tbls:=λ c l q=>by
   obtain⟨m,f⟩:=a.tbls c l q;obtain⟨o,e2⟩:=b.tbls c _ f;exact⟨m++o,by rw[e2,Array.append_assoc]⟩
theorem Un.kept(k:∀ b u,h.get? b=some u->h'.get? b=some u):Un fs s H H h h' :=
 ⟨λ b a q _ _ _=>k b a q,λ b a q _ _ _=>⟨a.slots,k b a q⟩,λ _ _ _ n _=>n,λ b a q _=>⟨a,k b a q⟩,λ _ _ q=>q,λ _ _ _ q=>q,λ _ c q=>⟨#[],by rw[q];simp⟩⟩
theorem Un.refl:Un fs s H H h h:=Un.kept λ _ _ q=>q
theorem Un.laid(k:∀ b u,h.get? b=some u->h'.get? b=some u)(d:h.objs.size<=a)(c:H a=none):Un fs s H (upd H a o) h h' where
 keep:=λ b u q _ _ _=>k b u q
 slot:=λ b u q _ _ _=>⟨u.slots,k b u q⟩
 free:=λ b u q n _=>by rw[qc7 (zAq (zAp (zAd q) d))];exact n
 there:=λ b u q _=>⟨u,k b u q⟩
 tups:=λ b e q=>by rw[qc7 (qd4 q c)];exact q
 frzs:=λ b u e q=>by rw[qc7 (qd4 q c)];exact q
 tbls:=λ b f q=>⟨#[],by rw[qc7 (qd4 q c),q];simp⟩
theorem Un.write(c:Mut (H x))(j:e=x∨H e=some (.own x))(k:∀ b u,b≠e->h.get? b=some u->h'.get? b=some u)(d:∃ u,h'.get? e=some u):Un fs s H (upd H x o) h h':=by
 have g:∀ b,H b=none->b≠x:=λ b n z=>by subst z;rw[n] at c;exact c
 have i:∀ b,H b=none->b≠e:=λ b n z=>by
   subst z;rcases j with r | r
   . exact g b n r
   rw[n] at r;cases r
 have f:∀ b u,H b=some u->¬ Mut (some u)->b≠x:=λ b u q l z=>by subst z;rw[q] at c;exact l c
 refine⟨λ b u q n _ _=>k b u (i b n) q,λ b u q n _ _=>⟨u.slots,k b u (i b n) q⟩,λ b u q n _=>by rw[qc7 (g b n)];exact n,λ b u q _=>?_,
   λ b m q=>by rw[qc7 (f b _ q λ z=>z)];exact q,λ b u m q=>by rw[qc7 (f b _ q λ z=>z)];exact q,λ b p q=>⟨#[],by rw[qc7 (f b _ q λ z=>z),q];simp⟩⟩
 by_cases a:b=e
 . subst a;exact d
 exact⟨u,k b u a q⟩
end
noncomputable def trk(h:Heap)(H:Hp):List γ:=(Kz h.objs.size).filter λ a=>(H a).isSome
def Fm(h:Heap)(H:Hp):Heap:=W.hideAll h (trk h H)
theorem qam7(h:Heap)(H:Hp):(Fm h H).objs.size=h.objs.size:=W.hideAll_size _ _
theorem qaB5{h:Heap}{H:Hp}{b:γ}{o:Obj}(e:h.get? b=some o)(n:H b=none):(Fm h H).get? b=some o :=
 W.hideAll_get _ e λ a=>by
   have q:(H b).isSome=true:=(zB5.mp a).2;rw[n] at q;simp at q
theorem qaK1{h:Heap}{H:Hp}{b:γ}{o:Obj}(e:(Fm h H).get? b=some o):h.get? b=some o/\H b=none:=by
 have a:h.get? b=some o:=W.of_hideAll (trk h H) e;refine⟨a,?_⟩;cases q:H b with
 | none=>rfl
 | some x =>
   have c:b∈trk h H:=zB5.mpr ⟨zA9.mpr (zAd a),by simp[q]⟩;have z:(Fm h H).get? b=none:=W.hideAll_none (trk h H) c;rw[z] at e;cases e
structure Mod(K:Nf)(mg:Str->Option V')(base:Heap):Prop where
 kin:K.In base
 glob:base.Ns J1 mg
 blt:∃ mb,base.Ns builtinsNs mb/\∀ x:Str,x ≠ "__name__" -> mb x=Jx x
 nolimit:base.NoLimit
structure Cx where
 prog:Ki
 w:Kk
 K:Nf
 mg:Str->Option V'
 base:Heap
 A:Kj
 N:List Str
 s₀:Sh
 H₀:Hp
 env:Env
 outer:List Env
 stack:List Env
 ex:List γ
 fn:Str->Bool
 calm:Bool
 pn:List (γ×Obj)
 xe:V'->Sh->Prop
noncomputable def frs(l:List Env):List γ:=l.filterMap (·.frame)
abbrev Cx.fs(X:Cx):List γ:=frs X.outer
def Vis(sc:Scope)(x:Str):Prop:=sc.names.lookup x=some .local∨sc.names.lookup x=some .cell∨sc.names.lookup x=some .free
def Loc(sc:Scope)(x:Str):Prop:=sc.names.lookup x=some .local∨sc.names.lookup x=some .cell
def Look(env:Env)(h:Heap)(m:Str->Option V')(x:Str)(u:V'):Prop :=
 (env.kindOf x=some .local/\m x=some u)∨((env.kindOf x=some .cell∨env.kindOf x=some .free)/\∃ c,env.cells.lookup x=some c/\h.IsCell c (some u))
structure Cx.Ok(X:Cx):Prop where
 mod:Mod X.K X.mg X.base
 kind:X.env.scope.kind=.function
 glob:X.env.globals=J1
 blt:X.env.builtins=builtinsNs
 above:X.s₀.heap.objs.size<=X.env.locals
 inj:∀ x y c,X.env.cells.lookup x=some c->X.env.cells.lookup y=some c->x=y
 has:∀ x,(X.env.kindOf x=some .cell∨X.env.kindOf x=some .free)->∃ c,X.env.cells.lookup x=some c
 cab:∀ x c,X.fn x=true->X.env.cells.lookup x=some c->X.s₀.heap.objs.size<=c
 hd:X.calm=true->X.A.handled=none
 frames:X.A.frames=some X.stack
 stk:X.stack=X.outer∨(X.stack=X.env::X.outer/\X.env.frame=some X.env.locals)
 exf:∀ b∈X.ex,b≠X.env.locals/\∀ x c,X.env.cells.lookup x=some c->c≠b
 bs:∀ b o,X.base.get? b=some o->X.s₀.heap.get? b=some o/\X.H₀ b=none
 bsz:X.base.objs.size<=X.s₀.heap.objs.size
 noex:∀ b o,X.base.get? b=some o->b∉X.ex
 exfs:∀ b∈X.ex,b∉X.fs
 funs:X.s₀.heap.FunFrames X.base X.outer
 frf:∀ b∈X.fs,X.H₀ b=none
structure Inv(X:Cx)(D8:List (γ×Obj))(a:List (Option V))(H:Hp)(s:Sh):Prop where
 ok:X.Ok
 os:s.os=X.s₀.os
 bare:AllBare s.gens
 base:Un X.fs X.ex X.H₀ H X.s₀.heap s.heap
 loc:∃ m,s.heap.Ns X.env.locals m/\∀(i:Nat)(x:Str)(v:V),X.N[i]? = some x->a[i]? = some (some v)->Vis X.env.scope x->∃ u,N7 v u/\Look X.env s.heap m x u
 cell:∀ x c,X.env.cells.lookup x=some c->∃ v,s.heap.IsCell c v
 free:H X.env.locals=none
 freeC:∀ x c,X.env.cells.lookup x=some c->H c=none
 pin:∀ p∈X.pn++D8,s.heap.get? p.1=some p.2/\H p.1=none/\p.1≠X.env.locals/\p.1∉X.fs/\∀ v,p.2.data≠.cell v
 hok:HOk X.prog X.w H s.heap
 len:a.length=X.N.length
section
variable{X:Cx}{D8:List (γ×Obj)}{σ:List (Option V)}{H H':Hp}{s:Sh}{h':Heap}
theorem Cx.Ok.nofr(ok:X.Ok){b:γ}{o:Obj}(e:X.base.get? b=some o):b∉X.fs:=λ a=>by
 have:=(ok.funs.mem a).1
 rw[e] at this;cases this
theorem Inv.bs(I:Inv X D8 σ H s):∀ b o,X.base.get? b=some o->s.heap.get? b=some o/\H b=none:=λ b o e =>
 ⟨I.base.keep b o (I.ok.bs b o e).1 (I.ok.bs b o e).2 (I.ok.nofr e) (I.ok.noex b o e),I.base.free b o (I.ok.bs b o e).1 (I.ok.bs b o e).2 (I.ok.noex b o e)⟩
theorem Inv.bk(I:Inv X D8 σ H s):∀ b o,X.base.get? b=some o->s.heap.get? b=some o:=λ b o e=>(I.bs b o e).1
theorem Inv.mod(I:Inv X D8 σ H s):Mod X.K X.mg X.base:=I.ok.mod
theorem Inv.kIn(I:Inv X D8 σ H s):X.K.In s.heap:=I.ok.mod.kin.keeps I.bk
theorem Inv.lt(I:Inv X D8 σ H s):X.env.locals < s.heap.objs.size:=let ⟨_,hn,_⟩:=I.loc;hn.lt
theorem Inv.sz(I:Inv X D8 σ H s):X.s₀.heap.objs.size<=s.heap.objs.size:=zAm I.ok.above (zBf I.lt)
theorem Inv.nofs(I:Inv X D8 σ H s){a:γ}(h:s.heap.objs.size<=a):a∉X.fs:=λ b=>by
 obtain⟨_,o,c,_⟩:=I.ok.funs.mem b;exact absurd (zAp (zAd c) (zAm I.sz h)) (zBj _)
theorem Inv.cne(I:Inv X D8 σ H s):∀ x c,X.env.cells.lookup x=some c->c≠X.env.locals:=λ x c e z=>by
 obtain⟨v,o,d,f⟩:=I.cell x c e;obtain⟨m,⟨g,h,i,a,b,_⟩,_⟩:=I.loc;rw[z,a] at d;cases d;rw[b] at f;cases f
theorem Inv.funs(I:Inv X D8 σ H s):s.heap.FunFrames X.base X.outer:=by
 have all:∀(l:List Env),(∀ b∈frs l,b∈X.fs)->X.s₀.heap.FunFrames X.base l->s.heap.FunFrames X.base l:=by
   intro l
   induction l with
   | nil=>intro _ _;trivial
   | cons g r h =>
     intro f i;obtain⟨j,⟨L,o,a,k,m,n⟩,p⟩:=i;have c:L∈X.fs:=f L (by unfold frs;rw[zAz,a];exact zA7);obtain⟨q,e⟩:=I.base.slot L o m (I.ok.frf L c) c λ z=>I.ok.exfs L z c
     exact⟨j,⟨L,_,a,k,e,n⟩,h (λ b d=>f b (by unfold frs;rw[zAz,a];exact zA3 _ d)) p⟩
 exact all X.outer (λ _ d=>d) I.ok.funs
theorem Inv.stack(I:Inv X D8 σ H s):s.heap.FunFrames X.base X.stack:=by
 rcases I.ok.stk with e | ⟨e,a⟩
 . rw[e];exact I.funs
 rw[e];obtain⟨m,b,_⟩:=I.loc;refine .cons (by rw[I.ok.kind];decide) a b ?_ I.funs;exact Heap.get?_none_of_le (zAm I.ok.bsz I.ok.above)
theorem Inv.stkSub(I:Inv X D8 σ H s):∀ b∈frs X.stack,b∈X.env.locals::X.fs:=λ b a=>by
 rcases I.ok.stk with e | ⟨e,c⟩
 . rw[e] at a;exact zA3 _ a
 rw[e] at a;unfold frs at a;rw[zAz,c] at a;exact a
theorem Inv.stkFree(I:Inv X D8 σ H s):∀ b∈frs X.stack,H b=none:=λ b a=>by
 rcases zAh.mp (I.stkSub b a) with e | a
 . rw[e];exact I.free
 obtain⟨_,o,c,_⟩:=I.ok.funs.mem a;exact I.base.free b o c (I.ok.frf b a) λ z=>I.ok.exfs b z a
theorem Inv.step{g':Array GenState}{d':Drawn}(I:Inv X D8 σ H s)(f:∀ b∈ch,(b∈X.ex∨X.s₀.heap.objs.size<=b)/\b≠X.env.locals/\(∀ x c,X.env.cells.lookup x=some c->c≠b)/\∀ p∈X.pn++D8,p.1≠b)(keep:∀ b o,b≠X.env.locals->b∉X.fs->b∉ch->s.heap.get? b=some o->H b=none->h'.get? b=some o)(slot:∀ b o,b≠X.env.locals->b∈X.fs->b∉ch->s.heap.get? b=some o->H b=none->∃ B,h'.get? b=some { o with slots:=B })(free:∀ b o,b∉ch->s.heap.get? b=some o->H b=none->H' b=none)(there:∀ b o,b∉ch->s.heap.get? b=some o->∃ o',h'.get? b=some o')(tups:∀ b xs,H b=some (.q xs)->H' b=some (.q xs))(frzs:∀ b o u,H b=some (.frz o u)->H' b=some (.frz o u))(tbls:∀ b ps,H b=some (.tbl ps)->∃ more,H' b=some (.tbl (ps++more)))(ns:∀ m,s.heap.Ns X.env.locals m->h'.Ns X.env.locals m)(C:HOk X.prog X.w H' h')(K:AllBare g') :
   Inv X D8 σ H' { s with heap:=h',gens:=g',drawn:=d',toks:=t' }:=by
 have A:∀ b o,X.s₀.heap.get? b=some o->b≠X.env.locals:=λ b o e=>zAq (zAp (zAd e) I.ok.above)
 have h:∀ b o,X.s₀.heap.get? b=some o->b∉X.ex->b∉ch:=λ b o e a t=>by
   rcases (f b t).1 with z | z
   . exact a z
   exact absurd (zAp (zAd e) z) (zBj _)
 have cellK:∀ x c,X.env.cells.lookup x=some c->∀ v,s.heap.IsCell c v->h'.IsCell c v:=λ x c e v ⟨o,y,D⟩=>by
   have g:c∉ch:=λ z=>(f c z).2.2.1 x c e rfl
   by_cases F:c∈X.fs
   . obtain⟨B,q⟩:=slot c o (I.cne x c e) F g y (I.freeC x c e)
     exact⟨_,q,D⟩
   exact⟨o,keep c o (I.cne x c e) F g y (I.freeC x c e),D⟩
 refine⟨I.ok,I.os,K,⟨λ b o e n t a=>?_,λ b o e n t a=>?_,λ b o e n a=>?_,λ b o e a=>?_,λ b xs e=>tups b xs (I.base.tups b xs e),λ b o xs e=>frzs b o xs (I.base.frzs b o xs e),λ b ps e=>?_⟩,?_,λ x c e=>?_,?_,λ x c e=>?_,λ p G=>?_,C,I.len⟩
 . exact keep b o (A b o e) t (h b o e a) (I.base.keep b o e n t a) (I.base.free b o e n a)
 . obtain⟨B,j⟩:=I.base.slot b o e n t a
   obtain⟨E,e2⟩:=slot b _ (A b o e) t (h b o e a) j (I.base.free b o e n a);exact⟨E,e2⟩
 . obtain⟨o',j⟩:=I.base.there b o e a
   exact free b o' (h b o e a) j (I.base.free b o e n a)
 . obtain⟨o',j⟩:=I.base.there b o e a
   exact there b o' (h b o e a) j
 . obtain⟨L,j⟩:=I.base.tbls b ps e
   obtain⟨M,e2⟩:=tbls b _ j;exact⟨L++M,by rw[e2,Array.append_assoc]⟩
 . obtain⟨m,N,O⟩:=I.loc
   refine⟨m,ns m N,λ i x v j e2 P=>?_⟩;obtain⟨u,r,l⟩:=O i x v j e2 P;refine⟨u,r,?_⟩;rcases l with l | ⟨k,c,e,z⟩
   . exact .inl l
   exact .inr ⟨k,c,e,cellK x c e _ z⟩
 . obtain⟨v,z⟩:=I.cell x c e
   exact⟨v,cellK x c e v z⟩
 . obtain⟨m,⟨o,_,_,y,_⟩,_⟩:=I.loc
   exact free _ o (λ z=>(f _ z).2.1 rfl) y I.free
 . obtain⟨v,o,y,D⟩:=I.cell x c e
   exact free c o (λ z=>(f c z).2.2.1 x c e rfl) y (I.freeC x c e)
 obtain⟨e,n,J,nf,d⟩:=I.pin p G;have g:p.1∉ch:=λ z=>(f p.1 z).2.2.2 p G rfl
 exact⟨keep p.1 p.2 J nf g e n,free p.1 p.2 g e n,J,nf,d⟩
theorem Inv.un(I:Inv X D8 σ H s)(u:Un X.fs [] H H' s.heap h')(c:HOk X.prog X.w H' h'):Inv X D8 σ H' { s with heap:=h',toks:=t' }:=by
 obtain⟨m,⟨o,l,p,h,r⟩,_⟩:=id I.loc;obtain⟨q,i⟩:=u.any h I.free (by simp);exact I.step (g':=s.gens) (d':=s.drawn) (ch:=[]) (λ _ z=>nomatch z) (λ b o _ d _ e n=>u.keep b o e n d (by simp)) (λ b o _ d _ e n=>u.slot b o e n d (by simp)) (λ b o _ e n=>u.free b o e n (by simp)) (λ b o _ e=>u.there b o e (by simp)) u.tups u.frzs u.tbls (λ t j=>by
   obtain⟨v,f,g,a,k⟩:=j;rw[h] at a;cases a;exact⟨_,f,g,i,k⟩) c I.bare
theorem Inv.call{g':Array GenState}{d':Drawn}(I:Inv X D8 σ H s)(u:Un (frs X.stack) ch H H' s.heap h')(g:HOk X.prog X.w H' h')(l:AllBare g')(d:∀ b∈ch,(b∈X.ex∨X.s₀.heap.objs.size<=b)/\b≠X.env.locals/\(∀ x c,X.env.cells.lookup x=some c->c≠b)/\∀ p∈X.pn++D8,p.1≠b) :
   Inv X D8 σ H' { s with heap:=h',gens:=g',drawn:=d',toks:=t' }:=by
 obtain⟨m,⟨o,y,A,k,r⟩,_⟩:=id I.loc;obtain⟨B,h⟩:=u.any k I.free λ z=>(d _ z).2.1 rfl
 exact I.step (ch:=ch) d (λ b o h q a e n=>u.keep b o e n (λ z=>(zAh.mp (I.stkSub b z)).elim h q) a) (λ b o _ _ a e n=>u.any e n a) (λ b o a e n=>u.free b o e n a) (λ b o a e=>u.there b o e a) u.tups u.frzs u.tbls (λ C t=>by
   obtain⟨D,i,j,f,v⟩:=t;rw[k] at f;cases f;exact⟨_,i,j,h,v⟩) g l
theorem Inv.turned{it:γ}(I:Inv X D8 σ H s)(k:∀ b o,b≠it->s.heap.get? b=some o->h'.get? b=some o)(g:H it=none)(f:it≠X.env.locals)(h1:it∈X.ex∨X.s₀.heap.objs.size<=it)(h2:∀ x c,X.env.cells.lookup x=some c->c≠it)(h:∀ p∈X.pn++D8,p.1≠it):Inv X D8 σ H { s with heap:=h',toks:=t' }:=by
 have d:∀ b u,H b=some u->b≠it:=λ b u e z=>by rw[z,g] at e;cases e
 refine I.step (g':=s.gens) (d':=s.drawn) (ch:=[it]) (λ b i=>?_) (λ b o _ _ a e _=>k b o (λ z=>a (by simp[z])) e) (λ b o _ _ a e _=>⟨o.slots,k b o (λ z=>a (by simp[z])) e⟩) (λ _ _ _ _ n=>n)
   (λ b o a e=>⟨o,k b o (λ z=>a (by simp[z])) e⟩) (λ _ _ e=>e) (λ _ _ _ e=>e) (λ b y e=>⟨#[],by rw[e];simp⟩) (λ m j=>?_) (λ b u e=>?_) I.bare
 . have e:b=it:=by simpa using i
   subst e;exact⟨h1,f,h2,h⟩
 . obtain⟨o,l,t,w,r⟩:=j
   exact⟨o,l,t,k _ o (Ne.symm f) w,r⟩
 refine(I.hok b u e).stay (λ c v a q=>k c v ?_ q) (λ _ q=>q) λ _ _ q=>q
 rcases a with z | z
 . rw[z];exact d b u e
 exact d c _ z
theorem Inv.tok(I:Inv X D8 σ H s)(t:Nat):Inv X D8 σ H { s with toks:=t }:=I.un (h':=s.heap) (t':=t) Un.refl I.hok
theorem Inv.kept(I:Inv X D8 σ H s)(k:∀ b u,s.heap.get? b=some u->h'.get? b=some u):Inv X D8 σ H { s with heap:=h',toks:=t' }:=I.un (Un.kept k) (I.hok.kept k)
theorem Inv.laid{a:γ}{o:HO}(I:Inv X D8 σ H s)(k:∀ b u,s.heap.get? b=some u->h'.get? b=some u)(c:s.heap.objs.size<=a)(d:ObjOk X.prog X.w (upd H a o) h' a o) :
   Inv X D8 σ (upd H a o) { s with heap:=h',toks:=t' }:=I.un (Un.laid k c (I.hok.fresh c)) (I.hok.laid k c d)
theorem Inv.write{x e:γ}{o:HO}(I:Inv X D8 σ H s)(d:Mut (H x))(f:e=x∨H e=some (.own x))(k:∀ b u,b≠e->s.heap.get? b=some u->h'.get? b=some u)(a:∃ u,h'.get? e=some u)(c:ObjOk X.prog X.w (upd H x o) h' x o):Inv X D8 σ (upd H x o) { s with heap:=h',toks:=t' }:=I.un (Un.write d f k a) (I.hok.write d f k a c)
theorem Inv.pins_of{pins':List (γ×Obj)}(I:Inv X D8 σ H s)(h:∀ p∈pins',s.heap.get? p.1=some p.2/\H p.1=none/\p.1≠X.env.locals/\p.1∉X.fs/\∀ v,p.2.data≠.cell v):Inv X pins' σ H s :=
 ⟨I.ok,I.os,I.bare,I.base,I.loc,I.cell,I.free,I.freeC,λ p a=>(zAj.mp a).elim (λ z=>I.pin p (L7 _ z)) (h p),I.hok,I.len⟩
theorem qaa9(c:N.Nodup){j:Nat}{x:Str}(a:N[i]? = some x)(b:N[j]? = some x):i=j:=by
 obtain⟨e,d⟩:=zA5.mp a;obtain⟨f,e2⟩:=zA5.mp b;exact(Mm c).mp (d.trans e2.symm)
theorem qai7{A:Kj}{E:V'->Sh->Prop}{x:Str}{v:V}{u:V'}{Q:Unit->Sh->Prop}(I:Inv X D8 σ H s)(hN:X.N.Nodup)(hi:X.N[i]? = some x)(t:Loc X.env.scope x)(r:N7 v u)(h:∀ s',Inv X D8 (σ.set i (some v)) H s'->(∃ a,Heap.SameBut a s.heap s'.heap/\(a=X.env.locals∨X.env.cells.lookup x=some a))->Q () s')(hf:X.fn x=true∨X.env.scope.names.lookup x=some .local:=by first | exact .inl rfl | exact .inr rfl | assumption):Kg M A (storeName X.env x u) Q E s:=by
 obtain⟨m,W,hl⟩:=id I.loc;have K:(X.env.scope.kind == .class||(X.env.scope.kind == .module&&X.env.locals != X.env.globals))=false:=by rw[I.ok.kind];rfl
 have hiσ:i < σ.length:=by rw[I.len];exact(zA5.mp hi).1
 have C:=I.cne;have tracked:∀{a:γ}{J:Heap},(∃ o,s.heap.get? a=some o/\H a=none)->Heap.SameBut a s.heap J->HOk X.prog X.w H J:=λ{a J} ha f b ob e=>by
   obtain⟨_,_,hfree⟩:=ha;refine(I.hok b ob e).stay (λ c S l q=>(f.2 c ?_).trans q) (λ _ q=>q) λ _ _ q=>q
   rintro rfl;rcases l with rfl | l
   . rw[hfree] at e;cases e
   rw[hfree] at l;cases l
 rcases t with B | B
 . refine wpAny_storeName_local B W (λ J Y f=>?_) K
   obtain⟨oL,_,_,Z,_⟩:=id W;refine h _ ⟨I.ok,I.os,I.bare,⟨λ b o e n D t=>?_,λ b o e n D t=>?_,I.base.free,λ b o e t=>?_,I.base.tups,I.base.frzs,I.base.tbls⟩,⟨_,Y,λ j y v' g e2 e3=>?_⟩,λ y c e=>?_,I.free,I.freeC,λ p hp=>?_,tracked ⟨oL,Z,I.free⟩ f,by simpa using I.len⟩ ⟨_,f,.inl rfl⟩
   . exact(f.2 b (zAq (zAp (zAd e) I.ok.above))).trans (I.base.keep b o e n D t)
   . obtain⟨sl,g⟩:=I.base.slot b o e n D t
     exact⟨sl,(f.2 b (zAq (zAp (zAd e) I.ok.above))).trans g⟩
   . obtain⟨o',g⟩:=I.base.there b o e t
     exact⟨o',(f.2 b (zAq (zAp (zAd e) I.ok.above))).trans g⟩
   . by_cases F:j=i
     . subst F
       rw[hi] at g;cases g;rw[List.getElem?_set_self hiσ] at e2;cases e2;exact⟨u,r,.inl ⟨B,by simp⟩⟩
     rw[zBl (Ne.symm F)] at e2;obtain⟨u',r',q⟩:=hl j y v' g e2 e3;refine⟨u',r',?_⟩;rcases q with⟨k,e⟩ | ⟨k,c,e,z⟩
     . refine .inl ⟨k,?_⟩
       have:y≠x:=λ e=>F (qaa9 hN g (e ▸ hi))
       simp[this,e]
     exact .inr ⟨k,c,e,z.sameBut f (C y c e)⟩
   . obtain⟨S,z⟩:=I.cell y c e
     exact⟨S,z.sameBut f (C y c e)⟩
   obtain⟨e,n,T,nf,d⟩:=I.pin p hp;exact⟨(f.2 p.1 T).trans e,n,T,nf,d⟩
 have G:X.fn x=true:=by
   rcases hf with z | z
   . exact z
   rw[z] at B;cases B
 obtain⟨c,l⟩:=I.ok.has x (.inl B);obtain⟨S,z⟩:=I.cell x c l;refine wpAny_storeName_cell I.ok.kind B l z (λ J L f=>?_);obtain⟨oc,O,P⟩:=id z;refine h { s with heap:=J } ⟨I.ok,I.os,I.bare,⟨λ b o e n D t=>?_,λ b o e n D t=>?_,I.base.free,λ b o e t=>?_,I.base.tups,I.base.frzs,I.base.tbls⟩,⟨m,W.sameBut f (Ne.symm (C x c l)),λ j y v' g e2 e3=>?_⟩,λ y U e=>?_,I.free,I.freeC,λ p hp=>?_,tracked ⟨oc,O,I.freeC x c l⟩ f,by simpa using I.len⟩ ⟨c,f,.inr l⟩
 . exact(f.2 b (zAq (zAp (zAd e) (I.ok.cab x c G l)))).trans (I.base.keep b o e n D t)
 . obtain⟨sl,g⟩:=I.base.slot b o e n D t
   exact⟨sl,(f.2 b (zAq (zAp (zAd e) (I.ok.cab x c G l)))).trans g⟩
 . obtain⟨o',g⟩:=I.base.there b o e t
   exact⟨o',(f.2 b (zAq (zAp (zAd e) (I.ok.cab x c G l)))).trans g⟩
 . by_cases F:j=i
   . subst F
     rw[hi] at g;cases g;rw[List.getElem?_set_self hiσ] at e2;cases e2;exact⟨u,r,.inr ⟨.inl B,c,l,L⟩⟩
   rw[zBl (Ne.symm F)] at e2;obtain⟨u',r',q⟩:=hl j y v' g e2 e3;refine⟨u',r',?_⟩;rcases q with q | ⟨k,U,e,z'⟩
   . exact .inl q
   refine .inr ⟨k,U,e,z'.sameBut f ?_⟩;rintro rfl;exact F (qaa9 hN g (I.ok.inj _ _ _ e l ▸ hi))
 . by_cases R:U=c
   . subst R;exact⟨_,L⟩
   obtain⟨w2,z2⟩:=I.cell y U e;exact⟨w2,z2.sameBut f R⟩
 obtain⟨e,n,T,nf,d⟩:=I.pin p hp;refine⟨(f.2 p.1 ?_).trans e,n,T,nf,d⟩;intro q;rw[q,O] at e;have q':oc=p.2:=Nc e;exact d S (by rw[<- q'];exact P)
theorem qJ4{A:Kj}{E:V'->Sh->Prop}{x:Str}{v:V}{u:V'}{Q:Unit->Sh->Prop}(I:Inv X D8 σ H s)(a:X.N.Nodup)(hi:X.N[i]? = some x)(b:Loc X.env.scope x)(r:N7 v u)(h:∀ s',Inv X D8 (σ.set i (some v)) H s'->Q () s')(c:X.fn x=true∨X.env.scope.names.lookup x=some .local:=by first | exact .inl rfl | exact .inr rfl | assumption):Kg M A (storeName X.env x u) Q E s :=
 qai7 I a hi b r (λ s' I' _=>h s' I') c
theorem Inv.call'{s':Sh}(I:Inv X D8 σ H s)(i:s'.os=s.os)(u:Un (frs X.stack) ch H H' s.heap s'.heap)(a:HOk X.prog X.w H' s'.heap)(j:AllBare s'.gens)(d:∀ b∈ch,(b∈X.ex∨X.s₀.heap.objs.size<=b)/\b≠X.env.locals/\(∀ x c,X.env.cells.lookup x=some c->c≠b)/\∀ p∈X.pn++D8,p.1≠b):Inv X D8 σ H' s':=by
 obtain⟨l,f,g,h,k⟩:=s';have e:k=s.os:=i;subst e;exact I.call (g':=f) (t':=h) (d':=g) u a j d
end
abbrev XK:=V'->Option γ->Hp->Prop
abbrev St:=List (Option V)
abbrev VK:=V->Hp->Prop
abbrev TE:=St->Hp->VK->Prop
abbrev TT:=St->Hp->(Bool->Hp->Prop)->Prop
abbrev TA:=St->Hp->(List V->Hp->Prop)->Prop
structure D9 where
 nx:St->Hp->Prop
 rt:VK
 bk:St->Hp->Prop:=λ _ _=>False
 ct:St->Hp->Prop:=λ _ _=>False
abbrev TS:=D9->St->Hp->Prop
def EP(X:Cx)(D8:List (γ×Obj))(a:St)(Q:VK)(u:V')(s':Sh):Prop:=∃ v H',Inv X D8 a H' s'/\N7 v u/\Q v H'
def TP(X:Cx)(D8:List (γ×Obj))(a:St)(Q:Bool->Hp->Prop)(b:Bool)(s':Sh):Prop:=∃ H',Inv X D8 a H' s'/\Q b H'
def AP(X:Cx)(D8:List (γ×Obj))(a:St)(Q:List V->Hp->Prop)(us:List V')(s':Sh):Prop:=∃ vs H',Inv X D8 a H' s'/\N8 vs us/\Q vs H'
def SP(X:Cx)(D8:List (γ×Obj))(D:D9)(f:Flow)(s':Sh):Prop :=
 match f with
 | .next=>∃ a' H',Inv X D8 a' H' s'/\D.nx a' H'
 | .brk=>∃ a' H',Inv X D8 a' H' s'/\D.bk a' H'
 | .cont=>∃ a' H',Inv X D8 a' H' s'/\D.ct a' H'
 | .ret u=>∃ v a' H',Inv X D8 a' H' s'/\N7 v u/\D.rt v H'
def PE(X:Cx)(e:Kl)(t:TE):Prop :=
 ∀(D8:List (γ×Obj))(s:Sh)(a:St)(H:Hp)(Q:VK),Inv X D8 a H s->t a H Q->Kg (Kh X.prog X.w) X.A (eval e X.env) (EP X D8 a Q) X.xe s
def PT(X:Cx)(e:Kl)(t:TT):Prop :=
 ∀(D8:List (γ×Obj))(s:Sh)(a:St)(H:Hp)(Q:Bool->Hp->Prop),Inv X D8 a H s->t a H Q->Kg (Kh X.prog X.w) X.A (isTrue e X.env (eval e X.env)) (TP X D8 a Q) X.xe s
def PW(X:Cx)(e:Kl)(t:TT):Prop :=
 ∀(whole:Sem V')(D8:List (γ×Obj))(s:Sh)(a:St)(H:Hp)(Q:Bool->Hp->Prop),Inv X D8 a H s->t a H Q->Kg (Kh X.prog X.w) X.A (isTrue e X.env whole) (TP X D8 a Q) X.xe s
theorem PW.pt{X:Cx}{e:Kl}{t:TT}(h:PW X e t):PT X e t:=h _
def PA(X:Cx)(es:List Kl)(t:TA):Prop :=
 ∀(pos:Pos)(D8:List (γ×Obj))(s:Sh)(a:St)(H:Hp)(Q:List V->Hp->Prop),Inv X D8 a H s->t a H Q->Kg (Kh X.prog X.w) X.A (spliced (backTo pos (Js es X.env))) (AP X D8 a Q) X.xe s
def PS(X:Cx)(st:Km)(t:TS):Prop :=
 ∀(D8:List (γ×Obj))(s:Sh)(a:St)(H:Hp)(D:D9),Inv X D8 a H s->t D a H->Kg (Kh X.prog X.w) X.A (exec st X.env) (SP X D8 D) X.xe s
def PSs(X:Cx)(st:List Km)(t:TS):Prop :=
 ∀(D8:List (γ×Obj))(s:Sh)(a:St)(H:Hp)(D:D9),Inv X D8 a H s->t D a H->Kg (Kh X.prog X.w) X.A (execs st X.env) (SP X D8 D) X.xe s
theorem thn{α:Type}{t:Sem α}{Q Q':α->Sh->Prop}{A:Kj}{E:V'->Sh->Prop}{s:Sh}(h:Kg M A t Q E s)(b:∀ a s,Q a s->Q' a s):Kg M A t Q' E s:=Ka h b λ _ _ x=>x
section
variable{X:Cx}
def E9(i:Nat):TE:=λ n H Q=>∃ v,n[i]? = some (some v)/\Q v H
def tC(v:V):TE:=λ _ H Q=>Q v H
theorem qr2{x:Str}{pos:Pos}(f:X.N[i]? = some x)(g:Vis X.env.scope x)(b:N' x:=by decide)(d:(x == ("__classdict__" : Str))=false:=by decide):PE X (.Name x pos) (E9 i):=by
 intro D8 s n H Q I h;obtain⟨v,e,h⟩:=h;obtain⟨m,j,k⟩:=I.loc;obtain⟨u,r,l⟩:=k i x v f e g;have fin:EP X D8 n Q u s:=⟨v,H,I,r,h⟩
 rcases l with⟨a,hm⟩ | ⟨a,c,hc,hcell⟩
 . exact wpAny_Name (wpAny_loadName_local I.ok.kind a j hm fin) b
 rcases a with a | a
 . exact wpAny_Name (wpAny_loadName_cell I.ok.kind a hc hcell fin) b
 exact wpAny_Name (wpAny_loadName_free I.ok.kind a hc hcell fin d) b
theorem qG2{i j pos}:PE X (.Constant (.int i) j pos) (tC (.int i)):=λ _ _ _ H _ I h=>wpAny_Constant_int ⟨.int i,H,I.tok _,⟨_,rfl⟩,h⟩
theorem pe_bl{b j pos}:PE X (.Constant (.bool b) j pos) (tC (.bl b)):=λ _ _ _ H _ I h=>Constant_bool ⟨.bl b,H,I,rfl,h⟩
theorem qaS4{j pos}:PE X (.Constant .none j pos) (tC .non):=λ _ _ _ H _ I h=>Constant_none ⟨.non,H,I,rfl,h⟩
theorem qaS0{x j pos}:PE X (.Constant (.str x) j pos) (tC (.str x)):=λ _ _ _ H _ I h=>Calls.Constant_str ⟨.str x,H,I.tok _,⟨_,rfl⟩,h⟩
def Gl(X:Cx)(x:Str):Prop:=X.env.kindOf x=some .globalImplicit
theorem qac5{E:V'->Sh->Prop}{D8:List (γ×Obj)}{s:Sh}{n:St}{H:Hp}{x:Str}{u:V'}{pos:Pos}{Q:V'->Sh->Prop}(I:Inv X D8 n H s)(a:Gl X x)(hm:X.mg x=some u)(h:Q u s)(b:N' x:=by decide):Kg (Kh X.prog X.w) X.A (eval (.Name x pos) X.env) Q E s :=
 Calls.Name_function_global I.ok.kind a (Calls.loadGlobal_global (by rw[I.ok.glob];exact I.mod.glob.keeps I.bk) hm h) b
theorem qV8{E:V'->Sh->Prop}{D8:List (γ×Obj)}{s:Sh}{n:St}{H:Hp}{x:Str}{u:V'}{pos:Pos}{Q:V'->Sh->Prop}(I:Inv X D8 n H s)(a:Gl X x)(hm:X.mg x=none)(b:Jx x=some u)(h:Q u s)(c:x ≠ "__name__" := by decide)(d:N' x:=by decide):Kg (Kh X.prog X.w) X.A (eval (.Name x pos) X.env) Q E s:=by
 obtain⟨g,e,f⟩:=I.mod.blt;exact Calls.Name_function_global I.ok.kind a (Calls.loadGlobal_builtin (by rw[I.ok.glob];exact I.mod.glob.keeps I.bk) hm (by rw[I.ok.blt];exact e.keeps I.bk) ((f x c).trans b) h) d
theorem qas1{x:Str}{v:V}{u:V'}{pos:Pos}(a:Gl X x)(hm:X.mg x=some u)(r:N7 v u)(b:N' x:=by decide):PE X (.Name x pos) (tC v) :=
 λ _ _ _ H _ I h=>qac5 I a hm ⟨v,H,I,r,h⟩ b
theorem qaJ0{x:Str}{v:V}{u:V'}{pos:Pos}(a:Gl X x)(hm:X.mg x=none)(b:Jx x=some u)(r:N7 v u)(c:x ≠ "__name__" := by decide)(d:N' x:=by decide):PE X (.Name x pos) (tC v) :=
 λ _ _ _ H _ I h=>qV8 I a hm b ⟨v,H,I,r,h⟩ c d
variable{a b:Kl}{o p:TE}{pos:Pos}
def tB(t:TE):TT:=λ n H Q=>t n H λ x H1=>∃ c,x=.bl c/\Q c H1
theorem qaH2{e:Kl}{t:TE}(h:PE X e t)(b:∀ whole,isTrue e X.env whole=(do let v <- whole;standAt e.pos;holding [v] (truthy v)):=by intro _;rfl):PT X e (tB t):=by
 intro D8 s n H Q I c;refine isTrue_plain (thn (h D8 s n H _ I c) λ v i a=>?_) (b _);obtain⟨x,H1,I1,f,g⟩:=a;obtain⟨d,rfl,q⟩:=g;cases f;exact Jy ⟨H1,I1,q⟩
variable{y tB':TT}{rest:List Kl}
def tAnd(t u:TT):TT:=λ n H Q=>t n H λ c H1=>if c=true then u n H1 Q else Q false H1
def tOr(t u:TT):TT:=λ n H Q=>t n H λ c H1=>if c=true then Q true H1 else u n H1 Q
def tNot(t:TT):TT:=λ n H Q=>t n H λ c H1=>Q (!c) H1
theorem qaH1(b:PT X a y):PW X (.BoolOp .And [a] pos) y:=by
 intro d D8 s n H Q I h;refine isTrue_and (thn (b D8 s n H Q I h) λ c f e=>?_);cases c with
 | true=>exact isTrue_and_nil e
 | false=>exact e
theorem qaR1(b:PT X a y):PW X (.BoolOp .Or [a] pos) y:=by
 intro d D8 s n H Q I h;refine isTrue_or (thn (b D8 s n H Q I h) λ c f e=>?_);cases c with
 | false=>exact isTrue_or_nil e
 | true=>exact e
theorem qaR2(f:PT X a y)(g:PW X (.BoolOp .And (b::rest) pos) tB'):PW X (.BoolOp .And (a::b::rest) pos) (tAnd y tB'):=by
 intro i D8 s n H Q I h;refine isTrue_and (thn (f D8 s n H _ I h) λ c j d=>?_);obtain⟨H1,I1,e⟩:=d;cases c with
 | true=>exact g i D8 j n H1 Q I1 e
 | false=>exact⟨H1,I1,e⟩
theorem pw_or(f:PT X a y)(g:PW X (.BoolOp .Or (b::rest) pos) tB'):PW X (.BoolOp .Or (a::b::rest) pos) (tOr y tB'):=by
 intro i D8 s n H Q I h;refine isTrue_or (thn (f D8 s n H _ I h) λ c j d=>?_);obtain⟨H1,I1,e⟩:=d;cases c with
 | true=>exact⟨H1,I1,e⟩
 | false=>exact g i D8 j n H1 Q I1 e
theorem qaR3(b:PT X a y):PT X (.UnaryOp .Not a pos) (tNot y):=by
 intro D8 s n H Q I h;exact isTrue_not (b D8 s n H (λ c H1=>Q (!c) H1) I h)
def tAndV(o p:TE):TE:=λ n H Q=>o n H λ x H1=>∃ c,x=.bl c/\if c=true then p n H1 Q else Q (.bl false) H1
def tOrV(o p:TE):TE:=λ n H Q=>o n H λ x H1=>∃ c,x=.bl c/\if c=true then Q (.bl true) H1 else p n H1 Q
def tNotV(o:TE):TE:=λ n H Q=>o n H λ x H1=>∃ c,x=.bl c/\Q (.bl (!c)) H1
theorem qaI6{op}{t:TE}(h:PE X a t):PE X (.BoolOp op [a] pos) t:=λ D8 s n H Q I b=>BoolOp_one (h D8 s n H Q I b)
theorem qaJ1(f:PE X a o)(g:PE X (.BoolOp .And (b::rest) pos) p):PE X (.BoolOp .And (a::b::rest) pos) (tAndV o p):=by
 intro D8 s n H Q I h;refine BoolOp_and (thn (f D8 s n H _ I h) λ v i e=>?_);obtain⟨x,H1,I1,j,d⟩:=e;obtain⟨c,rfl,d⟩:=d;cases j;refine Jy ?_;cases c with
 | true=>exact g D8 i n H1 Q I1 d
 | false=>exact⟨.bl false,H1,I1,rfl,d⟩
theorem pe_or(f:PE X a o)(g:PE X (.BoolOp .Or (b::rest) pos) p):PE X (.BoolOp .Or (a::b::rest) pos) (tOrV o p):=by
 intro D8 s n H Q I h;refine BoolOp_or (thn (f D8 s n H _ I h) λ v i e=>?_);obtain⟨x,H1,I1,j,d⟩:=e;obtain⟨c,rfl,d⟩:=d;cases j;refine Jy ?_;cases c with
 | false=>exact g D8 i n H1 Q I1 d
 | true=>exact⟨.bl true,H1,I1,rfl,d⟩
theorem qaS3(e:PE X a o):PE X (.UnaryOp .Not a pos) (tNotV o):=by
 intro D8 s n H Q I h;refine UnaryOp_ (thn (e D8 s n H _ I h) λ v g b=>?_);obtain⟨x,H1,I1,f,d⟩:=b;obtain⟨c,rfl,d⟩:=d;cases f;exact not_of (Jy ⟨.bl (!c),H1,I1,rfl,d⟩)
def tIf(t:TT)(o p:TE):TE:=λ n H Q=>t n H λ c H1=>if c=true then o n H1 Q else p n H1 Q
theorem qay5{c:Kl}(i:PT X c y)(j:PE X a o)(k:PE X b p):PE X (.IfExp c a b pos) (tIf y o p):=by
 intro D8 s n H Q I h;refine wpAny_IfExp (thn (i D8 s n H _ I h) λ d f e=>?_);obtain⟨H1,I1,g⟩:=e;cases d with
 | true=>exact j D8 f n H1 Q I1 g
 | false=>exact k D8 f n H1 Q I1 g
end
def SqL(K:Nf)(H:Hp)(a:γ)(xs:List V):Prop :=
 Rd H a (.l xs) ∨
   ∃(o:Obj)(its:Array V')(n:Nat),K.lookup a=some o/\o.cls=.type "list" /\ o.dict=none/\o.data=.seq its n/\its.size<=Jt/\N8 xs its.toList
def SqT(K:Nf)(H:Hp)(a:γ)(xs:List V):Prop :=
 Rd H a (.q xs) ∨
   ∃(o:Obj)(its:Array V')(n:Nat),K.lookup a=some o/\o.cls=.type "tuple" /\ o.data=.seq its n/\its.size<=Jt/\N8 xs its.toList
noncomputable def absV:V'->Option V
 | .none=>some .non
 | .bool b=>some (.bl b)
 | .int i _=>some (.int i)
 | .str x _=>some (.str x)
 | .bytes b _=>some (.byt b)
 | .float b _=>some (.flt b)
 | .ref a=>some (.ref a)
 | .type n=>some (.ty n)
 | _=>none
theorem N7.abs{x:V}{u:V'}(r:N7 x u):absV u=some x:=by
 cases x with
 | non=>cases r;rfl
 | bl _=>cases r;rfl
 | int _=>obtain⟨t,rfl⟩:=r;rfl
 | str _=>obtain⟨t,rfl⟩:=r;rfl
 | byt _=>obtain⟨t,rfl⟩:=r;rfl
 | flt _=>obtain⟨t,rfl⟩:=r;rfl
 | ref _=>cases r;rfl
 | ty _=>cases r;rfl
theorem N7.inj{x y:V}{u:V'}(r:N7 x u)(q:N7 y u):x=y:=Nc (r.abs.symm.trans q.abs)
theorem N8.inj{xs ys:List V}(h:N8 xs us)(g:N8 ys us):xs=ys:=by
 induction h generalizing ys with
 | nil=>cases g;rfl
 | cons r t i=>cases g with | cons q u=>rw[r.inj q,i u]
section
variable{X:Cx}{q:List (γ×Obj)}{m:St}{H:Hp}{s:Sh}{a:γ}{xs ys:List V}
theorem SqL.of{K:Nf}(h:H a=some (.l xs)):SqL K H a xs:=.inl (.inl h)
theorem Inv.list(I:Inv X q m H s)(h:SqL X.K H a xs):∃ its:List V',N8 xs its/\PlainL s.heap a its.toArray/\xs.length<=Jt:=by
 rcases h with h | ⟨o,its,n,b,c,d,f,g,r⟩
 . obtain⟨z,its,n,r,e⟩:=h.ok I.hok
   exact⟨its,r,⟨_,n,e,rfl,rfl,rfl⟩,z⟩
 refine⟨its.toList,r,⟨o,n,I.kIn a o b,c,d,by simpa using f⟩,?_⟩;have e:=r.length;simp only[zBb] at e;lia
theorem Inv.tuple(I:Inv X q m H s)(h:SqT X.K H a xs):∃ its:List V',N8 xs its/\IsTup s.heap a its.toArray/\xs.length<=Jt:=by
 rcases h with h | ⟨o,its,n,b,c,d,f,r⟩
 . obtain⟨z,its,r,p⟩:=h.ok I.hok
   exact⟨its,r,p,z⟩
 refine⟨its.toList,r,⟨o,I.kIn a o b,c,n,by simpa using d⟩,?_⟩;have e:=r.length;simp only[zBb] at e;lia
theorem Inv.list_inj(I:Inv X q m H s)(h:SqL X.K H a xs)(h':SqL X.K H a ys):xs=ys:=by
 obtain⟨b,r,⟨o,n,e,_,_,d⟩,_⟩:=I.list h;obtain⟨its',g,⟨j,k,c,_,_,f⟩,_⟩:=I.list h';rw[e] at c;cases c;rw[d] at f;injection f with i _
 have:b=its':=by simpa using congrArg Array.toList i
 subst this;exact r.inj g
end
noncomputable abbrev Cx.wish(X:Cx)(E:V'->Sh->Prop):Cx:={ X with xe:=E }
abbrev Cx.nox(X:Cx):Cx:=X.wish λ _ _=>False
theorem Cx.Ok.wish{X:Cx}(ok:X.Ok)(E:V'->Sh->Prop):(X.wish E).Ok :=
 ⟨ok.mod,ok.kind,ok.glob,ok.blt,ok.above,ok.inj,ok.has,ok.cab,ok.hd,ok.frames,ok.stk,ok.exf,ok.bs,ok.bsz,ok.noex,ok.exfs,ok.funs,ok.frf⟩
theorem Cx.Ok.unwish{X:Cx}{E:V'->Sh->Prop}(ok:(X.wish E).Ok):X.Ok :=
 ⟨ok.mod,ok.kind,ok.glob,ok.blt,ok.above,ok.inj,ok.has,ok.cab,ok.hd,ok.frames,ok.stk,ok.exf,ok.bs,ok.bsz,ok.noex,ok.exfs,ok.funs,ok.frf⟩
section
variable{X:Cx}{c:List (γ×Obj)}{b:St}{H:Hp}{s:Sh}{E:V'->Sh->Prop}
theorem Inv.wish(I:Inv X c b H s)(E:V'->Sh->Prop):Inv (X.wish E) c b H s:=⟨I.ok.wish E,I.os,I.bare,I.base,I.loc,I.cell,I.free,I.freeC,I.pin,I.hok,I.len⟩
theorem Inv.unwish(I:Inv (X.wish E) c b H s):Inv X c b H s:=⟨I.ok.unwish,I.os,I.bare,I.base,I.loc,I.cell,I.free,I.freeC,I.pin,I.hok,I.len⟩
theorem SP.unwish{D:D9}{f:Flow}{s':Sh}(h:SP (X.wish E) c D f s'):SP X c D f s':=by
 cases f with
 | next=>obtain⟨b',H',I,q⟩:=h;exact⟨b',H',I.unwish,q⟩
 | brk=>obtain⟨b',H',I,q⟩:=h;exact⟨b',H',I.unwish,q⟩
 | cont=>obtain⟨b',H',I,q⟩:=h;exact⟨b',H',I.unwish,q⟩
 | ret u=>obtain⟨v,b',H',I,r,q⟩:=h;exact⟨v,b',H',I.unwish,r,q⟩
theorem PSs.nox{st:List Km}{t:TS}(h:PSs X.nox st t):PSs X st t:=λ c s b H D I a =>
 Ka (h c s b H D (I.wish _) a) (λ _ _ q=>q.unwish) λ _ _ z=>Ny z
end
section
variable{X:Cx}{n:Km}{rest:List Km}{t u:TS}{e:Kl}{te:TE}{m:Pos}
def tNext:TS:=λ D l H=>D.nx l H
def tSeq(t u:TS):TS:=λ D l H=>t { D with nx:=u D } l H
theorem qaH4:PSs X [] tNext:=λ _ _ l H _ I h=>wpAny_execs_nil ⟨l,H,I,h⟩
theorem qZ7(h1:PS X n t)(h2:PSs X rest u):PSs X (n::rest) (tSeq t u):=by
 intro D8 s l H D I h;refine wpAny_execs_cons (thn (h1 D8 s l H { D with nx:=u D } I h) λ f a q=>?_);cases f with
 | next =>
   obtain⟨l',H',I',q⟩:=q;exact h2 D8 a l' H' D I' q
 | ret v=>exact q
 | brk=>exact q
 | cont=>exact q
theorem qar2(h1:PS X n t):PSs X [n] t:=by
 intro D8 s l H D I h;refine wpAny_execs_cons (thn (h1 D8 s l H D I h) λ f a q=>?_);cases f with
 | next=>exact wpAny_execs_nil q
 | ret v=>exact q
 | brk=>exact q
 | cont=>exact q
theorem Inv.quiet{D8:List (γ×Obj)}{l:St}{H:Hp}{s:Sh}(I:Inv X D8 l H s):interactive X.env=false:=by simp[interactive,I.ok.kind]
def tDrop(te:TE):TS:=λ D l H=>te l H λ _ H1=>D.nx l H1
theorem qaH7(a:PE X e te)(hs:swapsWith e none m.line X.env=pure false:=by rfl):PS X (.Expr e m) (tDrop te):=by
 intro D8 s l H D I h;exact wpAny_Expr_any (thn (a D8 s l H _ I h) λ v c ⟨x,H1,I1,d,b⟩=>⟨l,H1,I1,b⟩) I.quiet hs
def tRet(te:TE):TS:=λ D l H=>te l H D.rt
theorem qaH6(a:PE X e te):PS X (.Return (some e) m) (tRet te):=by
 intro D8 s l H D I h;exact wpAny_Return_some (thn (a D8 s l H _ I h) λ v d ⟨x,H1,I1,b,c⟩=>⟨x,l,H1,I1,b,c⟩)
def tIfS(c:TT)(t u:TS):TS:=λ D l H=>c l H λ b H1=>if b=true then t D l H1 else u D l H1
theorem ps_if{c:Kl}{a b:List Km}{tc:TT}(i:PT X c tc)(j:PSs X a t)(k:PSs X b u):PS X (.If c a b m) (tIfS tc t u):=by
 intro D8 s l H D I h;refine wpAny_If (thn (i D8 s l H _ I h) λ d f e=>?_);obtain⟨H1,I1,g⟩:=e;cases d with
 | true=>exact j D8 f l H1 D I1 g
 | false=>exact k D8 f l H1 D I1 g
end
abbrev TG:=V->St->Hp->(St->Hp->Prop)->Prop
abbrev TGs:=List V->St->Hp->(St->Hp->Prop)->Prop
def PG(X:Cx)(target:Kl)(t:TG):Prop :=
 ∀(D8:List (γ×Obj))(s:Sh)(a:St)(H:Hp)(v:V)(u:V')(Q:St->Hp->Prop),Inv X D8 a H s->N7 v u->t v a H Q ->
   Kg (Kh X.prog X.w) X.A (assign target X.env u) (λ _ s'=>∃ a' H',Inv X D8 a' H' s'/\Q a' H') X.xe s
def PGs(X:Cx)(a:List Kl)(t:TGs):Prop :=
 ∀(D8:List (γ×Obj))(s:Sh)(b:St)(H:Hp)(vs:List V)(us:List V')(Q:St->Hp->Prop),Inv X D8 b H s->N8 vs us->t vs b H Q ->
   Kg (Kh X.prog X.w) X.A (assignInOrder ((Ke a X.env).map (·.2)) us) (λ _ s'=>∃ b' H',Inv X D8 b' H' s'/\Q b' H') X.xe s
abbrev Hx:=V->V->V->Hp->(Hp->Prop)->Prop
def PSet(X:Cx)(t:Hx):Prop :=
 ∀(D8:List (γ×Obj))(s:Sh)(a:St)(H:Hp)(o i v:V)(ov iv u:V')(Q:Hp->Prop),Inv X D8 a H s->N7 o ov->N7 i iv->N7 v u->t o i v H Q ->
   Kg (Kh X.prog X.w) X.A (setItem ov iv u) (λ _ s'=>∃ H',Inv X D8 a H' s'/\Q H') X.xe s
abbrev TIp:=V->V->Hp->VK->Prop
def PIp(X:Cx)(op:Operator)(t:TIp):Prop :=
 ∀(D8:List (γ×Obj))(s:Sh)(a:St)(H:Hp)(x y:V)(v u:V')(Q:VK),Inv X D8 a H s->N7 x v->N7 y u->t x y H Q ->
   Kg (Kh X.prog X.w) X.A (inplaceOp op v u) (EP X D8 a Q) X.xe s
section
variable{X:Cx}{pos:Pos}
def Ep(i:Nat):TG:=λ v R H Q=>Q (R.set i (some v)) H
theorem qar8{x:Str}(a:X.N.Nodup)(hi:X.N[i]? = some x)(b:Loc X.env.scope x)(c:X.fn x=true∨X.env.scope.names.lookup x=some .local:=by first | exact .inl rfl | exact .inr rfl | assumption):PG X (.Name x pos) (Ep i):=by
 intro D8 s R H v u Q I r h;exact wpAny_assign_Name (qJ4 I a hi b r (λ d I'=>⟨_,H,I',h⟩) c)
def gNil:TGs:=λ vs R H Q=>vs=[]/\Q R H
def gCons(t:TG)(u:TGs):TGs:=λ vs R H Q=>∃ v r,vs=v::r/\t v R H λ R' H'=>u r R' H' Q
theorem qaI2:PGs X [] gNil:=by
 intro D8 s R H a b Q I r h;obtain⟨e,h⟩:=h;subst e;cases r;exact assignInOrder_nil ⟨R,H,I,h⟩
theorem qay2{e:Kl}{es:List Kl}{t:TG}{u:TGs}(h1:PG X e t)(h2:PGs X es u)(hs:(Ke (e::es) X.env).map (·.2)=assign e X.env::(Ke es X.env).map (·.2):=by rfl):PGs X (e::es) (gCons t u):=by
 intro D8 s R H g i Q I r h;obtain⟨v,j,b,h⟩:=h;subst b;cases r with
 | cons r c =>
   rw[hs];refine assignInOrder_cons (thn (h1 D8 s R H _ _ _ I r h) λ _ d a=>?_);obtain⟨σ1,H1,I1,f⟩:=a;exact h2 D8 d σ1 H1 _ _ Q I1 c f
def gTup(K:Nf)(n:Nat)(t:TGs):TG:=λ v R H Q=>∃ a xs,v=.ref a/\SqT K H a xs/\xs.length=n/\t xs R H Q
theorem qaR7{es:List Kl}{k:Nat}{t:TGs}(g:X.calm=true)(h:PGs X es t)(i:(Ke es X.env).length=n:=by rfl)(c:(Ke es X.env).findIdx? (·.1)=none:=by rfl):PG X (.Tuple es k pos) (gTup X.K n t):=by
 intro D8 s R H v u Q I r d;obtain⟨a,j,l,m,p,d⟩:=d;subst l;cases r;obtain⟨q,f,w,z⟩:=I.tuple m;refine assign_Tuple_tuple (I.ok.hd g) w (by simp[i,<- p,f.length]) c λ x y=>?_
 have I1:Inv X D8 R H { s with heap:=x }:=I.kept (t':=s.toks) λ b o e=>y b o (zAq (zAd e)) e
 exact h D8 _ R H j _ Q I1 (by simpa using f) d
def gSub(to a:TE)(t:Hx):TG:=λ v R H Q=>to R H λ o H1=>a R H1 λ i H2=>t o i v H2 λ H3=>Q R H3
theorem qaR8{o i:Kl}{to b:TE}{t:Hx}(c:PE X o to)(hi:PE X i b)(hs:PSet X t)(d:∀ v,assign (.Subscript o i pos) X.env v=(do
     let ov <- holding [v] (eval o X.env)
     let iv <- holding [v,ov] (eval i X.env)
     standAt pos
     holding [v,ov,iv] (setItem ov iv v)
     release [v,ov,iv] []):=by intro _;rfl):PG X (.Subscript o i pos) (gSub to b t):=by
 intro D8 s R H v u Q I r h;rw[d];refine G' (Jw (thn (c D8 s R H _ I h) λ ov e a=>?_));obtain⟨x,H1,I1,f,g⟩:=a;refine G' (Jw (thn (hi D8 e R H1 _ I1 g) λ iv j a=>?_));obtain⟨y,H2,I2,k,q2⟩:=a;refine G' (wpAny_standAt (G' (Jw (thn (hs D8 j R H2 x y v ov iv u _ I2 f k r q2) λ _ m a=>?_))));obtain⟨H3,I3,l⟩:=a;exact wpAny_release ⟨R,H3,I3,l⟩
def Hg(te:TE)(g:TG):TS:=λ D R H=>te R H λ x H1=>g x R H1 D.nx
theorem qaR5{tg e:Kl}{te:TE}{g:TG}(b:PE X e te)(c:PG X tg g)(hs:swapsWithSole [tg] e pos.line X.env=pure false:=by rfl)(d:swappedStores [tg] e X.env=pure none:=by rfl)(h1:(Ke [tg] X.env).map (·.2)=[assign tg X.env]:=by rfl):PS X (.Assign [tg] e pos) (Hg te g):=by
 intro D8 s R H D I h;refine wpAny_Assign_stores (thn (b D8 s R H _ I h) λ v f a=>?_) hs d;obtain⟨x,H1,I1,i,j⟩:=a;rw[h1];exact thn (c D8 f R H1 x v _ I1 i j) λ _ k q=>q
theorem qaH5{x:Str}{e:Kl}{te:TE}{pos':Pos}(b:X.N.Nodup)(hi:X.N[i]? = some x)(c:Loc X.env.scope x)(d:PE X e te)(hs:swapsWith e (some (.Name x pos')) pos.line X.env=pure false:=by rfl)(f:X.fn x=true∨X.env.scope.names.lookup x=some .local:=by first | exact .inl rfl | exact .inr rfl | assumption) :
   PS X (.Assign [.Name x pos'] e pos) (Hg te (Ep i)):=by
 intro D8 s R H D I h;refine wpAny_Assign_Name (thn (d D8 s R H _ I h) λ v k a=>?_) hs;obtain⟨y,H1,I1,g,j⟩:=a;exact qJ4 I1 b hi c g (λ l I2=>⟨_,H1,I2,j⟩) f
def tAugS(to b te:TE)(tget:V->V->Hp->VK->Prop)(a:TIp)(tset:Hx):TS:=λ D R H=>to R H λ o H1=>b R H1 λ i H2=>tget o i H2 λ x H3=>te R H3 λ y H4=>a x y H4 λ z H5=>tset o i z H5 λ H6=>D.nx R H6
def PGet(X:Cx)(t:V->V->Hp->VK->Prop):Prop :=
 ∀(D8:List (γ×Obj))(s:Sh)(R:St)(H:Hp)(o i:V)(ov iv:V')(Q:VK),Inv X D8 R H s->N7 o ov->N7 i iv->t o i H Q ->
   Kg (Kh X.prog X.w) X.A (getItem ov iv) (EP X D8 R Q) X.xe s
theorem qaH8{o i e:Kl}{to j te:TE}{tget:V->V->Hp->VK->Prop}{f:TIp}{tset:Hx}{op:Operator}{tpos:Pos}(p:PE X o to)(hi:PE X i j)(q:PGet X tget)(r:PE X e te)(t:PIp X op f)(hs:PSet X tset)(u:∀ c d b,augStore i c d b=(do holding [b,c,d] (setItem c d b);release [b,c,d] [];pure .next):=by intros;rfl):PS X (.AugAssign (.Subscript o i tpos) op e pos) (tAugS to j te tget f tset):=by
 intro D8 s R H D I h;refine wpAny_AugAssign_SubscriptAny (thn (p D8 s R H _ I h) λ c w a=>?_) u;obtain⟨k,H1,I1,l,x⟩:=a;refine thn (hi D8 w R H1 _ I1 x) λ d y a=>?_
 obtain⟨m,H2,I2,n,q2⟩:=a;refine thn (q D8 y R H2 k m c d _ I2 l n q2) λ g z a=>?_
 obtain⟨A,H3,I3,B,C⟩:=a;refine thn (r D8 z R H3 _ I3 C) λ v E a=>?_
 obtain⟨F,H4,I4,G,J⟩:=a;refine thn (t D8 E R H4 A F g v _ I4 B G J) λ b K a=>?_
 obtain⟨L,H5,I5,M,N⟩:=a;exact thn (hs D8 K R H5 k m L c d b _ I5 l n M N) λ _ P ⟨H6,I6,O⟩=>⟨R,H6,I6,O⟩
def ipI(f:Int->Int->Int):TIp:=λ x y H Q=>∃ i j,x=.int i/\y=.int j/\Q (.int (f i j)) H
theorem qaV4:PIp X .Add (ipI λ i j=>i+j):=by
 intro D8 s R H x y v u Q I a b h;obtain⟨i,j,c,e2,q⟩:=h;subst c;subst e2;obtain⟨t,rfl⟩:=a;obtain⟨d,rfl⟩:=b;exact iadd_int ⟨.int _,H,I.tok _,⟨_,rfl⟩,q⟩
end
section
variable{X:Cx}{B:Pos}
def qaQ7(c:TT)(tb:TS):TS:=λ D z H=>∃ W:Nat->St->Hp->Prop,(∃ m,W m z H)/\∀ m z H,W m z H ->
 c z H λ b H1=>if b=true then ∃ N:St->Hp->Prop,(∀ z' H',N z' H'->∃ a,a < m/\W a z' H')/\tb { D with nx:=N,ct:=N,bk:=D.nx } z H1 else D.nx z H1
theorem qax5{c:Kl}{tc:TT}{tb:TS}(k:PassesOwn (Kh X.prog X.w) X.A X.env X.xe)(m:PT X c tc)(o:PSs X body tb):PS X (.While c body [] B) (qaQ7 tc tb):=by
 intro D8 s z H D I h;obtain⟨W,⟨p,q⟩,turn⟩:=h;refine wpAny_While (codeAny_whileLoop (λ n r=>∃ z' H',Inv X D8 z' H' r/\W n z' H') ?_ p ⟨z,H,I,q⟩);rintro n t ⟨σ1,H1,I1,u⟩;refine Kc k (thn (m D8 t σ1 H1 _ I1 (turn n σ1 H1 u)) λ b x d=>?_);obtain⟨H2,I2,q2⟩:=d;cases b with
 | true =>
   obtain⟨N,l,q2⟩:=q2;rw[if_pos rfl];refine Kc k (thn (o D8 x σ1 H2 _ I2 q2) λ f y a=>?_);cases f with
   | next =>
     obtain⟨σ3,H3,I3,e⟩:=a;obtain⟨g,i,j⟩:=l σ3 H3 e;exact⟨g,i,σ3,H3,I3,j⟩
   | cont =>
     obtain⟨σ3,H3,I3,e⟩:=a;obtain⟨g,i,j⟩:=l σ3 H3 e;exact⟨g,i,σ3,H3,I3,j⟩
   | brk=>exact a
   | ret v=>exact a
 | false =>
   rw[if_neg zAx];exact wpAny_execs_nil ⟨σ1,H2,I2,q2⟩
end
structure It where
 go:Nat->Hp->Prop
 yld:Nat->Hp->V->Hp->Prop
 stop:Nat->Hp->Prop
def Fn(X:Cx)(D8:List (γ×Obj))(H:Hp)(b:γ):Prop :=
 H b=none/\b≠X.env.locals/\b∉X.fs/\(b∈X.ex∨X.s₀.heap.objs.size<=b)/\(∀ x c,X.env.cells.lookup x=some c->c≠b)/\∀ p∈X.pn++D8,p.1≠b
theorem Inv.fpOk{X:Cx}{D8:List (γ×Obj)}{g:St}{H H':Hp}{s:Sh}{b:γ}(I:Inv X D8 g H s)(a:s.heap.objs.size<=b)(d:H' b=none):Fn X D8 H' b:=by
 refine⟨d,Nat.ne_of_gt (zAp I.lt a),I.nofs a,.inr (zAm I.sz a),λ x c e z=>?_,λ p f z=>?_⟩
 . obtain⟨v,q⟩:=I.cell x c e
   exact absurd (zAp q.lt (by rw[z];exact a)) (zBj _)
 exact absurd (zAp (zAd (I.pin p f).1) (by rw[z];exact a)) (zBj _)
structure Hy(P:Ki)(w:Kk)(K:Nf)(tg:Kl)(J:It)(fp:List γ)(it:γ)(tn:Nat->Heap->Prop):Prop where
 mem:it∈fp
 obj:∀ i h,tn i h->∀ b∈fp,∃ o,h.get? b=some o/\∀ v,o.data≠.cell v
 keep:∀ i h h',tn i h->(∀ b∈fp,∀ o,h.get? b=some o->h'.get? b=some o)->tn i h'
 item:∀(X:Cx),X.prog=P->X.w=w->X.K=K->X.calm=true->∀(i:Nat)(D8:List (γ×Obj))(s:Sh)(a:St)(H:Hp)(E:V'->Sh->Prop),Inv X D8 a H s->(∀ b∈fp,Fn X D8 H b)->tn i s.heap->J.go i H ->
   Kg (Kh P w) X.A (pyNext (.ref it)) (λ r s1=>∃ u,r=some u /\
     Kg (Kh P w) X.A (letOwnedTupleGo tg (.ref it) u) (λ _ s2=>∃ x H',Inv X D8 a H' s2/\N7 x u/\J.yld i H x H'/\tn (i+1) s2.heap/\∀ b∈fp,H' b=none) E s1) E s
 done:∀(X:Cx),X.prog=P->X.w=w->X.K=K->X.calm=true->∀(i:Nat)(D8:List (γ×Obj))(s:Sh)(a:St)(H:Hp)(E:V'->Sh->Prop),Inv X D8 a H s->(∀ b∈fp,Fn X D8 H b)->tn i s.heap->J.stop i H ->
   Kg (Kh P w) X.A (pyNext (.ref it)) (λ r s1=>r=none/\Inv X D8 a H s1) E s
 self:∀(A:Kj)(i:Nat)(s:Sh)(Q:V'->Sh->Prop)(E:V'->Sh->Prop),tn i s.heap->Q (.ref it) s->Kg (Kh P w) A (pyIter (.ref it)) Q E s
abbrev TI:=St->Hp->(It->Hp->Prop)->Prop
def PIE(X:Cx)(D8:List (γ×Obj))(c:St)(tg:Kl)(R:It->Hp->Prop)(a:V')(s2:Sh):Prop :=
 ∃(it:γ)(fp:List γ)(tn:Nat->Heap->Prop)(J:It)(H':Hp),a=.ref it/\Inv X D8 c H' s2/\Hy X.prog X.w X.K tg J fp it tn/\tn 0 s2.heap/\(∀ b∈fp,Fn X D8 H' b)/\R J H'
def PI(X:Cx)(tg iter:Kl)(wi:TI):Prop :=
 ∀(D8:List (γ×Obj))(s:Sh)(b:St)(H:Hp)(R:It->Hp->Prop),Inv X D8 b H s->wi b H R ->
   Kg (Kh X.prog X.w) X.A (eval iter X.env) (λ v a=>Kg (Kh X.prog X.w) X.A (pyIter v) (PIE X D8 b tg R) X.xe a) X.xe s
theorem go_of{A:Kj}{E:V'->Sh->Prop}{s:Sh}{tg:Kl}{it:γ}{u:V'}{o:Obj}{n:String}{vs:Array V'}{Q:Unit->Sh->Prop}(b:s.heap.get? it=some o)(c:o.cls=.type n)(d:o.data=.fields vs)(e:["enumerate", "zip", "dict_itemiterator", "dict_reverseitemiterator", "odict_iterator", "itertools.zip_longest", "itertools.pairwise"].contains n=false)(a:Q () s):Kg M A (letOwnedTupleGo tg (.ref it) u) Q E s:=by
 unfold letOwnedTupleGo;cases tg<;>first
   | exact Jr a
   | (cases u<;>first
       | exact Jr a
       | (refine G' (wpAny_load b ?_)
          rw[c,d];show Kg M A (if (["enumerate", "zip", "dict_itemiterator", "dict_reverseitemiterator", "odict_iterator", "itertools.zip_longest", "itertools.pairwise"].contains n&&vs[0]? == some (rawInt _))=true then _ else _) Q E s;rw[if_neg (by intro h;rw[e,Bool.false_and] at h;cases h)];exact Jr a))
noncomputable def Itl(K:Nf)(a:γ):It :=
 ⟨λ i H=>∃ xs x,SqL K H a xs/\xs[i]? = some x,λ i H x H'=>H'=H/\∀ xs,SqL K H a xs->xs[i]? = some x,λ i H=>∃ xs,SqL K H a xs/\xs.length<=i⟩
noncomputable def Itr(lo:Int)(n:Nat):It:=⟨λ i _=>i < n,λ i H x H'=>H'=H/\x=.int (lo+i),λ i _=>n<=i⟩
theorem qai0{P:Ki}{w:Kk}{K:Nf}{tg:Kl}(a it:γ):Hy P w K tg (Itl K a) [it] it (λ i h=>h.IsListIter it a i) where
 mem:=by simp
 obj:=λ i h f b g=>by
   have e:b=it:=by simpa using g
   subst e;obtain⟨o,e,c,d⟩:=f;exact⟨o,e,λ v z=>by rw[d] at z;cases z⟩
 keep:=λ i h l f k=>f.at λ o e=>k it (by simp) o e
 item:=by
   intro X q r t J i D8 s R H E I m f y;subst q r t;obtain⟨L,x,n,A⟩:=y;obtain⟨B,C,p,M⟩:=I.list n;obtain⟨u,N,O⟩:=C.get A;obtain⟨D,f1,f2,f3,F,G⟩:=m it (by simp);refine wpAny_pyNext_list_item f p.isList (x:=u) (by simpa using N) λ l j Q=>?_
   have I1:Inv X D8 R H { s with heap:=l }:=I.turned (t':=s.toks) (λ b o g e=>(Q.2 b g).trans e) D f1 f3 F G;obtain⟨o,e,c,d⟩:=id j;exact⟨u,rfl,go_of (s:={ s with heap:=l }) e c d (by decide) ⟨x,H,I1,O,⟨rfl,λ U S=>by rw[I.list_inj S n];exact A⟩,j,λ b g=>(m b g).1⟩⟩
 done:=by
   intro X q r t J i D8 s R H E I m f y;subst q r t;obtain⟨L,n,A⟩:=y;obtain⟨B,C,p,M⟩:=I.list n;obtain⟨D,f1,f2,f3,F,G⟩:=m it (by simp);have V:=C.length;exact wpAny_pyNext_list_end (I.ok.hd J) f p.isList (by simp;lia) λ l T=>⟨rfl,I.turned (t':=s.toks) (λ b o g e=>T b o g e) D f1 f3 F G⟩
 self:=λ _ _ _ _ _ f h=>wpAny_pyIter_listiter f h
theorem qW6{P:Ki}{w:Kk}{K:Nf}{tg:Kl}(it:γ)(lo:Int)(n:Nat):Hy P w K tg (Itr lo n) [it] it (λ i h=>IsRangeIter h it (lo+(i:Nat) * 1) ((n:Int) - (i:Nat)) 1) where
 mem:=by simp
 obj:=λ i h a b c=>by
   have e:b=it:=by simpa using c
   subst e;exact⟨_,a,λ v z=>by
     have A:Data.fields _=Data.cell v:=z;cases A⟩
 keep:=λ i h f a k=>k it (by simp) _ a
 item:=by
   intro X j l m p i D8 s F H E I g a q;subst j l m;obtain⟨r,f1,f2,f3,u,x⟩:=g it (by simp);have W:=Walks.range (prog:=X.prog) (w:=X.w) (I.ok.hd p) it lo 1 n;refine W.item i s _ _ q a λ v f y B d C=>?_
   obtain⟨t,rfl⟩:=B;have I1:Inv X D8 F H { s with heap:=f,toks:=y }:=I.turned (λ b o c e=>C b o (by simpa using c) e) r f1 f3 u x;refine⟨_,rfl,go_of (s:={ s with heap:=f,toks:=y }) (n := "range_iterator") d rfl rfl (by decide) ⟨.int (lo+i),H,I1,⟨t,?_⟩,⟨rfl,rfl⟩,d,λ b c=>(g b c).1⟩⟩;rw[Int.mul_one]
 done:=by
   intro X j l m p i D8 s F H E I g a q;subst j l m;obtain⟨r,f1,f2,f3,u,x⟩:=g it (by simp);exact wpAny_pyNext_range_end (I.ok.hd p) a (by have:n<=i:=q;lia) λ f D=>⟨rfl,I.turned (t':=s.toks) (λ b o c e=>D b o c e) r f1 f3 u x⟩
 self:=λ _ _ _ _ _ a h=>wpAny_pyIter_rangeiter a h
section
variable{X:Cx}{tg:Kl}
def Gy(K:Nf)(tl:TE):TI:=λ σ H R=>tl σ H λ x H1=>∃ a,x=.ref a/\(∃ xs,SqL K H1 a xs)/\R (Itl K a) H1
theorem qv9{l:Kl}{tl:TE}(f:PE X l tl):PI X tg l (Gy X.K tl):=by
 intro D8 s σ H R I h;refine thn (f D8 s σ H _ I h) λ v c d=>?_
 obtain⟨x,H1,I1,g,i⟩:=d;obtain⟨a,e,⟨n,j⟩,q⟩:=i;subst e;cases g;obtain⟨k,r,p,t⟩:=I1.list j;refine wpAny_pyIter_list p.isList ?_;refine⟨c.heap.objs.size,[c.heap.objs.size],_,_,H1,rfl,I1.kept (t':=c.toks) λ b o e=>zA2 _ e,qai0 a _,⟨_,zAs _ rfl,rfl,rfl⟩,λ b m=>?_,q⟩;have e:b=c.heap.objs.size:=by simpa using m
 subst e;exact I1.fpOk (zA4 _) (I1.hok.fresh (zA4 _))
theorem qax4{D8:List (γ×Obj)}{σ:St}{H:Hp}{s:Sh}{R:It->Hp->Prop}{E:V'->Sh->Prop}{lo hi:Int}{t u v:Tok}{a:Nat}(I:Inv X D8 σ H s)(h1:-(2 ^ 62)<=lo)(h2:lo < 2 ^ 62)(c:-(2 ^ 62)<=hi)(d:hi < 2 ^ 62)(q:R (Itr lo (hi - lo).toNat) H):Kg (Kh X.prog X.w) X.A (pyIter (.ref s.heap.objs.size)) (PIE X D8 σ tg R) E { s with heap:=s.heap.push { cls:=.type "range",data:=.fields #[.int lo t,.int hi u,.int 1 v] },toks:=a }:=by
 refine wpAny_pyIter_range (IsRange.new ..) (small_one h1 h2 c d) ?_;have I1:Inv X D8 σ H { s with heap:=s.heap.push { cls:=.type "range",data:=.fields #[.int lo t,.int hi u,.int 1 v] },toks:=a }:=I.kept λ b o e=>zA2 _ e
 refine⟨(s.heap.push { cls:=.type "range",data:=.fields #[.int lo t,.int hi u,.int 1 v] }).objs.size,[(s.heap.push { cls:=.type "range",data:=.fields #[.int lo t,.int hi u,.int 1 v] }).objs.size],_,_,H,rfl,
   I1.kept (t':=a) λ b o e=>zA2 _ e,qW6 _ lo (hi - lo).toNat,?_,λ b f=>?_,q⟩
 . have g:lo+((0:Nat):Int) * 1=lo:=by simp
   have e2:(((hi - lo).toNat:Nat):Int) - ((0:Nat):Int)=Builtin.Range.rangeSize lo hi 1:=by rw[rangeSize_one];split<;>lia
   show IsRangeIter _ _ (lo+((0:Nat):Int) * 1) ((((hi - lo).toNat:Nat):Int) - ((0:Nat):Int)) 1;rw[g,e2];exact zAs _ rfl
 have e:b=(s.heap.push { cls:=.type "range",data:=.fields #[.int lo t,.int hi u,.int 1 v] }).objs.size:=by simpa using f
 subst e;exact I1.fpOk (zA4 _) (I1.hok.fresh (zA4 _))
def iRng1(ta:TA):TI:=λ σ H R=>ta σ H λ vs H1=>∃ j:Int,vs=[.int j]/\-(2 ^ 62)<=j/\j < 2 ^ 62/\R (Itr 0 j.toNat) H1
theorem qD3{a:Kl}{ta:TA}{p pos:Pos}(d:Gl X "range")(hm:X.mg "range" = none)(f:PA X [a] ta)(hs:Js [a] X.env=[(false,eval a X.env)]:=by rfl):PI X tg (.Call (.Name "range" p) [a] [] pos) (iRng1 ta):=by
 intro D8 s σ H R I h;refine Call_ (qV8 I d hm boot_range (PyProof.Rows.callWith_type1 (thn (f pos D8 s σ H _ I h) λ k l b=>?_) hs rfl));obtain⟨m,H1,I1,g,c⟩:=b;obtain⟨j,e,c,q2,q⟩:=c;subst e;cases g with
 | cons r i =>
   cases i;obtain⟨t,rfl⟩:=r;exact call_range_1 (qax4 I1 (by lia) (by lia) c q2 (by simpa using q))
def tFor(wi:TI)(g:TG)(tb:TS):TS:=λ D σ H=>wi σ H λ J H1=>∃ W:Nat->Nat->St->Hp->Prop,(∃ m,W 0 m σ H1)/\∀ i m σ H,W i m σ H ->
 (J.stop i H/\D.nx σ H)∨(J.go i H/\∃ N:St->Hp->Prop,(∀ σ' H',N σ' H'->∃ a,a < m/\W (i+1) a σ' H')/\∀ x H',J.yld i H x H'->g x σ H' λ σ2 H2=>tb { D with nx:=N,ct:=N,bk:=D.nx } σ2 H2)
noncomputable def qZ8(fp:List γ)(h:Heap):List (γ×Obj):=fp.filterMap λ b=>(h.get? b).map λ o=>(b,o)
theorem qo9{h:Heap}{b:γ}{o:Obj}(a:b∈fp)(e:h.get? b=some o):(b,o)∈qZ8 fp h:=zCa.mpr ⟨b,a,by rw[e];rfl⟩
theorem qak9{h:Heap}{p:γ×Obj}(a:p∈qZ8 fp h):p.1∈fp/\h.get? p.1=some p.2:=by
 obtain⟨b,c,e⟩:=zCa.mp a;cases q:h.get? b with
 | none=>rw[q] at e;cases e
 | some o =>
   rw[q] at e;have d:(b,o)=p:=Nc e;subst d;exact⟨c,q⟩
theorem Inv.pinned{D8:List (γ×Obj)}{σ:St}{H:Hp}{s:Sh}(I:Inv X D8 σ H s)(f:∀ b∈fp,Fn X D8 H b)(g:∀ b∈fp,∃ o,s.heap.get? b=some o/\∀ v,o.data≠.cell v):Inv X (D8++qZ8 fp s.heap) σ H s :=
 I.pins_of λ p h=>(zAj.mp h).elim (λ z=>I.pin p (zB7 _ z)) λ z=>by
   obtain⟨a,e⟩:=qak9 z;obtain⟨i,f1,f2,_⟩:=f p.1 a;obtain⟨o,c,d⟩:=g p.1 a;rw[e] at c;cases c;exact⟨e,i,f1,f2,d⟩
theorem Inv.unpinned{D8 pl:List (γ×Obj)}{σ:St}{H:Hp}{s:Sh}(I:Inv X (D8++pl) σ H s):Inv X D8 σ H s:=I.pins_of λ p a=>I.pin p (zB7 _ (L7 _ a))
theorem qax6{iter:Kl}{wi:TI}{g:TG}{tb:TS}{pos:Pos}(l:PassesOwn (Kh X.prog X.w) X.A X.env X.xe)(F:X.calm=true)(hi:PI X tg iter wi)(O:PG X tg g)(c:PSs X body tb)(hs:∀ x,Jv iter X.env x=pure x:=by intro _;rfl):PS X (.For tg iter body [] pos) (tFor wi g tb):=by
 intro D8 s σ H D I h;refine wpAny_For (thn (hi D8 s σ H _ I h) λ v s1 P=>thn P λ Q s2 R=>?_) hs;obtain⟨it,p,G,J,H2,e,I2,T,z,f2,W,⟨S,U⟩,turn⟩:=R;subst e;have stat:∀{H':Hp},(∀ b∈p,H' b=none)->∀ b∈p,Fn X D8 H' b:=λ V b c=>⟨V b c,(f2 b c).2⟩
 refine codeAny_forLoop_any (λ n K=>∃ i σ' H',Inv X D8 σ' H' K/\G i K.heap/\(∀ b∈p,H' b=none)/\W i n σ' H') ?_ S ⟨0,σ,H2,I2,z,λ b c=>(f2 b c).1,U⟩;rintro n L ⟨i,σ3,H3,I3,q,t,Y⟩;rcases turn i n σ3 H3 Y with⟨stop,qn⟩ | ⟨go,N,hN,step⟩
 . refine Kc l (thn (T.done X rfl rfl rfl F i D8 L σ3 H3 X.xe I3 (stat t) q stop) λ r Z a=>?_)
   obtain⟨B,I4⟩:=a;subst B;exact wpAny_execs_nil ⟨σ3,H3,I4,qn⟩
 refine Kc l (thn (T.item X rfl rfl rfl F i D8 L σ3 H3 X.xe I3 (stat t) q go) λ r Z a=>?_);obtain⟨u,B,h4⟩:=a;subst B;refine Kc l (thn h4 λ _ M a=>?_);obtain⟨x,H5,I5,r5,y5,k,C⟩:=a;have I5':=I5.pinned (stat C) (T.obj _ _ k);refine Kc l (thn (O _ M σ3 H5 x u _ I5' r5 (step x H5 y5)) λ _ s6 a=>?_);obtain⟨σ6,H6,I6,q6⟩:=a;refine Kc l (thn (c _ s6 σ6 H6 _ I6 q6) λ f E j=>?_);have again:∀{σ7:St}{H7:Hp},Inv X (D8++qZ8 p M.heap) σ7 H7 E->N σ7 H7->∃ m,m < n/\∃ i σ' H',Inv X D8 σ' H' E/\G i E.heap/\(∀ b∈p,H' b=none)/\W i m σ' H':=λ{σ7 H7} I7 y=>by
   obtain⟨m',hm,w7⟩:=hN σ7 H7 y;refine⟨m',hm,i+1,σ7,H7,I7.unpinned,T.keep _ _ _ k λ b c o e=>(I7.pin (b,o) (zB7 _ (zB7 _ (qo9 c e)))).1,λ b c=>?_,w7⟩;obtain⟨o,e,d⟩:=T.obj _ _ k b c;exact(I7.pin (b,o) (zB7 _ (zB7 _ (qo9 c e)))).2.1
 cases f with
 | next=>obtain⟨σ7,H7,I7,y⟩:=j;exact again I7 y
 | cont=>obtain⟨σ7,H7,I7,y⟩:=j;exact again I7 y
 | brk=>obtain⟨σ7,H7,I7,j⟩:=j;exact⟨σ7,H7,I7.unpinned,j⟩
 | ret v=>obtain⟨x7,σ7,H7,I7,r7,j⟩:=j;exact⟨x7,σ7,H7,I7.unpinned,r7,j⟩
end
theorem qae6{K:Nf}{a:γ}{xs:List V}{g:TG}{tb:TS}{D:D9}{l:St}{H:Hp}(Pv:Nat->St->Hp->Prop)(d:Pv 0 l H)(f:∀ i l H,i<=xs.length->Pv i l H->SqL K H a xs)(hs:∀ i x l H,xs[i]? = some x->Pv i l H->g x l H λ σ2 H2=>tb { D with nx:=Pv (i+1),ct:=Pv (i+1),bk:=D.nx } σ2 H2)(h:∀ l H,Pv xs.length l H->D.nx l H) :
   ∃ W:Nat->Nat->St->Hp->Prop,(∃ m,W 0 m l H)/\∀ i m l H,W i m l H ->
     ((Itl K a).stop i H/\D.nx l H)∨((Itl K a).go i H/\∃ N:St->Hp->Prop,(∀ l' H',N l' H'->∃ c,c < m/\W (i+1) c l' H')/\∀ x H',(Itl K a).yld i H x H'->g x l H' λ σ2 H2=>tb { D with nx:=N,ct:=N,bk:=D.nx } σ2 H2):=by
 refine⟨λ i m l H=>m=xs.length - i/\i<=xs.length/\Pv i l H,⟨xs.length,by simp,zBi _,d⟩,?_⟩;rintro i m l H ⟨rfl,j,p⟩;have q:=f i l H j p;by_cases b:i < xs.length
 . refine .inr ⟨⟨xs,xs[i],q,by simp[b]⟩,Pv (i+1),λ l' H' k=>⟨xs.length - (i+1),by lia,rfl,b,k⟩,λ x H' y=>?_⟩
   obtain⟨e,y⟩:=y;subst e;exact hs i x l _ (y xs q) p
 have e:i=xs.length:=by lia
 subst e;exact .inl ⟨⟨xs,q,zA4 _⟩,h l H p⟩
theorem qan1{lo:Int}{g:TG}{tb:TS}{D:D9}{j:St}{H:Hp}(Pv:Nat->St->Hp->Prop)(c:Pv 0 j H)(hs:∀ i j H,i < n->Pv i j H->g (.int (lo+i)) j H λ σ2 H2=>tb { D with nx:=Pv (i+1),ct:=Pv (i+1),bk:=D.nx } σ2 H2)(d:∀ j H,Pv n j H->D.nx j H) :
   ∃ W:Nat->Nat->St->Hp->Prop,(∃ m,W 0 m j H)/\∀ i m j H,W i m j H ->
     ((Itr lo n).stop i H/\D.nx j H)∨((Itr lo n).go i H/\∃ N:St->Hp->Prop,(∀ j' H',N j' H'->∃ b,b < m/\W (i+1) b j' H')/\∀ x H',(Itr lo n).yld i H x H'->g x j H' λ σ2 H2=>tb { D with nx:=N,ct:=N,bk:=D.nx } σ2 H2):=by
 refine⟨λ i m j H=>m=n - i/\i<=n/\Pv i j H,⟨n,by simp,zBi _,c⟩,?_⟩;rintro i m j H ⟨rfl,h,p⟩;by_cases a:i < n
 . refine .inr ⟨a,Pv (i+1),λ j' H' f=>⟨n - (i+1),by lia,rfl,a,f⟩,λ x H' y=>?_⟩
   obtain⟨e,y⟩:=y;subst e y;exact hs i j _ a p
 have e:i=n:=by lia
 subst e;exact .inl ⟨zA4 _,d j H p⟩
abbrev R2:=V->V->Hp->VK->Prop
def OpR(X:Cx)(f:V'->V'->Sem V')(r:R2):Prop :=
 ∀(D8:List (γ×Obj))(s:Sh)(a:St)(H:Hp)(x y:V)(v u:V')(Q:VK),Inv X D8 a H s->N7 x v->N7 y u->r x y H Q ->
   Kg (Kh X.prog X.w) X.A (f v u) (EP X D8 a Q) X.xe s
def UnR(X:Cx)(f:V'->Sem V')(r:V->Hp->VK->Prop):Prop :=
 ∀(D8:List (γ×Obj))(s:Sh)(a:St)(H:Hp)(x:V)(v:V')(Q:VK),Inv X D8 a H s->N7 x v->r x H Q ->
   Kg (Kh X.prog X.w) X.A (f v) (EP X D8 a Q) X.xe s
def CallR(X:Cx)(f:V')(r:List V->Hp->VK->Prop):Prop :=
 ∀(D8:List (γ×Obj))(s:Sh)(a:St)(H:Hp)(xs:List V)(us:List V')(Q:VK),Inv X D8 a H s->N8 xs us->r xs H Q ->
   Kg (Kh X.prog X.w) X.A (call f us) (EP X D8 a Q) X.xe s
def tOp(r:R2)(ta tb:TE):TE:=λ a H Q=>ta a H λ x H1=>tb a H1 λ y H2=>r x y H2 Q
def tUn(r:V->Hp->VK->Prop)(ta:TE):TE:=λ a H Q=>ta a H λ x H1=>r x H1 Q
def rI(C:Int->Int->Prop)(g:Int->Int->V):R2:=λ x y H Q=>∃ i j,x=.int i/\y=.int j/\C i j/\Q (g i j) H
def rI0(g:Int->Int->V):R2:=λ x y H Q=>∃ i j,x=.int i/\y=.int j/\Q (g i j) H
def rU(g:Int->V):V->Hp->VK->Prop:=λ x H Q=>∃ i,x=.int i/\Q (g i) H
section
variable{X:Cx}{a b:Kl}{n p:TE}{o:Pos}
theorem binT(d:PE X a n)(e:PE X b p){D8:List (γ×Obj)}{s:Sh}{m:St}{H:Hp}{R:V->V->Hp->Prop}(I:Inv X D8 m H s)(h:n m H λ x H1=>p m H1 λ y H2=>R x y H2){Q:V'->Sh->Prop}{f:V'->V'->Sem V'}(g:∀ v u s2 x y H2,Inv X D8 m H2 s2->N7 x v->N7 y u->R x y H2->Kg (Kh X.prog X.w) X.A (f v u) Q X.xe s2) :
   Kg (Kh X.prog X.w) X.A (eval a X.env) (λ v s₁=>Kg (Kh X.prog X.w) X.A (eval b X.env) (λ u s₂=>Kg (Kh X.prog X.w) X.A (f v u) Q X.xe s₂) X.xe s₁) X.xe s:=by
 refine thn (d D8 s m H _ I h) λ v i c=>?_
 obtain⟨x,H1,I1,j,k⟩:=c;refine thn (e D8 i m H1 _ I1 k) λ u s2 c=>?_
 obtain⟨y,H2,I2,l,q2⟩:=c;exact g v u s2 x y H2 I2 j l q2
theorem pe_op{op:Operator}{r:R2}(c:OpR X (Kf op) r)(d:PE X a n)(e:PE X b p):PE X (.BinOp a op b o) (tOp r n p):=by
 intro D8 s m H Q I h;exact wpAny_BinOp (binT d e I h λ v u f x y H2 I2 g i q=>c D8 f m H2 x y v u Q I2 g i q)
theorem pe_un{op:UnaryOp}{r:V->Hp->VK->Prop}(b:UnR X (unaryOp op) r)(c:PE X a n):PE X (.UnaryOp op a o) (tUn r n):=by
 intro D8 s m H Q I h;exact UnaryOp_ (thn (c D8 s m H _ I h) λ v d ⟨x,H1,I1,e,f⟩=>b D8 d m H1 x v Q I1 e f)
theorem opI{f:V'->V'->Sem V'}{C:Int->Int->Prop}{g:Int->Int->Int}(rule:∀(i j:Int)(t u:Tok)(s:Sh)(Q:V'->Sh->Prop)(E:V'->Sh->Prop),C i j->Q (.int (g i j) s.toks) { s with toks:=s.toks+1 }->Kg (Kh X.prog X.w) X.A (f (.int i t) (.int j u)) Q E s) :
   OpR X f (rI C λ i j=>.int (g i j)):=by
 intro D8 s m H x y v u Q I a b h;obtain⟨i,j,rfl,rfl,c,q⟩:=h;obtain⟨t,rfl⟩:=a;obtain⟨d,rfl⟩:=b;exact rule i j t d s _ _ c ⟨.int (g i j),H,I.tok _,⟨_,rfl⟩,q⟩
theorem opI0{f:V'->V'->Sem V'}{g:Int->Int->Int}(rule:∀(i j:Int)(t u:Tok)(s:Sh)(Q:V'->Sh->Prop)(E:V'->Sh->Prop),Q (.int (g i j) s.toks) { s with toks:=s.toks+1 }->Kg (Kh X.prog X.w) X.A (f (.int i t) (.int j u)) Q E s) :
   OpR X f (rI0 λ i j=>.int (g i j)):=by
 intro D8 s m H x y v u Q I a b h;obtain⟨i,j,rfl,rfl,q⟩:=h;obtain⟨t,rfl⟩:=a;obtain⟨c,rfl⟩:=b;exact rule i j t c s _ _ ⟨.int (g i j),H,I.tok _,⟨_,rfl⟩,q⟩
theorem opB0{f:V'->V'->Sem V'}{g:Int->Int->Bool}(rule:∀(i j:Int)(t u:Tok)(s:Sh)(Q:V'->Sh->Prop)(E:V'->Sh->Prop),Q (.bool (g i j)) s->Kg (Kh X.prog X.w) X.A (f (.int i t) (.int j u)) Q E s) :
   OpR X f (rI0 λ i j=>.bl (g i j)):=by
 intro D8 s m H x y v u Q I a b h;obtain⟨i,j,rfl,rfl,q⟩:=h;obtain⟨t,rfl⟩:=a;obtain⟨c,rfl⟩:=b;exact rule i j t c s _ _ ⟨.bl (g i j),H,I,rfl,q⟩
def CPow(i j:Int):Prop:=0<=j/\j<=1000000/\i.natAbs < 2 ^ 64
def CMul(i j:Int):Prop:=(-(2 ^ 64) < i/\i < 2 ^ 64)∨(-(2 ^ 64) < j/\j < 2 ^ 64)
theorem CMul.ok{i j:Int}(h:CMul i j):IntMulOk i j:=by
 rcases h with⟨h1,h2⟩ | ⟨h1,h2⟩
 . exact .of_left (intBits_le_64 h1 h2)
 exact .of_right (intBits_le_64 h1 h2)
theorem qaT7:OpR X (Kf .Add) (rI0 λ i j=>.int (i+j)):=opI0 λ _ _ _ _ _ _ _ q=>add_int q
theorem qr4:OpR X (Kf .Sub) (rI0 λ i j=>.int (i - j)):=opI0 λ _ _ _ _ _ _ _ q=>sub_int q
theorem qaT2:OpR X (Kf .Mult) (rI CMul λ i j=>.int (i * j)):=opI λ _ _ _ _ _ _ _ a q=>mul_int q a.ok
theorem qj5:OpR X (Kf .Mod) (rI (λ _ j=>0 < j) λ i j=>.int (i % j)):=opI λ i j _ _ _ _ _ a q=>by
 have b:(0:Int) < j:=a;exact mod_int' (by lia) (by rw[Int.fmod_eq_emod_of_nonneg i (by lia)];exact q)
theorem qaT0:OpR X (Kf .Pow) (rI CPow λ i j=>.int (i ^ j.toNat)):=opI λ _ _ _ _ _ _ _ a q=>pow_int_small a.1 a.2.1 a.2.2 q
theorem unI{f:V'->Sem V'}{g:Int->Int}(rule:∀(i:Int)(t:Tok)(s:Sh)(Q:V'->Sh->Prop)(E:V'->Sh->Prop),Q (.int (g i) s.toks) { s with toks:=s.toks+1 }->Kg (Kh X.prog X.w) X.A (f (.int i t)) Q E s) :
   UnR X f (rU λ i=>.int (g i)):=by
 intro D8 s m H x v Q I a h;obtain⟨i,rfl,q⟩:=h;obtain⟨t,rfl⟩:=a;exact rule i t s _ _ ⟨.int (g i),H,I.tok _,⟨_,rfl⟩,q⟩
theorem qaE9:UnR X (unaryOp .USub) (rU λ i=>.int (-i)):=unI λ _ _ _ _ _ q=>neg_int q
end
section
variable{X:Cx}{a b c:Kl}{L M O:TE}{N:Pos}
theorem qaO2{D8:List (γ×Obj)}{K:St}{H:Hp}{s:Sh}{Q:VK}{k a:Bool}(I:Inv X D8 K H s)(q:Q (.bl k) H)(e:k=a):EP X D8 K Q (.bool a) s:=by
 subst e;exact⟨.bl k,H,I,rfl,q⟩
theorem Du:OpR X (Ju .Lt) (rI0 λ i j=>.bl (decide (i < j))):=opB0 λ _ _ _ _ _ _ _ q=>lt_int q
theorem Gz:OpR X (Ju .LtE) (rI0 λ i j=>.bl (decide (i<=j))):=opB0 λ _ _ _ _ _ _ _ q=>le_int q
theorem Bp:OpR X (Ju .Gt) (rI0 λ i j=>.bl (decide (j < i))):=opB0 λ _ _ _ _ _ _ _ q=>gt_int q
theorem G0:OpR X (Ju .GtE) (rI0 λ i j=>.bl (decide (j<=i))):=opB0 λ _ _ _ _ _ _ _ q=>ge_int q
theorem qaT3:OpR X (Ju .Is) (λ x y H Q=>y=.non/\Q (.bl (decide (x=.non))) H):=by
 intro D8 s K H x y v u Q I a b h;obtain⟨rfl,q⟩:=h;cases b;refine is_none_gen (qaO2 I q ?_);cases x<;>first
   | (cases a;rfl)
   | (obtain⟨t,rfl⟩:=a;rfl)
theorem qaJ7:OpR X (Ju .IsNot) (λ x y H Q=>y=.non/\Q (.bl (!decide (x=.non))) H):=by
 intro D8 s K H x y v u Q I a b h;obtain⟨rfl,q⟩:=h;cases b;refine isnot_none_gen (qaO2 I q ?_);cases x<;>first
   | (cases a;rfl)
   | (obtain⟨t,rfl⟩:=a;rfl)
theorem OpR.or{f:V'->V'->Sem V'}{r a:R2}(h:OpR X f r)(h':OpR X f a):OpR X f (λ x y H Q=>r x y H Q∨a x y H Q):=by
 intro D8 s K H x y v u Q I b c q;rcases q with q | q
 . exact h D8 s K H x y v u Q I b c q
 exact h' D8 s K H x y v u Q I b c q
theorem qa8(b:Kl)(h:op≠.In:=by decide)(h2:op≠.NotIn:=by decide):behindInMarks op b=false:=by
 have a:(op == CmpOp.In)=false:=by cases op<;>first | rfl | exact absurd rfl h
 have e2:(op == CmpOp.NotIn)=false:=by cases op<;>first | rfl | exact absurd rfl h2
 cases b<;>simp[behindInMarks,a,e2]
theorem qaI9{r:R2}(c:OpR X (Ju op) r)(d:PE X a L)(e:PE X b M)(hm:behindInMarks op b=false):PE X (.Compare a [op] [b] N) (tOp r L M):=by
 intro D8 s K H Q I h;exact wpAny_Compare1 (binT d e I h λ v u f x y H2 I2 g i q=>c D8 f K H2 x y v u Q I2 g i q) hm
def tTest(t:TE):TT:=λ K H Q=>t K H λ x H'=>∃ k,x=.bl k/\Q k H'
theorem qaH3{r:R2}(d:OpR X (Ju op) r)(f:PE X a L)(g:PE X b M)(hm:behindInMarks op b=false):PT X (.Compare a [op] [b] N) (tTest (tOp r L M)):=by
 intro D8 s K H Q I h;refine wpAny_isTrue_Compare1 (thn (f D8 s K H _ I h) λ v i ⟨x,H1,I1,j,l⟩=>thn (g D8 i K H1 _ I1 l) λ u m ⟨y,H2,I2,n,q2⟩ =>
   thn (d D8 m K H2 x y v u _ I2 j n q2) λ c q ⟨z,H3,I3,o,k,e,p⟩=>?_) hm
 subst e;cases o;exact Jy ⟨H3,I3,p⟩
def qaF4(r a:R2)(L M O:TE):TE:=λ K H Q=>L K H λ x H1=>M K H1 λ y H2=>r x y H2 λ z H3=>∃ k,z=.bl k /\
 (if k=true then O K H3 λ b H4=>a y b H4 Q else Q (.bl false) H3)
theorem qay7{f:CmpOp}{r i:R2}(m:OpR X (Ju op) r)(g:OpR X (Ju f) i)(n:PE X a L)(o:PE X b M)(p:PE X c O)(hm:lastMarks [op,f] [b,c]=false:=by with_unfolding_all rfl):PE X (.Compare a [op,f] [b,c] N) (qaF4 r i L M O):=by
 intro D8 s K H Q I h;refine Compare_chain (thn (n D8 s K H _ I h) λ v q ⟨x,H1,I1,t,w⟩=>chain_link (thn (o D8 q K H1 _ I1 w) λ u A ⟨y,H2,I2,j,q2⟩ =>
   thn (m D8 A K H2 x y v u _ I2 t j q2) λ d B ⟨z,H3,I3,C,k,e,l⟩=>?_)) hm
 subst e;cases C;refine Jy ?_;cases k with
 | false=>exact ite_ff ⟨.bl false,H3,I3,rfl,l⟩
 | true=>exact ite_tt (chain_last (thn (p D8 B K H3 _ I3 l) λ D E ⟨F,H4,I4,G,J⟩=>g D8 E K H4 y F u D Q I4 j G J))
theorem qM4:(Jt:Nat) < 2 ^ 63:=by rw[J0];decide
theorem qaa3:OpR X (Kf .Add) (λ x y H Q=>∃ i j,x=.str i/\y=.str j/\i.length+j.length<=Jt/\Q (.str (i++j)) H):=by
 intro D8 s K H x y v u Q I a b h;obtain⟨i,j,rfl,rfl,c,q⟩:=h;obtain⟨t,rfl⟩:=a;obtain⟨d,rfl⟩:=b;exact add_str (λ d e=>⟨.str (i++j),H,I.tok _,⟨_,rfl⟩,q⟩) c
theorem Bf{x:V}(r:N8 [x] us):∃ u,us=[u]/\N7 x u:=by
 cases r with
 | cons a b=>cases b;exact⟨_,rfl,a⟩
theorem vals2{x y:V}(r:N8 [x,y] us):∃ u a,us=[u,a]/\N7 x u/\N7 y a:=by
 cases r with
 | cons b c =>
   cases c with
   | cons d e=>cases e;exact⟨_,_,rfl,b,d⟩
theorem qaD7:CallR X (.builtin "abs") (λ xs H Q=>∃ i,xs=[.int i]/\Q (.int (if i < 0 then -i else i)) H):=by
 intro D8 s K H xs a Q I r h;obtain⟨i,rfl,q⟩:=h;obtain⟨u,rfl,t,rfl⟩:=Bf r;exact call_abs_int λ u b=>⟨.int (if i < 0 then -i else i),H,I.tok _,⟨_,rfl⟩,q⟩
theorem qS5:CallR X (.type "int") (λ xs H Q=>(∃ i,xs=[.int i]/\Q (.int i) H)∨∃ k,xs=[.bl k]/\Q (.int (if k then 1 else 0)) H):=by
 intro D8 s K H xs b Q I r h;rcases h with⟨i,rfl,q⟩ | ⟨k,rfl,q⟩
 . obtain⟨u,rfl,t,rfl⟩:=Bf r
   exact call_int_int ⟨.int i,H,I,⟨_,rfl⟩,q⟩
 obtain⟨u,rfl,a⟩:=Bf r;cases a;exact call_int_bool ⟨.int (if k then 1 else 0),H,I.tok _,⟨_,rfl⟩,q⟩
end
structure ObjM(h:Heap)(x dx C:γ)(mA:Str->Option V'):Prop where
 obj:h.get? x=some (W.instObj C dx)
 ns:h.Ns1 dx mA
 ne:dx≠x
theorem qal7{h:Heap}{dx:γ}{mA:Str->Option V'}(n:h.Ns1 dx mA):∃ c,h.get? dx=some c/\∀ name,W.lookIn name c=some (mA name):=by
 obtain⟨o,d,m,f,g,i,_,j⟩:=n;refine⟨o,f,λ name=>?_⟩;have e:=j name;unfold nsFind findBy at e;rw[<- Array.find?_toList] at e;unfold W.lookIn;rw[g];dsimp only;split
 . rename_i y q
   rw[q] at e;exact congrArg some e
 rename_i q
 rw[q] at e;have a:d.toList.any (·.refKey)=false:=by
   rw[List.any_eq_false];intro y k;obtain⟨z,t,b⟩:=i y (Array.mem_toList_iff.mp k);simp[DictEntry.refKey,b]
 have l:¬ d.toList.any (·.refKey)=true:=by rw[a];exact zAx
 rw[if_neg l];exact congrArg some e
theorem ObjM.look{h:Heap}{x dx C:γ}{mA:Str->Option V'}(I:ObjM h x dx C mA):∃ a,W.InstAt h x (W.instObj C dx) C (some a)/\∀ name,W.lookIn name a=some (mA name) :=
 let ⟨a,ho,hl⟩:=qal7 I.ns
 ⟨a,⟨I.obj,rfl,rfl,ho⟩,hl⟩
section
variable{prog:Ki}{w:Kk}{A:Kj}{E:V'->Sh->Prop}{s:Sh}{K:Nf}{x D C f:γ}{F:Str->Option V'}{name:Str}{v:V'}
theorem qaN4{expr:Bool}{Q:V'->Sh->Prop}(X:K.In s.heap)(I:ObjM s.heap x D C F)(b:W.plainGet K C name=true)(c:W.hasDictIn K C=true)(d:W.findIn K (.ref C) name=some none)(e:F name=some v)(a:W.handedIn v=true)(h:Q v { s with toks:=s.toks+1 }) :
   Kg (Kh prog w) A (getAttr (.ref x) name expr) Q E s:=by
 obtain⟨g,J,f⟩:=I.look;exact W.get_value X J (W.plainGet_of b).1 (W.findObj_own c d rfl (by rw[f,e])) a h
theorem qaB6{Q:V'×List V'->Sh->Prop}(X:K.In s.heap)(I:ObjM s.heap x D C F)(a:W.plainGet K C name=true)(b:W.findIn K (.ref C) name=some (some (.ref f)))(c:W.isFn K (.ref f)=true)(d:F name=none)(h:Q (.ref f,[.ref x]) s) :
   Kg (Kh prog w) A (getMethod (.ref x) name pl) Q E s:=by
 obtain⟨e,J,g⟩:=I.look;exact W.method_fn X J (W.plainGet_of a).1 (W.plainGet_of a).2 b (zBx.mp c) (by show (W.lookIn name e).map (·.isSome)=some false;rw[g,d];rfl) h
theorem qaG3{ns:List Str}{Q:Unit->Sh->Prop}(X:K.In s.heap)(I:ObjM s.heap x D C F)(hs:W.findIn K (.ref C) "__setattr__" = some (some (.builtin "object.__setattr__")))(j:W.plainOver K C=true)(k:W.takerIn K C name=some none)(l:W.hasDictIn K C=true)(m:PySem.Within F ns)(hsz:ns.length<=Jt)(h:∀ h',ObjM h' x D C (λ y=>if y=name then some v else F y)->Heap.SameBut D s.heap h'->Q () { s with heap:=h',toks:=s.toks+2 }) :
   Kg (Kh prog w) A (setAttr (.ref x) name v) Q E s:=by
 obtain⟨t,J,u⟩:=I.look;refine W.set_plain X J hs (W.osa_open (s:={ s with toks:=s.toks+1 }) (r:=none) X J j k λ b=>?_);obtain⟨z,n,e⟩:=W.any_some l;have o:s.heap.get? x=some ⟨.ref C,some D,.plain,#[]⟩:=I.obj;refine G' (Jr (G' (G' (wpAny_loadPart o (G' (W.Looks.here (s:={ s with toks:=s.toks+1 }) (W.looks_clsIn X n) ?_))))));rw[e];refine Jr (a:=some D) (G' (Jr (G' ?_)));refine wpAny_nsSet1 (s:={ s with toks:=s.toks+1 }) I.ns λ h' c d=>?_
 obtain⟨B,p,q,f,g,i⟩:=c.count (PySem.Within.cons name v m);refine G' (wpAny_lookBehind f (by rw[g];exact pastItsLine_dict (zAm i (by rw[zAf];lia))) ?_);exact Jr (h _ ⟨(d.2 _ (Ne.symm I.ne)).trans I.obj,c,I.ne⟩ d)
theorem qaA1{R:Result->Sh->Prop}{vs:List V'}(X:K.In s.heap)(hm:W.makesIn K C=true)(hi:W.findIn K (.ref C) "__init__" = some (some (.ref f)))(a:W.typeIn K (.ref f)=some (.type "function"))(h:codeAny (Kh prog w) (A.under (.builtin "type.__call__" ⟨.ref C::vs,kw⟩)) (.call (.ref f) ⟨.ref (s.heap.objs.size+1)::vs,kw⟩) (W.InitBack (s.heap.objs.size+1) R)
     { s with heap:=(s.heap.push W.emptyDict).push (W.instObj C s.heap.objs.size) }) :
   codeAny (Kh prog w) A (.call (.ref C) ⟨vs,kw⟩) R s:=by
 obtain⟨b,g,d,t,c⟩:=s;exact W.make_core (W.makes_of X hm) (W.looks_findIn X hi) (λ self=>W.bind_fn X self a) (.inl rfl) h
end
noncomputable def By(f:Str)(v:V):List (Str×V)->List (Str×V)
 | []=>[(f,v)]
 | (g,x)::r=>if g=f then (g,v)::r else (g,x)::By f v r
theorem qA2(f g:Str)(v:V):∀ fs:List (Str×V),(By f v fs).lookup g=if g=f then some v else fs.lookup g
 | []=>by
   show K8 g [(f,v)]=_;by_cases h:g=f
   . have a:(g == f)=true:=zBx.mpr h
     simp only[K8,a,if_pos h]
   have a:(g == f)=false:=zBs.mpr h;simp only[K8,a,if_neg h]
 | (k,x)::r=>by
   have c:=qA2 f g v r;rw[show By f v ((k,x)::r)=(if k=f then (k,v)::r else (k,x)::By f v r) from rfl];by_cases b:k=f
   . rw[if_pos b]
     by_cases h:g=k
     . have a:(g == k)=true:=zBx.mpr h
       simp only[K8,a,if_pos (h.trans b)]
     have a:(g == k)=false:=zBs.mpr h;simp only[K8,a,if_neg (λ e:g=f=>h (e.trans b.symm))]
   rw[if_neg b];by_cases h:g=k
   . have a:(g == k)=true:=zBx.mpr h
     simp only[K8,a,if_neg (λ e:g=f=>b (h.symm.trans e))]
   have a:(g == k)=false:=zBs.mpr h;simp only[K8,a];exact c
theorem qE3(f:Str)(v:V):∀ fs:List (Str×V),f∈(By f v fs).map (·.1)/\∀ g,g∈fs.map (·.1)->g∈(By f v fs).map (·.1)
 | []=>⟨by simp[By],λ g h=>by simp at h⟩
 | (k,x)::r=>by
   obtain⟨b,c⟩:=qE3 f v r;rw[show By f v ((k,x)::r)=(if k=f then (k,v)::r else (k,x)::By f v r) from rfl];by_cases a:k=f
   . rw[if_pos a]
     subst a;exact⟨by simp,λ g h=>by simpa using h⟩
   rw[if_neg a];refine⟨?_,λ g h=>?_⟩
   . rw[zAo]
     exact zA3 _ b
   rw[zAo] at h ⊢;rcases zAh.mp h with e | e
   . exact zAh.mpr (.inl e)
   exact zA3 _ (c g e)
theorem qA4(f:Str)(v:V):∀ fs:List (Str×V),(By f v fs).length<=fs.length+1
 | []=>by simp[By]
 | (k,x)::r=>by
   have b:=qA4 f v r;rw[show By f v ((k,x)::r)=(if k=f then (k,v)::r else (k,x)::By f v r) from rfl];by_cases a:k=f
   . rw[if_pos a,zAf,zAf];lia
   rw[if_neg a,zAf,zAf];lia
theorem RelO.some_of{v:V}{o:Option V'}(r:RelO (some v) o):∃ u,o=some u/\N7 v u:=by
 cases o with
 | none=>exact(show False from r).elim
 | some u=>exact⟨u,rfl,r⟩
theorem RelO.none_of{o:Option V'}(r:RelO none o):o=none:=by
 cases o with
 | none=>rfl
 | some u=>exact(show False from r).elim
theorem qam8{v:V}{u:V'}(r:N7 v u):W.handedIn u=true:=by
 cases v with
 | non=>cases (show u=M4 from r);rfl
 | bl b=>cases (show u=M5 b from r);rfl
 | int i=>obtain⟨t,e⟩:=(show ∃ t,u=M3 i t from r);cases e;rfl
 | str x=>obtain⟨t,e⟩:=(show ∃ t,u=M6 x t from r);cases e;rfl
 | byt b=>obtain⟨t,e⟩:=(show ∃ t,u=M' b t from r);cases e;rfl
 | flt b=>obtain⟨t,e⟩:=(show ∃ t,u=M7 b t from r);cases e;rfl
 | ref a=>cases (show u=M0 a from r);rfl
 | ty n=>cases (show u=Na n from r);rfl
section
variable{P:Ki}{w:Kk}{H:Hp}{h:Heap}{a C i:γ}{fs:List (Str×V)}
theorem qQ2(b:HOk P w H h)(e:H a=some (.ins C i fs)):∃ mA,ObjM h a i C mA/\(∀ f,RelO (fs.lookup f) (mA f))/\PySem.Within mA (fs.map (·.1))/\fs.length<=1000/\H i=some (.own a):=by
 obtain⟨d,z,c,g,mA,n,r,q⟩:=(show ObjOk P w H h a (.ins C i fs) from b a _ e)
 exact⟨mA,⟨g,n,c⟩,r,q,z,d⟩
end
structure Cls(K:Nf)(C:γ):Prop where
 pg:W.plainGet K C Str.empty=true
 hd:W.hasDictIn K C=true
 po:W.plainOver K C=true
 sa:W.findIn K (.ref C) "__setattr__" = some (some (.builtin "object.__setattr__"))
theorem Cls.get{K:Nf}{C:γ}(c:Cls K C)(f:Str):W.plainGet K C f=true:=c.pg
def qf4(K:Nf)(C:γ)(f:Str):Prop:=W.findIn K (.ref C) f=some none
theorem qf4.taker{K:Nf}{C:γ}{f:Str}(n:qf4 K C f):W.takerIn K C f=some none:=by
 unfold W.takerIn;rw[show W.findIn K (.ref C) f=some none from n];rfl
structure Ia(K:Nf)(C:γ)(m:Str)(f:γ):Prop where
 at_:W.findIn K (.ref C) m=some (some (.ref f))
 fn:W.isFn K (.ref f)=true
 kp:W.keepIn K (.ref f)=true
section
variable{X:Cx}{G:List (γ×Obj)}{F:St}{H:Hp}{s:Sh}{a C J:γ}{fs:List (Str×V)}{f:Str}{v:V}{A:Kj}{E:V'->Sh->Prop}
theorem qae2{b:Bool}{Q:V'->Sh->Prop}(I:Inv X G F H s)(e:H a=some (.ins C J fs))(c:Cls X.K C)(n:qf4 X.K C f)(l:fs.lookup f=some v)(h:∀ u s',Inv X G F H s'->N7 v u->Q u s'):Kg (Kh X.prog X.w) A (getAttr (.ref a) f b) Q E s:=by
 obtain⟨g,O,r,_,_,_⟩:=qQ2 I.hok e;obtain⟨u,i,d⟩:=RelO.some_of (v:=v) (o:=g f) (by rw[<- l];exact r f);exact qaN4 I.kIn O (c.get f) c.hd n i (qam8 d) (h u _ (I.tok _) d)
theorem qH4{m:Str}{g:γ}{Q:V'×List V'->Sh->Prop}(I:Inv X G F H s)(e:H a=some (.ins C J fs))(c:Cls X.K C)(k:Ia X.K C m g)(l:fs.lookup m=none)(h:Q (.ref g,[.ref a]) s):Kg (Kh X.prog X.w) A (getMethod (.ref a) m pl) Q E s:=by
 obtain⟨b,O,r,_,_,_⟩:=qQ2 I.hok e;have d:b m=none:=RelO.none_of (by rw[<- l];exact r m);exact qaB6 I.kIn O (c.get m) k.at_ k.fn d h
theorem qY5{y:V}{u:V'}{Q:Unit->Sh->Prop}(I:Inv X G F H s)(e:H a=some (.ins C J fs))(c:Cls X.K C)(n:qf4 X.K C f)(D:fs.length < 1000)(k:N7 y u)(h:∀ s',Inv X G F (upd H a (.ins C J (By f y fs))) s'->Q () s'):Kg (Kh X.prog X.w) A (setAttr (.ref a) f u) Q E s:=by
 obtain⟨d,O,r,i,_,j⟩:=qQ2 I.hok e;have l:(fs.map (·.1)).length<=Jt:=by rw[zA8,J0];lia
 refine qaG3 I.kIn O c.sa c.po n.taker c.hd i l λ m O' p=>h _ ?_
 have t:∃ o,m.get? J=some o:=let ⟨o,_,_,e',_⟩:=O'.ns;⟨o,e'⟩
 refine I.write (x:=a) (e:=J) (by rw[e];exact True.intro) (.inr j) (λ b q v z=>(p.2 b v).trans z) t ?_;refine⟨by rw[qc7 O.ne];exact j,?_,O.ne,O'.obj,_,O'.ns,λ g=>?_,λ g B=>?_⟩
 . have:=qA4 f y fs;lia
 . show RelO ((By f y fs).lookup g) (if g=f then some u else d g)
   rw[qA2];by_cases q:g=f
   . rw[if_pos q,if_pos q];exact k
   rw[if_neg q,if_neg q];exact r g
 by_cases q:g=f
 . rw[q];exact(qE3 f y fs).1
 refine(qE3 f y fs).2 g (i g λ z=>B ?_);show (if g=f then some u else d g)=none;rw[if_neg q];exact z
theorem Inv.made(I:Inv X G F H s):Inv X G F (upd (upd H s.heap.objs.size (.own (s.heap.objs.size+1))) (s.heap.objs.size+1) (.ins C s.heap.objs.size []))
   { s with heap:=(s.heap.push W.emptyDict).push (W.instObj C s.heap.objs.size) }:=by
 have c:(s.heap.push W.emptyDict).get? s.heap.objs.size=some W.emptyDict:=zAs s.heap rfl;have e2:((s.heap.push W.emptyDict).push (W.instObj C s.heap.objs.size)).get? (s.heap.objs.size+1)=some (W.instObj C s.heap.objs.size):=by
   have:=zAs (s.heap.push W.emptyDict) (o:=W.instObj C s.heap.objs.size) rfl
   rwa[zCp] at this
 have f:(s.heap.push W.emptyDict).Ns s.heap.objs.size (λ _=>none):=⟨W.emptyDict,#[],_,c,rfl,(λ e g=>absurd g (by simp)),λ _=>rfl⟩
 have I1:=I.laid (a:=s.heap.objs.size) (o:=.own (s.heap.objs.size+1)) (h':=s.heap.push W.emptyDict) (t':=s.toks) (λ b u q=>zA2 _ q) (zA4 _) ⟨_,c⟩;refine I1.laid (a:=s.heap.objs.size+1) (o:=.ins C s.heap.objs.size []) (t':=s.toks) (λ b u q=>zA2 _ q) (Nat.le_of_eq (zCp _ _)) ?_;have d:s.heap.objs.size≠s.heap.objs.size+1:=zAq (zCo _);refine⟨by rw[qc7 d,qb8],zBi _,d,e2,λ _=>none,(Heap.Ns1.of_empty f).at λ o q=>zA2 _ q,λ _=>True.intro,λ y h=>absurd rfl h⟩
theorem qaP4{prog:Ki}{w:Kk}{env:Env}{e:Kl}{f:Str}{pos:Pos}{s:Sh}{Q:V'->Sh->Prop}(a:Jz e f env (eval e env)=eval e env)(h:Kg (Kh prog w) A (eval e env) (λ o s₁=>Kg (Kh prog w) A (getAttr o f true) Q E s₁) E s):Kg (Kh prog w) A (eval (.Attribute e f pos) env) Q E s :=
 Attribute_any_ h (by rw[arm_eval_Attribute,a])
end
def tFld(K:Nf)(ta:TE)(f:Str):TE:=λ b H Q=>ta b H λ x H1=>∃ a C dx fs v,x=.ref a/\H1 a=some (.ins C dx fs)/\Cls K C/\qf4 K C f/\fs.lookup f=some v/\Q v H1
def sFld(K:Nf)(ta tv:TE)(f:Str):TS:=λ D b H=>tv b H λ y H1=>ta b H1 λ x H2=>∃ a C dx fs,x=.ref a/\H2 a=some (.ins C dx fs)/\Cls K C/\qf4 K C f/\fs.length < 1000 /\
 D.nx b (upd H2 a (.ins C dx (By f y fs)))
section
variable{X:Cx}{o e A:Kl}{f:Str}{pos pos':Pos}{B tv:TE}
theorem qaI8(d:PE X e B)(g:Jz e f X.env (eval e X.env)=eval e X.env):PE X (.Attribute e f pos) (tFld X.K B f):=by
 intro D8 s z H Q I h;refine qaP4 g (thn (d D8 s z H _ I h) λ u o b=>?_);obtain⟨x,H1,I1,i,a,C,p,r,v,j,k,c,n,l,q⟩:=b;subst j;obtain rfl:u=M0 a:=i;exact qae2 I1 k c n l λ t w I2 m=>⟨v,H1,I2,m,q⟩
theorem qaR4(d:PE X o B)(e:PE X A tv)(hs:swapsWith A (some (.Attribute o f pos')) pos.line X.env=pure false):PS X (.Assign [.Attribute o f pos'] A pos) (sFld X.K B tv f):=by
 intro D8 s z H D I h;refine plainObj_wpAny_Assign_Attribute (thn (e D8 s z H _ I h) λ u g b=>?_) hs;obtain⟨y,H1,I1,i,q⟩:=b;refine thn (d D8 g z H1 _ I1 q) λ j r b=>?_
 obtain⟨x,H2,I2,k,a,C,t,v,m,p,c,n,l,q2⟩:=b;subst m;obtain rfl:j=M0 a:=k;exact qY5 I2 p c n l i λ w I3=>⟨z,_,I3,q2⟩
end
section
variable{X:Cx}{F:List (γ×Obj)}{D:St}{H:Hp}{s:Sh}{A:Kj}{E Q:V'->Sh->Prop}{c:V'}{b:Bool}
inductive Ef(K:Nf)(H:Hp):V->V'->Prop where
 | non:Ef K H .non (.type "NoneType")
 | bl (x:Bool):Ef K H (.bl x) (.type "bool")
 | int (i:Int):Ef K H (.int i) (.type "int")
 | str (x:Str):Ef K H (.str x) (.type "str")
 | flt (x:UInt64):Ef K H (.flt x) (.type "float")
 | l {a:γ} {xs:List V} (e:H a=some (.l xs)):Ef K H (.ref a) (.type "list")
 | frz {a:γ} {o:Obj} {xs:List V} (e:H a=some (.frz o (.l xs))):Ef K H (.ref a) (.type "list")
 | q {a:γ} {xs:List V} (e:H a=some (.q xs)):Ef K H (.ref a) (.type "tuple")
 | dK {a:γ} {kvs:List (Key×V)} (e:H a=some (.dK kvs)):Ef K H (.ref a) (.type "dict")
 | dT {a:γ} {kvs:List (List Key×V)} (e:H a=some (.dT kvs)):Ef K H (.ref a) (.type "dict")
 | ins {a C dx:γ} {fs:List (Str×V)} (e:H a=some (.ins C dx fs)) (cl:Cls K C) (ha:W.findIn K (.ref C) "__class__" = some (some (.builtin "object.__class__")))
     (hn:W.specialIn K (.builtin "object.__class__") "__get__" = some (some (.builtin "getset_descriptor.__get__"))) (htk:W.takesIn K (.builtin "object.__class__")=some true)
     (hm:W.mroIn K C (.type "object")=some true):Ef K H (.ref a) (.ref C)
theorem qE5{x:V}{u t:V'}(I:Inv X F D H s)(d:N7 x u)(ty:Ef X.K H x t)(e:Ng X.K t c=some b)(h:∀ k,Q (.bool b) { s with toks:=k }) :
   Kg (Kh X.prog X.w) A (call (.builtin "isinstance") [u,c]) Q E s:=by
 cases ty with
 | non=>cases (show u=M4 from d);exact W.kia_one W.kitx_none I.kIn True.intro e (λ z=>nomatch z) h
 | bl y=>cases (show u=M5 y from d);exact W.kia_one W.kitx_bool I.kIn True.intro e (λ z=>nomatch z) h
 | int i=>obtain⟨t,q⟩:=(show ∃ t,u=M3 i t from d);cases q;exact W.kia_one W.kitx_int I.kIn True.intro e (λ z=>nomatch z) h
 | str y=>obtain⟨t,q⟩:=(show ∃ t,u=M6 y t from d);cases q;exact W.kia_one W.kitx_str I.kIn True.intro e (λ z=>nomatch z) h
 | flt y=>obtain⟨t,q⟩:=(show ∃ t,u=M7 y t from d);cases q;exact W.kia_one W.kitx_float I.kIn True.intro e (λ z=>nomatch z) h
 | @l a g ea =>
   cases (show u=M0 a from d);obtain⟨_,_,n,_,f⟩:=(show ObjOk X.prog X.w H s.heap a (.l g) from I.hok a _ ea)
   exact W.kia_one W.kitx_list I.kIn ⟨_,f,rfl⟩ e (λ z=>nomatch z) h
 | @frz a ob g ea =>
   cases (show u=M0 a from d);obtain⟨_,_,_,n,_,f⟩:=(show ObjOk X.prog X.w H s.heap a (.frz ob (.l g)) from I.hok a _ ea)
   exact W.kia_one W.kitx_list I.kIn ⟨_,f,rfl⟩ e (λ z=>nomatch z) h
 | @q a g ea =>
   cases (show u=M0 a from d);obtain⟨_,_,_,p⟩:=(show ObjOk X.prog X.w H s.heap a (.q g) from I.hok a _ ea)
   obtain⟨o,f,j,_⟩:=p;exact W.kia_one W.kitx_tuple I.kIn ⟨o,f,j⟩ e (λ z=>nomatch z) h
 | @dK a kvs ea =>
   cases (show u=M0 a from d);obtain⟨_,_,r,_,p⟩:=(show ObjOk X.prog X.w H s.heap a (.dK kvs) from I.hok a _ ea)
   obtain⟨o,l,m,f,j,_⟩:=p;exact W.kia_one W.kitx_dict I.kIn ⟨o,f,j.1⟩ e (λ z=>nomatch z) h
 | @dT a kvs ea =>
   cases (show u=M0 a from d);obtain⟨_,_,g,_,o,l,m,f,j,_⟩:=(show ObjOk X.prog X.w H s.heap a (.dT kvs) from I.hok a _ ea)
   exact W.kia_one W.kitx_dict I.kIn ⟨o,f,j.1⟩ e (λ z=>nomatch z) h
 | @ins a C dx fs ea cl ha hn htk hm =>
   cases (show u=M0 a from d);obtain⟨v,O,_⟩:=qQ2 I.hok ea;obtain⟨B,J,_⟩:=O.look;exact W.kia_one (W.kitx_own (cl.get _) cl.hd ha hn htk hm) I.kIn J e (λ z=>nomatch z) h
end
structure Oc(cm:Bool)(k:Nat)(A:Kj):Prop where
 hd:cm=true->A.handled=none
 dp:A.depth+3 * k+5 < recursionLimit
 un:A.units+16 * k+200 < cLine
abbrev Room:=Oc true
theorem Oc.mono{cm:Bool}{j k:Nat}{A:Kj}(r:Oc cm k A)(h:j<=k):Oc cm j A:=⟨r.hd,by have:=r.dp;lia,by have:=r.un;lia⟩
theorem Oc.deeper{cm:Bool}{k:Nat}{A:Kj}(r:Oc cm (k+1) A)(env:Env):Oc cm k (A.deeper env) :=
 ⟨r.hd,by have:=r.dp;show A.depth+1+3 * k+5 < _;lia,by have:=r.un;show A.units+3+16 * k+200 < _;lia⟩
theorem qab8{A:Kj}{C:γ}:(A.under (.builtin "type.__call__" ⟨.ref C::us,kw⟩)).depth=A.depth+1:=by
 first | rfl | simp[Around.under,Code.weight,Code.isCreation,Code.isGuard,Code.isCaller,Code.frames,Code.isFrame,guardIds]
theorem qab7{A:Kj}{C:γ}:(A.under (.builtin "type.__call__" ⟨.ref C::us,kw⟩)).units=A.units+1:=by
 first | rfl | simp[Around.under,Code.cUnits,Code.frames,Code.isFrame]
theorem Oc.make{cm:Bool}{k:Nat}{A:Kj}(r:Oc cm (k+1) A)(C:γ)(us:List V')(kw:List (Str×V')):Oc cm k (A.under (.builtin "type.__call__" ⟨.ref C::us,kw⟩)) :=
 ⟨r.hd,by have:=r.dp;rw[qab8];lia,by have:=r.un;rw[qab7];lia⟩
theorem Oc.depth{cm:Bool}{k:Nat}{A:Kj}(r:Oc cm k A):A.depth < recursionLimit:=by have:=r.dp;lia
theorem Oc.units{cm:Bool}{k:Nat}{A:Kj}(r:Oc cm k A):A.units+64 < cLine:=by have:=r.un;lia
def Ib:TA:=λ _ H Q=>Q [] H
def G1(ta:TE)(tr:TA):TA:=λ a H Q=>ta a H λ x H1=>tr a H1 λ xs H2=>Q (x::xs) H2
section
variable{X:Cx}{e:Kl}{o:List Kl}{te:TE}{t:TA}{n:Pos}
theorem qy7:PA X [] Ib:=λ _ _ _ _ H Q I h=>Calls.spliced_nil ⟨[],H,I,.nil,h⟩
theorem qg5(b:PE X e te)(c:PA X o t)(hs:Js (e::o) X.env=(false,eval e X.env)::Js o X.env:=by rfl):PA X (e::o) (G1 te t):=by
 intro n D8 s m H Q I h;rw[hs];show Kg _ _ (spliced ((false,eval e X.env)::backTo n (Js o X.env))) _ _ s;refine Calls.spliced_cons (thn (b D8 s m H _ I h) λ u d a=>?_);obtain⟨x,H1,I1,f,g⟩:=a;exact thn (c n D8 d m H1 _ I1 g) λ k l ⟨i,H2,I2,j,q2⟩=>⟨x::i,H2,I2,.cons f j,q2⟩
def tTup(t:TA):TE:=λ m H Q=>t m H λ xs H1=>xs.length<=Jt/\∀ p,H1 p=none->Q (.ref p) (upd H1 p (.q xs))
def tLst(t:TA):TE:=λ m H Q=>t m H λ xs H1=>xs.length<=Jt/\∀ p,H1 p=none->Q (.ref p) (upd H1 p (.l xs))
theorem qaI4{x1}(h:PA X o t):PE X (.Tuple o x1 n) (tTup t):=by
 intro D8 s m H Q I d;refine wpAny_Tuple_spliced (thn (h n D8 s m H _ I d) λ f a c=>?_);obtain⟨g,H1,I1,r,z,q⟩:=c;refine⟨by rw[<- r.length];exact z,?_⟩;have i:H1 a.heap.objs.size=none:=I1.hok.fresh (zA4 _);refine⟨.ref a.heap.objs.size,upd H1 a.heap.objs.size (.q g),I1.laid (t':=a.toks) (λ b u e=>zA2 _ e) (zA4 _) ?_,rfl,q _ i⟩;exact⟨z,f,r,⟨_,zAs _ rfl,rfl,_,rfl⟩⟩
theorem qay4(h:PA X o t):PE X (.List o n) (tLst t):=by
 intro D8 s m H Q I d;refine wpAny_List_spliced (thn (h n D8 s m H _ I d) λ f a c=>?_);obtain⟨g,H1,I1,r,z,q⟩:=c;refine⟨by rw[<- r.length];exact z,?_⟩;have i:H1 a.heap.objs.size=none:=I1.hok.fresh (zA4 _);refine⟨.ref a.heap.objs.size,upd H1 a.heap.objs.size (.l g),I1.laid (t':=a.toks) (λ b u e=>zA2 _ e) (zA4 _) ?_,rfl,q _ i⟩;exact⟨z,f,0,r,zAs _ rfl⟩
end
abbrev Sp:=List V->Hp->VK->XK->Prop
abbrev CXT:=List Env->Hp->Sh->XK->V'->Sh->Prop
structure Env0(P:Ki)(w:Kk)(K:Nf)(mg:Str->Option V')(base:Heap)(A:Kj)(outer:List Env)(s:Sh)(H:Hp):Prop where
 frames:A.frames=some outer
 mod:Mod K mg base
 bs:∀ b o,base.get? b=some o->s.heap.get? b=some o/\H b=none
 bsz:base.objs.size<=s.heap.objs.size
 funs:s.heap.FunFrames base outer
 frf:∀ b∈frs outer,H b=none
 hok:HOk P w H s.heap
 bare:AllBare s.gens
def CE(outer:List Env)(P:Ki)(w:Kk)(H:Hp)(s:Sh)(Q:VK)(u:V')(s':Sh):Prop :=
 ∃ v H',s'.os=s.os/\AllBare s'.gens/\Un (frs outer) [] H H' s.heap s'.heap/\HOk P w H' s'.heap/\N7 v u/\Q v H'
def CR(CX:CXT)(outer:List Env)(P:Ki)(w:Kk)(H:Hp)(s:Sh)(Q:VK)(E:XK)(r:Result)(s':Sh):Prop :=
 match r with
 | .ok (.ret u)=>CE outer P w H s Q u s'
 | .ok _=>False
 | .error e=>CX outer H s E e s'
structure Dv(cm:Bool)(P:Ki)(w:Kk)(K:Nf)(mg:Str->Option V')(base:Heap)(CX:CXT)(k:Nat)(f:γ)(fd:δ)(ps:List Str)(sp:Sp):Prop where
 len:∀ vs H Q E,sp vs H Q E->vs.length=ps.length
 run:∀(A:Kj)(outer:List Env)(s:Sh)(H:Hp)(args:Args)(us:List V')(vs:List V)(Q:VK)(E:XK),Oc cm k A->Env0 P w K mg base A outer s H->BindsTo s fd args (ps.zip us)->N8 vs us->sp vs H Q E ->
   codeAny (Kh P w) A (.call (.ref f) args) (CR CX outer P w H s Q E) s
abbrev Fo:=Dv true
theorem Env0.make{P:Ki}{w:Kk}{K:Nf}{A:Kj}{outer:List Env}{s:Sh}{H:Hp}(e:Env0 P w K mg base A outer s H)(C:γ)(us:List V')(kw:List (Str×V')) :
   Env0 P w K mg base (A.under (.builtin "type.__call__" ⟨.ref C::us,kw⟩)) outer s H:=⟨by first | exact e.frames | (simpa[Around.under,Code.envs,Code.isFrame,pushEnvs] using e.frames),e.mod,e.bs,e.bsz,e.funs,e.frf,e.hok,e.bare⟩
section
variable{X:Cx}{k:List (γ×Obj)}{j:St}{H:Hp}{s s':Sh}
theorem Inv.env0(I:Inv X k j H s):Env0 X.prog X.w X.K X.mg X.base X.A X.stack s H :=
 ⟨I.ok.frames,I.ok.mod,I.bs,zAm I.ok.bsz I.sz,I.stack,I.stkFree,I.hok,I.bare⟩
theorem Inv.after{Q:VK}{u:V'}(I:Inv X k j H s)(h:CE X.stack X.prog X.w H s Q u s'):EP X k j Q u s':=by
 obtain⟨v,H',e,bare,f,a,r,q⟩:=h;obtain⟨i,g,d,t,c⟩:=s';obtain rfl:c=s.os:=e;exact⟨v,H',I.call (h':=i) (g':=g) (d':=d) (t':=t) (ch:=[]) f a bare (λ b z=>absurd z (by simp)),r,q⟩
end
def Ic(sp:Sp)(dvs:List V)(E:St->XK)(t:TA):TE:=λ a H Q=>t a H λ vs H1=>sp (vs++dvs) H1 Q (E a)
def G2(C:γ)(m:Str)(sp:Sp)(dvs:List V)(E:St->XK)(ta:TE)(t:TA):TE:=λ b H Q=>ta b H λ x H1=>∃ a dx fs,x=.ref a/\H1 a=some (.ins C dx fs)/\fs.lookup m=none /\
 t b H1 λ vs H2=>sp (x::(vs++dvs)) H2 Q (E b)
def tMake(C:γ)(sp:Sp)(dvs:List V)(E:St->XK)(t:TA):TE:=λ a H Q=>t a H λ vs H1=>∀ x dx,H1 x=none->H1 dx=none->dx≠x ->
 sp (.ref x::(vs++dvs)) (upd (upd H1 dx (.own x)) x (.ins C dx [])) (λ v H2=>v=.non/\Q (.ref x) H2) (E a)
def Binds(K:Nf)(fd:δ)(ps:List Str)(ds:List V'):Prop :=
 ∀(s:Sh)(us:List V'),K.In s.heap->(us++ds).length=ps.length->BindsTo s fd ⟨us,[]⟩ (ps.zip (us++ds))
theorem Binds.all{K:Nf}{fd:δ}{ps:List Str}(h:∀ us:List V',us.length=ps.length->bindArgs fd ⟨us,[]⟩=pure (ps.zip us)):Binds K fd ps []:=λ s us _ a=>by
 rw[zAe] at a ⊢;exact .of_eq (h us a)
def qI6(CX:CXT)(X:Cx)(E:St->XK):Prop:=∀(D8:List (γ×Obj))(a:St)(H:Hp)(s:Sh)(e:V')(s':Sh),Inv X D8 a H s->CX X.stack H s (E a) e s'->X.xe e s'
section
variable{X:Cx}{Y:Bool}{CX:CXT}{k:Nat}{f C:γ}{Z:δ}{ps:List Str}{sp:Sp}{dvs:List V}{ds:List V'}{E:St->XK}{x m:Str}{p S T:Pos}{e o:Kl}{U:List Kl}{ta:TE}{t:TA}
theorem qax1{D8:List (γ×Obj)}{R:St}{H:Hp}{s:Sh}{Q:VK}{vs:List V}(F:Dv Y X.prog X.w X.K X.mg X.base CX k f Z ps sp)(c:Oc Y k X.A)(d:Binds X.K Z ps ds)(g:N8 dvs ds)(i:qI6 CX X E)(I:Inv X D8 R H s)(r:N8 vs us)(h:sp (vs++dvs) H Q (E R)):Kg (Kh X.prog X.w) X.A (call (.ref f) us) (EP X D8 R Q) X.xe s:=by
 have b:N8 (vs++dvs) (us++ds):=r.append g;have j:(us++ds).length=ps.length:=by rw[<- b.length];exact F.len _ _ _ _ h
 refine wpAny_call (codeAny_mono (F.run X.A X.stack s H ⟨us,[]⟩ (us++ds) (vs++dvs) Q (E R) c I.env0 (d s us I.kIn j) b h) λ r l a=>?_);cases r with
 | error e=>exact i D8 R H s e l I a
 | ok m =>
   cases m with
   | ret u=>exact I.after a
   | next=>exact Ny a
   | brk=>exact Ny a
   | cont=>exact Ny a
theorem qas2(F:Dv Y X.prog X.w X.K X.mg X.base CX k f Z ps sp)(d:Oc Y k X.A)(g:Gl X x)(hm:X.mg x=some (.ref f))(i:W.keepIn X.K (.ref f)=true)(j:Binds X.K Z ps ds)(l:N8 dvs ds)(m:qI6 CX X E)(n:PA X (e::U) t)(a:N' x:=by decide)(o:Js (e::U) X.env=(false,eval e X.env)::Js U X.env:=by rfl)(b:(backTo S (Js U X.env)).any (·.1)=false:=by rfl) :
   PE X (.Call (.Name x p) (e::U) [] S) (Ic sp dvs E t):=by
 intro D8 s R H Q I h;refine wpAny_Call_Name_kw (qac5 I g hm ?_ a);refine W.callWith_K (h₀:=X.base) I.ok.mod.kin i (thn (n S D8 s R H _ I h) λ u v c=>?_) o b;obtain⟨y,H1,I1,r,q⟩:=c;refine⟨I1.kIn,?_⟩;exact qax1 F d j l m I1 r q
theorem qar9(n:PE X o ta)(c:Cls X.K C)(hm:Ia X.K C m f)(F:Dv Y X.prog X.w X.K X.mg X.base CX k f Z ps sp)(p:Oc Y k X.A)(v:Binds X.K Z ps ds)(y:N8 dvs ds)(z:qI6 CX X E)(B:PA X (e::U) t)(d:Js (e::U) X.env=(false,eval e X.env)::Js U X.env:=by rfl)(g:(backTo S (Js U X.env)).any (·.1)=false:=by rfl)(D:eval (.Call (.Attribute o m T) (e::U) [] S) X.env=(do
     let ov <- eval o X.env
     standAt T.atName
     let (f,first) <- holding [ov] (getMethod ov m pl)
     callWith S f first (backTo S (Js (e::U) X.env)) (backToKw S (J' [] X.env))):=by rfl) :
   PE X (.Call (.Attribute o m T) (e::U) [] S) (G2 C m sp dvs E ta t):=by
 intro D8 s R H Q I h;refine W.methodCall_KW (pl:=pl) (thn (n D8 s R H _ I h) λ u G b=>?_) D;obtain⟨x,H1,I1,J,a,N,O,L,M,l,q⟩:=b;subst L;obtain rfl:u=M0 a:=J;refine qH4 I1 M c hm l ?_;refine W.callWith_K (first:=[.ref a]) (h₀:=X.base) I.ok.mod.kin hm.kp (thn (B S D8 G R H1 _ I1 q) λ i P b=>?_) d g;obtain⟨j,H2,I2,r,q2⟩:=b;refine⟨I2.kIn,?_⟩;exact qax1 (us:=.ref a::i) (vs:=.ref a::j) F p v y z I2 (.cons rfl r) q2
theorem qay3(d:PE X o ta)(c:Cls X.K C)(hm:Ia X.K C m f)(F:Dv Y X.prog X.w X.K X.mg X.base CX k f Z ps sp)(e:Oc Y k X.A)(g:Binds X.K Z ps ds)(i:N8 dvs ds)(j:qI6 CX X E)(n:eval (.Call (.Attribute o m T) [] [] S) X.env=(do
     let ov <- eval o X.env
     standAt T.atName
     let (f,first) <- holding [ov] (getMethod ov m pl)
     callWith S f first (backTo S (Js [] X.env)) (backToKw S (J' [] X.env))):=by rfl) :
   PE X (.Call (.Attribute o m T) [] [] S) (G2 C m sp dvs E ta Ib):=by
 intro D8 s R H Q I h;refine W.methodCall_KW (pl:=pl) (thn (d D8 s R H _ I h) λ u v b=>?_) n;obtain⟨x,H1,I1,p,a,y,z,r,t,l,q⟩:=b;subst r;obtain rfl:u=M0 a:=p;refine qH4 I1 t c hm l ?_;exact W.callWith_K0 (first:=[.ref a]) I1.kIn hm.kp (qax1 (us:=[.ref a]) (vs:=[.ref a]) F e g i j I1 (.cons rfl .nil) q)
structure Mk(K:Nf)(C f:γ):Prop where
 makes:W.makesIn K C=true
 init:W.findIn K (.ref C) "__init__" = some (some (.ref f))
 fn:W.isFn K (.ref f)=true
 kp:W.keepIn K (.ref C)=true
theorem qax0{D8:List (γ×Obj)}{R:St}{H:Hp}{s:Sh}{Q:VK}{vs:List V}(M:Mk X.K C f)(F:Dv Y X.prog X.w X.K X.mg X.base CX k f Z ps sp)(d:Oc Y (k+1) X.A)(g:Binds X.K Z ps ds)(i:N8 dvs ds)(j:qI6 CX X E)(I:Inv X D8 R H s)(r:N8 vs us)(h:∀ x dx,H x=none->H dx=none->dx≠x->sp (.ref x::(vs++dvs)) (upd (upd H dx (.own x)) x (.ins C dx [])) (λ v H2=>v=.non/\Q (.ref x) H2) (E R)) :
   Kg (Kh X.prog X.w) X.A (call (.ref C) us) (EP X D8 R Q) X.xe s:=by
 have b:=h (s.heap.objs.size+1) s.heap.objs.size (I.hok.fresh (Nat.le_succ _)) (I.hok.fresh (zA4 _)) (zAq (zCo _));have I2:=Inv.made (C:=C) I;have c:N8 (V.ref (s.heap.objs.size+1)::(vs++dvs)) (M0 (s.heap.objs.size+1)::(us++ds)):=.cons rfl (r.append i);have l:(M0 (s.heap.objs.size+1)::us++ds).length=ps.length:=by
   have e:=c.length;rw[F.len _ _ _ _ b] at e;exact e.symm
 refine wpAny_call (qaA1 (f:=f) I.kIn M.makes M.init (zBx.mp M.fn) (codeAny_mono (F.run _ X.stack _ _ ⟨M0 (s.heap.objs.size+1)::us,[]⟩ (M0 (s.heap.objs.size+1)::(us++ds)) _ _ (E R) (d.make C us [])
   (I2.env0.make C us []) (g _ (M0 (s.heap.objs.size+1)::us) I2.kIn l) c b) λ r m a=>?_))
 cases r with
 | error e=>exact j D8 R _ _ e m I2 a
 | ok n =>
   cases n with
   | ret u =>
     obtain⟨v,H',I3,o,p,q⟩:=I2.after a;subst p;exact⟨o,⟨V.ref (s.heap.objs.size+1),H',I3,rfl,q⟩⟩
   | next=>exact Ny a
   | brk=>exact Ny a
   | cont=>exact Ny a
theorem qas0(M:Mk X.K C f)(F:Dv Y X.prog X.w X.K X.mg X.base CX k f Z ps sp)(d:Oc Y (k+1) X.A)(g:Gl X x)(hm:X.mg x=some (.ref C))(i:Binds X.K Z ps ds)(j:N8 dvs ds)(l:qI6 CX X E)(m:PA X (e::U) t)(a:N' x:=by decide)(n:Js (e::U) X.env=(false,eval e X.env)::Js U X.env:=by rfl)(b:(backTo S (Js U X.env)).any (·.1)=false:=by rfl) :
   PE X (.Call (.Name x p) (e::U) [] S) (tMake C sp dvs E t):=by
 intro D8 s R H Q I h;refine wpAny_Call_Name_kw (qac5 I g hm ?_ a);refine W.callWith_K (h₀:=X.base) I.ok.mod.kin M.kp (thn (m S D8 s R H _ I h) λ o u c=>?_) n b;obtain⟨v,H1,I1,r,q⟩:=c;refine⟨I1.kIn,?_⟩;exact qax0 M F d i j l I1 r q
end
def PK(X:Cx)(kws:List Keyword)(t:TA):Prop :=
 ∀(pos:Pos)(D8:List (γ×Obj))(s:Sh)(a:St)(H:Hp)(Q:List V->Hp->Prop),Inv X D8 a H s->t a H Q->Kg (Kh X.prog X.w) X.A (evalAll ((backToKw pos (J' kws X.env)).map (·.2))) (AP X D8 a Q) X.xe s
section
variable{X:Cx}{x:Str}{n p:Pos}{e:Kl}{o:List Keyword}{te:TE}{t:TA}{q:Option Str}
theorem qaR6:PK X [] Ib:=λ _ _ _ _ H Q I h=>wpAny_evalAll_nil ⟨[],H,I,.nil,h⟩
theorem qaI1(b:PE X e te)(c:PK X o t):PK X (⟨q,e,p⟩::o) (G1 te t):=by
 intro n D8 s m H Q I h;show Kg _ _ (evalAll ((do let v <- eval e X.env;standAt n;pure v)::(backToKw n (J' o X.env)).map (·.2))) _ _ s;refine wpAny_evalAll_cons (G' (thn (b D8 s m H _ I h) λ u d a=>?_));obtain⟨x,H1,I1,f,g⟩:=a;refine G' (wpAny_standAt (Jr ?_));exact thn (c n D8 d m H1 _ I1 g) λ k l ⟨i,H2,I2,j,q2⟩=>⟨x::i,H2,I2,.cons f j,q2⟩
end
structure qa9(N P:List Str)(sc:Scope):Prop where
 kind:sc.kind=.function
 co:sc.isCoroutine=false
 gen:sc.isGenerator=false
 nd:N.Nodup
 pre:N.take P.length=P
 par:∀ x∈P,sc.names.lookup x=some .local∨sc.names.lookup x=some .cell
 nofree:∀ y∈sc.names,y.2≠.free
theorem qS8{Kw:Str->Option NameKind}{x:Str}:∀{binds:List (Str×V')}{m:Str->Option V'},(∀ v,(x,v)∉binds)->bindL Kw binds m x=m x
 | [],_,_=>rfl
 | (n,v)::r,m,h=>by
   unfold bindL;rw[qS8 λ w a=>h w (zA3 _ a)];split
   . have:x≠n:=by rintro rfl;exact h v zA7
     simp[this]
   rfl
theorem qT0{Kw:Str->Option NameKind}{x:Str}:∀{binds:List (Str×V')}{m:Str->Option V'},(∀ v,(x,v)∉binds)->bindC Kw binds m x=m x
 | [],_,_=>rfl
 | (n,v)::r,m,h=>by
   unfold bindC;rw[qT0 λ w a=>h w (zA3 _ a)];split
   . rfl
   have:x≠n:=by rintro rfl;exact h v zA7
   simp[this]
theorem qS9{Kw:Str->Option NameKind}{x:Str}{v:V'}:∀{P:List Str}{vs:List V'}{i:Nat}{m:Str->Option V'},P.Nodup->P[i]? = some x->vs[i]? = some v->Kw x=some .local ->
   bindL Kw (P.zip vs) m x=some v
 | [],_,_,_,_,h,_,_=>by simp at h
 | _::_,[],_,_,_,_,h,_=>by simp at h
 | p::P,w::vs,0,m,nd,h1,h2,hk=>by
   simp at h1 h2;subst h1;subst h2;show bindL Kw ((p,w)::P.zip vs) m p=_;unfold bindL;rw[qS8 λ v a=>(zBw.mp nd).1 (Lv a).1,if_pos hk];simp
 | p::P,w::vs,i+1,m,nd,h1,h2,hk=>by
   show bindL Kw ((p,w)::P.zip vs) m x=_;unfold bindL;exact qS9 (i:=i) (zBw.mp nd).2 (by simpa using h1) (by simpa using h2) hk
theorem qT1{Kw:Str->Option NameKind}{x:Str}{v:V'}:∀{P:List Str}{vs:List V'}{i:Nat}{m:Str->Option V'},P.Nodup->P[i]? = some x->vs[i]? = some v->Kw x≠some .local ->
   bindC Kw (P.zip vs) m x=some v
 | [],_,_,_,_,h,_,_=>by simp at h
 | _::_,[],_,_,_,_,h,_=>by simp at h
 | p::P,w::vs,0,m,nd,h1,h2,hk=>by
   simp at h1 h2;subst h1;subst h2;show bindC Kw ((p,w)::P.zip vs) m p=_;unfold bindC;rw[qT0 λ v a=>(zBw.mp nd).1 (Lv a).1,if_neg hk];simp
 | p::P,w::vs,i+1,m,nd,h1,h2,hk=>by
   show bindC Kw ((p,w)::P.zip vs) m x=_;unfold bindC;exact qT1 (i:=i) (zBw.mp nd).2 (by simpa using h1) (by simpa using h2) hk
noncomputable def start(N:List Str)(vs:List V):St:=vs.map some++K3 (N.length - vs.length) none
noncomputable def Eg(cm:Bool)(CX:CXT)(P:Ki)(w:Kk)(K:Nf)(mg:Str->Option V')(base:Heap)(N:List Str)(qual:Str)(scope:Scope)(f:γ)(cd:V')(A:Kj)(outer:List Env)(s:Sh)(H:Hp)(E:XK):Cx where
 prog:=P
 w:=w
 K:=K
 mg:=mg
 base:=base
 A:=A.deeper (envOfC qual scope s.heap.objs.size f cd)
 N:=N
 s₀:=s
 H₀:=H
 env:=envOfC qual scope s.heap.objs.size f cd
 outer:=outer
 stack:=envOfC qual scope s.heap.objs.size f cd::outer
 ex:=[]
 calm:=cm
 fn:=λ _=>true
 pn:=[]
 xe:=λ e s'=>Kg (Kh P w) (A.deeper (envOfC qual scope s.heap.objs.size f cd)) (leaving (envOfC qual scope s.heap.objs.size f cd) e) (λ _ a=>CX outer H s E e a) (λ b a=>CX outer H s E b a) s'
theorem qag3{sc:Scope}{x:Str}(h:sc.names.lookup x=some .cell):∃ c,(cellsFrom n sc.names []).lookup x=some c:=by
 have q:=W.cellsFrom_some sc.names n [] (.inl h);exact zBc.mp q
theorem qam6{cm:Bool}{CX:CXT}{P:Ki}{w:Kk}{K:Nf}{ps:List Str}{qual:Str}{scope:Scope}{f:γ}{cd:V'}{A:Kj}{outer:List Env}{s C:Sh}{H:Hp}{E:XK}{vs:List V}(S:qa9 N ps scope)(G:cm=true->A.handled=none)(g:Env0 P w K mg base A outer s H)(M:vs.length=ps.length)(r:N8 vs us)(x:InCallC s s.heap.objs.size (bindL (envOfC qual scope s.heap.objs.size f cd).kindOf (ps.zip us) λ _=>none) (cellsFrom (s.heap.objs.size+1) scope.names []) (bindC (envOfC qual scope s.heap.objs.size f cd).kindOf (ps.zip us) λ _=>none) C) :
   Inv (Eg cm CX P w K mg base N qual scope f cd A outer s H E) [] (start N vs) H C:=by
 have I:ps.length<=N.length:=by have:=congrArg K9 S.pre;rw[zBh] at this;lia
 obtain⟨t,O,rfl,D⟩:=x.done;have j:∀ b:γ,b∉(Eg cm CX P w K mg base N qual scope f cd A outer s H E).ex:=λ b z=>absurd (show b∈([]:List γ) from z) (by simp)
 refine⟨⟨g.mod,S.kind,rfl,rfl,zA4 _,λ y z c t d=>?_,λ y l=>?_,λ y c _ h=>?_,G,Around.frames_deeper g.frames,.inr ⟨rfl,rfl⟩,λ b z=>absurd z (j b),g.bs,g.bsz,λ b _ _=>j b,λ b z=>absurd z (j b),g.funs,g.frf⟩,
   rfl,g.bare,Un.kept D,⟨_,x.toInCall.ns,λ i y v t d Q=>?_⟩,λ y c h=>⟨_,x.cell y c h⟩,g.hok.fresh (zA4 _),λ y c h=>?_,λ p m=>absurd (show p∈([]:List (γ×Obj)) from m) (by simp),g.hok.kept D,?_⟩
 . exact name_of_addr x.apart (PySem.mem_of_lookup t) (PySem.mem_of_lookup d)
 . have l:scope.names.lookup y=some .cell∨scope.names.lookup y=some .free:=l
   rcases l with l | l
   . exact qag3 l
   exact absurd rfl (S.nofree _ (PySem.mem_of_lookup l))
 . exact zBf (x.above y c (PySem.mem_of_lookup h))
 . have B:i < vs.length:=by
     unfold start at d;by_cases B:i < vs.length
     . exact B
     rw[List.getElem?_append_right (by simpa using B)] at d;rw[List.getElem?_replicate] at d;split at d<;>cases d
   have J:vs[i]? = some v:=by
     unfold start at d;rw[zB2 (by simpa using B),zAy] at d;cases e:vs[i]? with
     | none=>rw[e] at d;cases d
     | some a=>rw[e] at d;cases d;rfl
   obtain⟨u,F,L⟩:=r.get J;have m:ps[i]? = some y:=by
     rw[<- S.pre,List.getElem?_take_of_lt (by lia)];exact t
   have o:ps.Nodup:=by rw[<- S.pre];exact S.nd.sublist (K6 _ _)
   refine⟨u,L,?_⟩;rcases S.par y (zB4 m) with k | k
   . exact .inl ⟨k,qS9 o m F k⟩
   obtain⟨c,e⟩:=qag3 (n:=s.heap.objs.size+1) k;refine .inr ⟨.inl k,c,e,?_⟩;have q:=x.cell y c e;rw[qT1 o m F (by show scope.names.lookup y≠_;rw[k];decide)] at q;exact q
 . exact g.hok.fresh (zBf (x.above y c (PySem.mem_of_lookup h)))
 unfold start;show _=N.length;rw[zAk,zA8,List.length_replicate];lia
theorem Ie{cm:Bool}{CX:CXT}{P:Ki}{w:Kk}{K:Nf}{k:Nat}{f:γ}{name qual:Str}{params:Arguments}{scope:Scope}{B kV d C a D oc:V'}{F L:Option γ}{i:Array (Option V')}{ps:List Str}{sp:Sp}(M:K.lookup f=some ⟨oc,L,.func (W.fnOf name qual params body scope B kV d C F a D),i⟩)(j:W.codeIn K a qual=true)(S:qa9 N ps scope)(len:∀ vs H Q E,sp vs H Q E->vs.length=ps.length)(hbody:∀(A:Kj)(outer:List Env)(s:Sh)(H:Hp)(vs:List V)(Q:VK)(E:XK),Oc cm k (A.deeper (envOfC qual scope s.heap.objs.size f a))->sp vs H Q E ->
     ∃ t,PSs (Eg cm CX P w K mg base N qual scope f a A outer s H E) body t/\t { nx:=λ _ H'=>Q .non H',rt:=Q } (start N vs) H) :
   Dv cm P w K mg base CX (k+1) f (W.fnOf name qual params body scope B kV d C F a D) ps sp:=by
 refine⟨len,λ A outer s H args O vs Q E l g R r h=>?_⟩;have T:=len _ _ _ _ h;have KX:K.In s.heap:=g.mod.kin.keeps λ b o e=>(g.bs b o e).1
 have m:s.heap.NoLimit:=g.mod.nolimit.keeps λ b o e=>(g.bs b o e).1
 have hkind:∀ y∈ps.zip O,scope.names.lookup y.1=some .local∨(scope.names.lookup y.1=some .cell/\((cellsFrom (s.heap.objs.size+1) scope.names []).lookup y.1).isSome=true):=λ ⟨n,v⟩ U=>by
   rcases S.par n (Lv U).1 with q | q
   . exact .inl q
   exact .inr ⟨q,W.cellsFrom_some _ _ _ (.inl q)⟩
 refine codeAny_call_function l.depth (KX _ _ M) rfl S.co S.gen rfl (W.codeRec_of KX j) (R _ _ _ _ ?_);refine wpAny_newFunctionEnv_cells S.kind hkind λ X Y G x=>?_
 subst Y;refine⟨m.keeps x.toInCall.keep,codeAny_func ?_⟩;obtain⟨t,Z,hq⟩:=hbody A outer s H vs Q E (l.deeper _) h;have I:Inv (Eg cm CX P w K mg base N qual scope f a A outer s H E) [] (start N vs) H G:=qam6 S l.hd g T r x;refine Ka (Z [] G (start N vs) H _ I hq) (λ fl p c=>?_) λ e p c=>c
 have fin:∀{σ':St}{H':Hp}{v:V}{u:V'},Inv (Eg cm CX P w K mg base N qual scope f a A outer s H E) [] σ' H' p->N7 v u->Q v H'->CE outer P w H s Q u p :=
   λ{σ' H' v u} J z q=>⟨v,H',J.os,J.bare,J.base,J.hok,z,q⟩
 cases fl with
 | ret u =>
   obtain⟨v,σ',H',J,z,q⟩:=c;exact fin J z q
 | next =>
   obtain⟨σ',H',J,q⟩:=c;exact fin (v:=V.non) (u:=M4) J rfl q
 | brk =>
   obtain⟨_,_,_,q⟩:=c;exact Ny q
 | cont =>
   obtain⟨_,_,_,q⟩:=c;exact Ny q
section
variable{X:Cx}{x:Str}{p u:Pos}{e:Kl}{v:List Kl}{t:TA}{w T:String}{r:List V->Hp->VK->Prop}
def tCB(r:List V->Hp->VK->Prop)(t:TA):TE:=λ q H Q=>t q H λ vs H1=>r vs H1 Q
theorem qay8(c:CallR X (.builtin w) r)(d:Gl X x)(hm:X.mg x=none)(f:Jx x=some (.builtin w))(g:PA X (e::v) t)(i:x ≠ "__name__" := by decide)(a:N' x:=by decide)(j:Js (e::v) X.env=(false,eval e X.env)::Js v X.env:=by rfl)(b:(backTo u (Js v X.env)).any (·.1)=false:=by rfl):PE X (.Call (.Name x p) (e::v) [] u) (tCB r t):=by
 intro D8 s q H Q I h;refine wpAny_Call_Name_kw (qV8 I d hm f ?_ i a);exact PyProof.Rows.callWith_builtin1 (thn (g u D8 s q H _ I h) λ k l ⟨m,H1,I1,n,o⟩=>c D8 l q H1 m k Q I1 n o) j b
theorem qak2(c:CallR X (.type T) r)(d:Gl X x)(hm:X.mg x=none)(f:Jx x=some (.type T))(g:PA X (e::v) t)(i:x ≠ "__name__" := by decide)(a:N' x:=by decide)(j:Js (e::v) X.env=(false,eval e X.env)::Js v X.env:=by rfl)(b:(backTo u (Js v X.env)).any (·.1)=false:=by rfl):PE X (.Call (.Name x p) (e::v) [] u) (tCB r t):=by
 intro D8 s q H Q I h;refine wpAny_Call_Name_kw (qV8 I d hm f ?_ i a);exact PyProof.Rows.callWith_type1 (thn (g u D8 s q H _ I h) λ k l ⟨m,H1,I1,n,o⟩=>c D8 l q H1 m k Q I1 n o) j b
end
end L2
namespace HT
open PySem PyProof.Rows
theorem qaC9(A:Kj)(s:Sh)(a:Int)(t:Tok)(c:Int)(u:Tok):∃ e,SeqAt.EqAt A s (.int a t) (.int c u) e/\(e=true↔a=c) :=
 ⟨(a == c),SeqAt.EqAt.int_int a t c u,by simp⟩
section
noncomputable def sIx(n d:Nat):Option Int->Nat
 | none=>d
 | some v=>if v < 0 then (v+(n:Int)).toNat else min v.toNat n
theorem qZ5(n d:Nat):sIx n d none=d:=rfl
theorem qaq7(n d k:Nat):sIx n d (some (k:Int))=min k n:=by
 show (if (k:Int) < 0 then ((k:Int)+(n:Int)).toNat else min (k:Int).toNat n)=min k n;rw[if_neg (by lia),Int.toNat_natCast]
end
end HT
namespace L2
open PySem PySem.Spec PyProof.Rows
variable{its us:List V'}{n:Nat}{x:V}{α:Type}
abbrev TO:=St->Hp->(Option Int->Hp->Prop)->Prop
def PO(X:Cx)(e:Option Kl)(t:TO):Prop :=
 ∀(D8:List (γ×Obj))(s:Sh)(a:St)(H:Hp)(Q:Option Int->Hp->Prop),Inv X D8 a H s->t a H Q ->
   Kg (Kh X.prog X.w) X.A (evalPart e X.env) (λ u s'=>∃ o H',Inv X D8 a H' s'/\IsPart u o/\Q o H') X.xe s
def qaF3:TO:=λ _ H Q=>Q none H
def tPart(t:TE):TO:=λ a H Q=>t a H λ x H1=>∃ i,x=.int i/\Q (some i) H1
theorem qG9{ns:List Int}:∀{us:List V'},N8 (ns.map V.int) us->IntsAre us ns:=by
 induction ns with
 | nil=>intro us r;rw[Me] at r;cases r;exact .nil
 | cons n ns a =>
   intro us r;rw[zAo] at r;cases r with
   | cons b c =>
     obtain⟨t,e⟩:=b;subst e;exact .cons n t (a c)
section
variable{X:Cx}{e:Kl}{te:TE}{G J:Option Kl}{L K:TO}{M N:Pos}
theorem qar6:PO X none qaF3:=by
 intro D8 s E H Q I h;rw[evalPart_none];exact Jr ⟨none,H,I,.none,h⟩
theorem qar5(h:PE X e te):PO X (some e) (tPart te):=by
 intro D8 s E H Q I b;rw[evalPart_some];refine thn (h D8 s E H _ I b) λ u f a=>?_
 obtain⟨x,H1,I1,c,d⟩:=a;obtain⟨i,rfl,q⟩:=d;obtain⟨t,rfl⟩:=c;exact⟨some i,H1,I1,.int i t,q⟩
def SlR(X:Cx)(r:V->Option Int->Option Int->Hp->VK->Prop):Prop :=
 ∀(D8:List (γ×Obj))(s:Sh)(E:St)(H:Hp)(x:V)(v vl vu:V')(G J:Option Int)(sl:γ)(Q:VK),Inv X D8 E H s->N7 x v->s.heap.IsSliceOf sl vl vu .none->IsPart vl G->IsPart vu J->r x G J H Q ->
   ∃ T id,typeLookup (.type T) "__getitem__" = pure (some (.builtin id))/\s.TypeIs v T/\Kg (Kh X.prog X.w) X.A (getItem v (.ref sl)) (EP X D8 E Q) X.xe s
def tSl(r:V->Option Int->Option Int->Hp->VK->Prop)(te:TE)(L K:TO):TE:=λ E H Q=>te E H λ x H1=>L E H1 λ l H2=>K E H2 λ u H3=>r x l u H3 Q
theorem qZ9{r:V->Option Int->Option Int->Hp->VK->Prop}(g:SlR X r)(i:PE X e te)(j:PO X G L)(k:PO X J K):PE X (.Subscript e (.Slice G J none N) M) (tSl r te L K):=by
 intro D8 s E H Q I h;refine Subscript_ (thn (i D8 s E H _ I h) λ v m a=>?_);obtain⟨x,H1,I1,n,o⟩:=a;refine wpAny_Slice (thn (j D8 m E H1 _ I1 o) λ d p a=>?_);obtain⟨l,H2,I2,t,q2⟩:=a;refine thn (k D8 p E H2 _ I2 q2) λ f c a=>?_
 obtain⟨u,H3,I3,y,z⟩:=a;rw[evalPart_none];refine Jr ?_;have I4:Inv X D8 E H3 { c with heap:=c.heap.push { cls:=.type "slice",data:=.fields #[d,f,.none] } }:=I3.kept (t':=c.toks) λ b F q=>zA2 _ q
 obtain⟨T,id,B,C,D⟩:=g D8 { c with heap:=c.heap.push { cls:=.type "slice",data:=.fields #[d,f,.none] } } E H3 x v d f l u c.heap.objs.size Q I4 n (Heap.IsSliceOf.new ..) t y z;show Kg (Kh X.prog X.w) X.A (subscriptTail e (.Slice G J none N) v (.ref c.heap.objs.size)) (EP X D8 E Q) X.xe { c with heap:=c.heap.push { cls:=.type "slice",data:=.fields #[d,f,.none] } };exact tail_any (ops:=[.ref c.heap.objs.size,v]) C B D (by with_unfolding_all rfl)
def Fv(xs:List V)(G J:Option Int):List V:=(xs.drop (HT.sIx xs.length 0 G)).take (HT.sIx xs.length xs.length J - HT.sIx xs.length 0 G)
theorem qW2(xs:List V)(G J:Option Int):(Fv xs G J).length<=xs.length:=by
 unfold Fv;rw[zBh,zBz];lia
end
noncomputable def ixN(n:Nat)(i:Int):Option Nat:=if 0<=i then (if i < n then some i.toNat else none) else if -(n:Int)<=i then some (i+n).toNat else none
def atI{α:Type}(xs:List α)(i:Int):Option α:=(ixN xs.length i).bind λ j=>xs[j]?
theorem qQ0{i:Int}{j:Nat}(h:ixN n i=some j):seqIndex? i n=some j/\j < n/\-(n:Int)<=i/\i < n:=by
 unfold ixN at h;by_cases b:0<=i
 . rw[if_pos b] at h
   by_cases a:i < n
   . rw[if_pos a] at h
     have e:i.toNat=j:=Nc h;exact⟨by rw[seqIndex_of b a,e],by lia,by lia,a⟩
   rw[if_neg a] at h;cases h
 rw[if_neg b] at h;by_cases a:-(n:Int)<=i
 . rw[if_pos a] at h
   have e:(i+n).toNat=j:=Nc h;exact⟨by rw[seqIndex_neg (by lia) a,e],by lia,a,by lia⟩
 rw[if_neg a] at h;cases h
theorem qah1{xs:List α}{i:Int}{v:α}(h:atI xs i=some v):∃ j,seqIndex? i xs.length=some j/\xs[j]? = some v/\j < xs.length/\-(xs.length:Int)<=i/\i < xs.length:=by
 unfold atI at h;cases e:ixN xs.length i with
 | none=>rw[e] at h;cases h
 | some j =>
   rw[e] at h;obtain⟨a,b,c,d⟩:=qQ0 e;exact⟨j,a,h,b,c,d⟩
theorem qI4{xs:List α}{j:Nat}{v:α}(h:xs[j]? = some v):atI xs (j:Int)=some v:=by
 have a:j < xs.length:=(zA5.mp h).1;have e:ixN xs.length (j:Int)=some j:=by
   unfold ixN;rw[if_pos (by lia),if_pos (by lia)];simp
 unfold atI;rw[e];exact h
theorem qaE1(xs:List α)(v:α):atI (xs++[v]) (-1)=some v:=by
 have a:(xs++[v]).length=xs.length+1:=by simp
 have e:ixN (xs++[v]).length (-1)=some xs.length:=by
   unfold ixN;rw[a,if_neg (by decide),if_pos (by lia)];congr 1;lia
 unfold atI;rw[e];show (xs++[v])[xs.length]? = some v;simp
def qah5(b:Kl):Prop:=∀ o i,subscripted b false o i=operate [o,i] (getItem o i)
def IxR(X:Cx)(r:R2):Prop :=
 ∀(value slice:Kl)(D8:List (γ×Obj))(s:Sh)(a:St)(H:Hp)(x y:V)(v u:V')(Q:VK),Inv X D8 a H s->N7 x v->N7 y u->r x y H Q ->
   subscripted slice false v u=operate [v,u] (getItem v u)->Kg (Kh X.prog X.w) X.A (subscriptTail value slice v u) (EP X D8 a Q) X.xe s
def MtR(X:Cx)(id:String)(r:V->List V->Hp->VK->Prop):Prop :=
 ∀(D8:List (γ×Obj))(s:Sh)(a:St)(H:Hp)(x:V)(xs:List V)(v:V')(us:List V')(Q:VK),Inv X D8 a H s->N7 x v->N8 xs us->r x xs H Q ->
   Kg (Kh X.prog X.w) X.A (call (.builtin id) (v::us)) (EP X D8 a Q) X.xe s
section
variable{X:Cx}{a b:Kl}{ta tb:TE}{Z:Pos}
theorem IxR.or{r a:R2}(h:IxR X r)(h':IxR X a):IxR X (λ x y H Q=>r x y H Q∨a x y H Q):=by
 intro value slice D8 s M H x y v u Q I b c q d;rcases q with q | q
 . exact h value slice D8 s M H x y v u Q I b c q d
 exact h' value slice D8 s M H x y v u Q I b c q d
theorem pe_ix{r:R2}(c:IxR X r)(d:PE X a ta)(e:PE X b tb)(hs:qah5 b):PE X (.Subscript a b Z) (tOp r ta tb):=by
 intro D8 s M H Q I h;exact Subscript_ (binT d e I h λ v u f x y H2 I2 g i q=>c a b D8 f M H2 x y v u Q I2 g i q (hs _ _))
def rIxL(K:Nf):R2:=λ x y H Q=>∃ p xs i v,x=.ref p/\y=.int i/\SqL K H p xs/\atI xs i=some v/\Q v H
def rIxT(K:Nf):R2:=λ x y H Q=>∃ p xs i v,x=.ref p/\y=.int i/\SqT K H p xs/\atI xs i=some v/\Q v H
def rIxS:R2:=λ x y H Q=>∃ z i c,x=.str z/\y=.int i/\z.length<=Jt/\atI z.cps.toList i=some c/\Q (.str ⟨#[c]⟩) H
theorem qaM3:IxR X (rIxL X.K):=by
 intro value slice D8 s M H x y v u Q I l m h f;obtain⟨p,F,i,z,rfl,rfl,n,o,q⟩:=h;cases l;obtain⟨t,rfl⟩:=m;obtain⟨b,r,c,G⟩:=I.list n;obtain⟨j,a,A,J,B,C⟩:=qah1 o;obtain⟨w,g,d⟩:=r.get A;have D:=r.length;have L:=qM4;have fin:EP X D8 M Q w s:=⟨z,H,I,d,q⟩
 by_cases k:0<=i
 . have e:i.toNat=j:=by
     rw[seqIndex_of k C] at a;exact Nc a
   exact item_listR c.isList k (by lia) (by rw[e];simpa using g) fin f
 have e:(i+(b.toArray.size:Int)).toNat=j:=by
   rw[seqIndex_neg (by lia) B] at a;rw[zA6,<- D];exact Nc a
 exact subscriptTail_builtinR (x:=w) c.isList.typeIs slot_list_getitem.lookup
   (wpAny_getItem_list_neg (Q:=λ r E=>r=w/\EP X D8 M Q r E) c.isList (by lia) (by rw[zA6]<;>lia) (by lia) (by rw[e];simpa using g) ⟨rfl,fin⟩) f
theorem qaV1:IxR X (rIxT X.K):=by
 intro value slice D8 s M H x y v u Q I c d h e;obtain⟨p,B,i,z,rfl,rfl,f,g,q⟩:=h;cases c;obtain⟨t,rfl⟩:=d;obtain⟨k,r,b,C⟩:=I.tuple f;obtain⟨j,l,m,D,E,F⟩:=qah1 g;obtain⟨w,n,a⟩:=r.get m;have o:=r.length;have G:=qM4;have fin:EP X D8 M Q w s:=⟨z,H,I,a,q⟩
 exact subscriptTail_builtinR (x:=w) b.typeIs slot_tuple_getitem.lookup
   (getItem_tuple (j:=j) (Q:=λ r A=>r=w/\EP X D8 M Q r A) b (by lia) (by lia) (by rw[zA6,<- o];exact l) (by simpa using n) ⟨rfl,fin⟩) e
theorem qaV2:IxR X rIxS:=by
 intro value slice D8 s M H x y v u Q I b d h e;obtain⟨z,i,c,rfl,rfl,o,f,q⟩:=h;obtain⟨t,rfl⟩:=b;obtain⟨p,rfl⟩:=d;obtain⟨j,a,g,r,k,l⟩:=qah1 f;have m:z.cps.toList.length=z.length:=by simp[Str.length]
 rw[m] at a k l;have w:=qM4;exact tail_any (typeIs_str s z t) slot_str_getitem.lookup (getItem_str (c:=c) (by
   have n:decide (i < -(2 ^ 63:Int))=false:=zAl (by lia);have e2:decide (i ≥ 2 ^ 63)=false:=zAl (by lia);rw[n,e2,Bool.or_false]) (by rw[a];simpa using g) ⟨.str ⟨#[c]⟩,H,I.tok _,⟨_,rfl⟩,q⟩) e
def rIx(K:Nf):R2:=λ x y H Q=>rIxL K x y H Q∨rIxT K x y H Q∨rIxS x y H Q
theorem qb0:IxR X (rIx X.K):=qaM3.or (qaV1.or qaV2)
theorem qab6(its:List V')(n j:Nat)(u:V'):Obj.mapSeq (·.setIfInBounds j u) { cls:=.type "list",data:=.seq its.toArray n }={ cls:=.type "list",data:=.seq (its.set j u).toArray n }:=by
 simp[Obj.mapSeq]
theorem Inv.l{D8:List (γ×Obj)}{M:St}{H:Hp}{s:Sh}{p:γ}{xs:List V}(I:Inv X D8 M H s)(h:H p=some (.l xs)) :
   ∃(its:List V')(n:Nat),N8 xs its/\s.heap.get? p=some { cls:=.type "list",data:=.seq its.toArray n }/\xs.length<=Jt:=by
 obtain⟨z,its,n,r,e⟩:=I.hok p _ h;exact⟨its,n,r,e,z⟩
theorem Inv.lstUpd{D8:List (γ×Obj)}{M:St}{H:Hp}{s:Sh}{p:γ}{xs ys:List V}{its':List V'}{a:Nat}{f:Obj->Obj}(I:Inv X D8 M H s)(h:H p=some (.l xs))(d:s.heap.get? p=some { cls:=.type "list",data:=.seq its.toArray n })(c:f { cls:=.type "list",data:=.seq its.toArray n }={ cls:=.type "list",data:=.seq its'.toArray a })(r:N8 ys its')(g:ys.length<=Jt)(t:Nat) :
   Inv X D8 M (upd H p (.l ys)) { s with heap:=s.heap.update p f,toks:=t }:=by
 have e:(s.heap.update p f).get? p=some { cls:=.type "list",data:=.seq its'.toArray a }:=by
   rw[Heap.get?_update_self f d (by rw[c]<;>rfl),c]
 refine I.write (x:=p) (e:=p) (by rw[h];trivial) (.inl rfl) (λ b u i q=>(zC7 _ _ (Ne.symm i)).trans q) ⟨_,e⟩ ?_;exact⟨g,its',a,r,e⟩
def rSetL:V->V->V->Hp->(Hp->Prop)->Prop:=λ o i v H Q=>∃ p xs k j,o=.ref p/\i=.int k/\H p=some (.l xs)/\ixN xs.length k=some j/\Q (upd H p (.l (xs.set j v)))
theorem qY6:PSet X rSetL:=by
 intro D8 s M H o i v C D u Q I w x y h;obtain⟨p,z,k,j,rfl,rfl,f,A,q⟩:=h;cases w;obtain⟨t,rfl⟩:=x;obtain⟨a,n,r,c,B⟩:=I.l f;obtain⟨b,E,g,l⟩:=qQ0 A;have d:=r.length;have F:=qM4;have I':Inv X D8 M (upd H p (.l (z.set j v))) { s with heap:=s.heap.update p (Obj.mapSeq (·.setIfInBounds j u)) } :=
   I.lstUpd f c (qab6 a n j u) (r.set y j) (by rw[Lw];exact B) s.toks
 by_cases m:0<=k
 . have e:k.toNat=j:=by
     rw[seqIndex_of m l] at b;exact Nc b
   exact W.ki_setAt c m (by lia) (by rw[zA6,<- d];exact l) (by rw[e];exact⟨_,I',q⟩)
 have e:(k+(a.toArray.size:Int)).toNat=j:=by
   rw[seqIndex_neg (by lia) g] at b;rw[zA6,<- d];exact Nc b
 exact W.ki_setBack c (by lia) (by rw[zA6,<- d];exact g) (by lia) (by rw[e];exact⟨_,I',q⟩)
theorem qK1(lo hi:Option Int)(n:Nat):(sliceBounds lo hi none n).1=((HT.sIx n 0 lo:Nat):Int)/\(sliceBounds lo hi none n).2.1=((HT.sIx n n hi:Nat):Int)/\(sliceBounds lo hi none n).2.2=1:=by
 refine⟨?_,?_,rfl⟩
 . cases lo with
   | none=>simp[sliceBounds,HT.sIx]
   | some i =>
     simp only[sliceBounds,HT.sIx,Option.getD_none,show (1:Int) > 0 by decide,if_true];by_cases h:i < 0
     . simp only[h,if_true]<;>lia
     simp only[h,if_false]<;>lia
 cases hi with
 | none=>simp[sliceBounds,HT.sIx]
 | some i =>
   simp only[sliceBounds,HT.sIx,Option.getD_none,show (1:Int) > 0 by decide,if_true];by_cases h:i < 0
   . simp only[h,if_true]<;>lia
   simp only[h,if_false]<;>lia
theorem qF7(its:List V')(lo hi:Option Int):slicePick its.toArray lo hi none=((its.drop (HT.sIx its.length 0 lo)).take (HT.sIx its.length its.length hi - HT.sIx its.length 0 lo)).toArray:=by
 obtain⟨a,b,c⟩:=qK1 lo hi its.toArray.size;unfold slicePick;rw[a,b,c];simp only[sliceRange_one,pick_run,zA6]<;>rfl
def rSlL(K:Nf):V->Option Int->Option Int->Hp->VK->Prop:=λ x lo hi H Q=>∃ a xs,x=.ref a/\SqL K H a xs/\∀ p,H p=none->Q (.ref p) (upd H p (.l (Fv xs lo hi)))
theorem qaq2:SlR X (rSlL X.K):=by
 intro D8 s M H x v t u e f w Q I i j k l h;obtain⟨a,c,rfl,m,q⟩:=h;cases i;obtain⟨n,r,g,p⟩:=I.list m;have d:=r.length;refine⟨"list",_,slot_list_getitem.lookup,g.isList.typeIs,?_⟩;refine wpAny_getItem_list_slice g.isList j k l .none (by simp) ?_ (by rw[zA6]<;>lia);rw[qF7,<- d];refine⟨.ref s.heap.objs.size,_,I.laid (t':=s.toks) (o:=.l (Fv c e f)) (λ b y q=>zA2 _ q) (zA4 _) ?_,rfl,q _ (I.hok.fresh (zA4 _))⟩;exact⟨zAm (qW2 c e f) p,_,0,(r.drop (HT.sIx c.length 0 e)).take (HT.sIx c.length c.length f - HT.sIx c.length 0 e),zAs _ rfl⟩
noncomputable def flatV:V->Bool
 | .non=>true
 | .bl _=>true
 | .int _=>true
 | .str _=>true
 | _=>false
noncomputable def eqV:V->V->Bool
 | .non,.non=>true
 | .bl a,.bl b=>a == b
 | .bl a,.int b=>(if a then 1 else 0) == b
 | .int a,.bl b=>a == (if b then 1 else 0)
 | .int a,.int b=>a == b
 | .str a,.str b=>a == b
 | _,_=>false
theorem qaO4{A:Kj}{s:Sh}{y:V}{u v:V'}(e:N7 y u)(c:N7 x v)(g:flatV y=true)(f:flatV x=true):SeqAt.EqAt A s u v (eqV y x):=by
 cases y with
 | non =>
   cases e;cases x with
   | non=>cases c;exact SeqAt.EqAt.same _
   | bl b=>cases c;exact SeqAt.EqAt.none_bool b
   | int b=>obtain⟨t,rfl⟩:=c;exact SeqAt.EqAt.none_int b t
   | str b=>obtain⟨t,rfl⟩:=c;exact SeqAt.EqAt.none_str b t
   | _=>exact absurd (show false=true from f) zAx
 | bl a =>
   cases e;cases x with
   | non=>cases c;exact SeqAt.EqAt.bool_none a
   | bl b=>cases c;exact SeqAt.EqAt.bool_bool a b
   | int b=>obtain⟨t,rfl⟩:=c;exact SeqAt.EqAt.bool_int a b t
   | str b=>obtain⟨t,rfl⟩:=c;exact SeqAt.EqAt.bool_str a b t
   | _=>exact absurd (show false=true from f) zAx
 | int a =>
   obtain⟨d,rfl⟩:=e;cases x with
   | non=>cases c;exact SeqAt.EqAt.int_none a d
   | bl b=>cases c;exact SeqAt.EqAt.int_bool a d b
   | int b=>obtain⟨t,rfl⟩:=c;exact SeqAt.EqAt.int_int a d b t
   | str b=>obtain⟨t,rfl⟩:=c;exact SeqAt.EqAt.int_str a d b t
   | _=>exact absurd (show false=true from f) zAx
 | str a =>
   obtain⟨d,rfl⟩:=e;cases x with
   | non=>cases c;exact SeqAt.EqAt.str_none a d
   | bl b=>cases c;exact SeqAt.EqAt.str_bool a d b
   | int b=>obtain⟨t,rfl⟩:=c;exact SeqAt.EqAt.str_int a d b t
   | str b=>obtain⟨t,rfl⟩:=c;exact SeqAt.EqAt.str_str a d b t
   | _=>exact absurd (show false=true from f) zAx
 | _=>exact absurd (show false=true from g) zAx
def eqU(x:V)(u:V'):Bool:=match u with
 | .none=>eqV .non x
 | .bool b=>eqV (.bl b) x
 | .int i _=>eqV (.int i) x
 | .str z _=>eqV (.str z) x
 | _=>false
theorem qaC8{y:V}{u:V'}(r:N7 y u)(f:flatV y=true):eqU x u=eqV y x:=by
 cases y with
 | non=>cases r;rfl
 | bl b=>cases r;rfl
 | int i=>obtain⟨t,rfl⟩:=r;rfl
 | str z=>obtain⟨t,rfl⟩:=r;rfl
 | _=>exact absurd (show false=true from f) zAx
theorem qI5{x:V}:∀{xs:List V}{us:List V'},N8 xs us->xs.all flatV=true->us.any (eqU x)=xs.any λ y=>eqV y x
 | _,_,.nil,_=>rfl
 | y::xs,u::us,.cons r t,f=>by
   rw[Ld,zBm] at f;rw[zCu,zCu,qaC8 r f.1,qI5 t f.2]
theorem qr7{A:Kj}{s:Sh}{x:V}{v:V'}(b:N7 x v)(c:flatV x=true):∀{xs:List V}{us:List V'},N8 xs us->xs.all flatV=true->∀ u∈us,SeqAt.EqAt A s u v (eqU x u)
 | _,_,.nil,_=>λ u a=>by cases a
 | y::xs,u::us,.cons r t,f=>λ d a=>by
   rw[Ld,zBm] at f;rcases zAh.mp a with rfl | a
   . rw[qaC8 r f.1];exact qaO4 r b f.1 c
   exact qr7 b c t f.2 d a
def inV(x:V)(xs:List V):Bool:=xs.any λ y=>eqV y x
def rIn(K:Nf)(neg:Bool):R2:=λ x y H Q=>∃ p xs,y=.ref p/\(SqL K H p xs∨SqT K H p xs)/\flatV x=true/\xs.all flatV=true/\Q (.bl (if neg then !inV x xs else inV x xs)) H
theorem qo8:OpR X (Ju .In) (rIn X.K false):=by
 intro D8 s M H x y v u Q I f i h;obtain⟨p,k,rfl,b,g,c,q⟩:=h;cases i;rcases b with b | b
 . obtain⟨a,r,d,j⟩:=I.list b
   refine SeqAt.in_listAt (eqU x) d.isList (λ w e=>qr7 f g r c w (by simpa using e)) ⟨.bl _,H,I,rfl,?_⟩;rw[show a.toArray.any (eqU x)=a.any (eqU x) by simp,qI5 r c];exact q
 obtain⟨a,r,d,j⟩:=I.tuple b;refine SeqAt.in_tupleAt (eqU x) d (λ w e=>qr7 f g r c w (by simpa using e)) ⟨.bl _,H,I,rfl,?_⟩;rw[show a.toArray.any (eqU x)=a.any (eqU x) by simp,qI5 r c];exact q
theorem qL3:OpR X (Ju .NotIn) (rIn X.K true):=by
 intro D8 s M H x y v u Q I f i h;obtain⟨p,k,rfl,b,g,c,q⟩:=h;cases i;rcases b with b | b
 . obtain⟨a,r,d,j⟩:=I.list b
   refine SeqAt.notIn_listAt (eqU x) d.isList (λ w e=>qr7 f g r c w (by simpa using e)) ⟨.bl _,H,I,rfl,?_⟩;rw[show a.toArray.any (eqU x)=a.any (eqU x) by simp,qI5 r c];exact q
 obtain⟨a,r,d,j⟩:=I.tuple b;refine SeqAt.notIn_tupleAt (eqU x) d (λ w e=>qr7 f g r c w (by simpa using e)) ⟨.bl _,H,I,rfl,?_⟩;rw[show a.toArray.any (eqU x)=a.any (eqU x) by simp,qI5 r c];exact q
theorem qN7:CallR X (.builtin "len") (λ xs H Q=>∃ p ys,xs=[.ref p]/\(SqL X.K H p ys∨SqT X.K H p ys)/\Q (.int ys.length) H):=by
 intro D8 s M H xs i Q I r h;obtain⟨p,ys,rfl,b,q⟩:=h;obtain⟨u,rfl,f⟩:=Bf r;cases f;have j:=qM4;rcases b with b | b
 . obtain⟨c,d,e,g⟩:=I.list b
   have a:=d.length;exact Calls.call_len_list e.isList (by simp only[zA6]<;>lia) ⟨.int ys.length,H,I.tok _,⟨s.toks+1,by rw[zA6,a]⟩,q⟩
 obtain⟨c,d,e,g⟩:=I.tuple b;have a:=d.length;exact len_tuple e (by simp only[zA6]<;>lia) ⟨.int ys.length,H,I.tok _,⟨s.toks+1,by rw[zA6,a]⟩,q⟩
theorem qN6:CallR X (.builtin "len") (λ xs H Q=>∃ z,xs=[.str z]/\z.length<=Jt/\Q (.int z.length) H):=by
 intro D8 s M H xs a Q I r h;obtain⟨z,rfl,b,q⟩:=h;obtain⟨u,rfl,t,rfl⟩:=Bf r;have c:=qM4;exact len_str (by lia) ⟨.int z.length,H,I.tok _,⟨_,rfl⟩,q⟩
theorem CallR.or{f:V'}{r a:List V->Hp->VK->Prop}(h:CallR X f r)(h':CallR X f a):CallR X f (λ xs H Q=>r xs H Q∨a xs H Q):=by
 intro D8 s M H xs b Q I c q;rcases q with q | q
 . exact h D8 s M H xs b Q I c q
 exact h' D8 s M H xs b Q I c q
theorem qd2:CallR X (.type "list") (λ xs H Q=>∃ p ys,xs=[.ref p]/\(SqL X.K H p ys∨SqT X.K H p ys)/\∀ l,H l=none->Q (.ref l) (upd H l (.l ys))):=by
 intro D8 s M H xs A Q I r h;obtain⟨p,ys,rfl,g,q⟩:=h;obtain⟨u,rfl,z⟩:=Bf r;cases z;have fin:∀(a:List V'),N8 ys a->ys.length<=Jt->∀(c:Heap)(d:Nat),(∀ b y,s.heap.get? b=some y->c.get? b=some y) ->
     c.get? s.heap.objs.size=some { cls:=.type "list",dict:=none,data:=.seq a.toArray d,slots:=#[] }->EP X D8 M Q (.ref s.heap.objs.size) { s with heap:=c }:=λ a f i c d j e =>
   ⟨.ref s.heap.objs.size,_,I.laid (t':=s.toks) j (zA4 _) (show ObjOk X.prog X.w _ c _ (.l ys) from⟨i,a,d,f,e⟩),rfl,q _ (I.hok.fresh (zA4 _))⟩
 rcases g with g | g
 . obtain⟨a,f,m,i⟩:=I.list g
   have k:=f.length;obtain⟨o,t,v,n,x⟩:=m.isList;exact call_list_seq p (.inl rfl) t v x (λ c d j e=>fin a f i c d j e) (by simp only[zA6]<;>lia)
 obtain⟨a,f,m,i⟩:=I.tuple g;have k:=f.length;obtain⟨o,t,v,n,x⟩:=m;exact call_list_seq p (.inr rfl) t v x (λ c d j e=>fin a f i c d j e) (by simp only[zA6]<;>lia)
def tyV(K:Nf)(T:String)(x:V)(H:Hp):Prop:=match x with
 | .str _=>T = "str"
 | .int _=>T = "int"
 | .ref p=>(T = "list" /\ ∃ xs,SqL K H p xs)∨(T = "tuple" /\ ∃ o,K.lookup p=some o/\o.cls=.type "tuple" /\ o.dict=none) ∨
     (T = "dict" /\ ((∃ kvs,H p=some (.dK kvs))∨∃ kvs,H p=some (.dT kvs)))∨(T = "set" /\ ∃ S n,H p=some (.set S n))
 | _=>False
theorem qaQ6{D8:List (γ×Obj)}{M:St}{H:Hp}{s:Sh}{T:String}{v:V'}(I:Inv X D8 M H s)(r:N7 x v)(ty:tyV X.K T x H) :
   s.TypeIs v T/\∀ a,v=.ref a->∃ ob,s.heap.get? a=some ob/\ob.dict=none:=by
 cases x with
 | str z =>
   obtain⟨t,rfl⟩:=r;cases (show T = "str" from ty);exact⟨typeIs_str s z t,λ _ e=>nomatch e⟩
 | int i =>
   obtain⟨t,rfl⟩:=r;cases (show T = "int" from ty);exact⟨typeIs_int s i t,λ _ e=>nomatch e⟩
 | ref p =>
   cases r;rcases ty with⟨rfl,xs,hq⟩ | ⟨rfl,o,hk,hc,d⟩ | ⟨rfl,hk⟩ | ⟨rfl,S,n,hk⟩
   . obtain⟨g,_,f,_⟩:=I.list hq
     refine⟨f.isList.typeIs,λ a e=>?_⟩;cases e;obtain⟨o,n,e,c,d,_⟩:=f;exact⟨o,e,d⟩
   . refine⟨⟨o,I.kIn p o hk,hc⟩,λ a e=>?_⟩
     cases e;exact⟨o,I.kIn _ o hk,d⟩
   . have z:∃ o,s.heap.get? p=some o/\o.ExactDict:=by
       rcases hk with⟨kvs,hk⟩ | ⟨kvs,hk⟩
       . obtain⟨_,_,_,_,o,_,_,e,b,_⟩:=I.hok p _ hk
         exact⟨o,e,b⟩
       obtain⟨_,_,_,_,o,_,_,e,b,_⟩:=I.hok p _ hk;exact⟨o,e,b⟩
     obtain⟨o,e,b⟩:=z;refine⟨⟨o,e,b.1⟩,λ a e2=>?_⟩;cases e2;exact⟨o,e,b.2.1⟩
   obtain⟨o,_,_,_,e,b,_⟩:=I.hok p _ hk;refine⟨⟨o,e,b.1⟩,λ a e2=>?_⟩;cases e2;exact⟨o,e,b.2.1⟩
 | _=>exact Ny ty
def tBM(K:Nf)(T:String)(r:V->List V->Hp->VK->Prop)(U:TE)(t:TA):TE:=λ M H Q=>U M H λ x H1=>tyV K T x H1/\t M H1 λ xs H2=>r x xs H2 Q
variable{o e:Kl}{O:List Kl}{U:TE}{t:TA}{name:Str}{R N:Pos}{T Y:String}{r:V->List V->Hp->VK->Prop}
theorem Ig(g:PlainAttrs T)(slot:Slot T name Y)(b:typeOf (.builtin Y)=pure (.type "method_descriptor"))(hm:MtR X Y r)(i:PE X o U)(j:PA X (e::O) t)(hbase:Jz o name X.env (eval o X.env)=eval o X.env:=by rfl)(a:((backTo N (Js (e::O) X.env)).all (λ x=>!x.1)&&(backToKw N (J' [] X.env)).all (λ x=>x.1.isSome)
     && decide ((e::O).length+([]:List Keyword).length+(if ([]:List Keyword).isEmpty then 0 else 1) < 30))=true:=by rfl)(hline:(R.endLine == N.line)=true:=by rfl)(hs:Js (e::O) X.env=(false,eval e X.env)::Js O X.env:=by rfl)(hplain:(backTo N (Js O X.env)).any (·.1)=false:=by rfl) :
   PE X (.Call (.Attribute o name R) (e::O) [] N) (tBM X.K T r U t):=by
 intro D8 s M H Q I h;refine wpAny_Call_method_late hbase a hline rfl (thn (i D8 s M H _ I h) λ v k c=>?_);obtain⟨x,H1,I1,d,ty,l⟩:=c;obtain⟨m,n⟩:=qaQ6 I1 d ty;refine⟨T,Y,g,slot,b,m,n,?_⟩;have f:=j N D8 k M H1 _ I1 l;rw[hs] at f ⊢;refine Calls.callWith_builtin (by show (false||(backTo N (Js O X.env)).any (·.1))=false;rw[hplain]<;>rfl) (Calls.evalArgs_plain ?_);exact thn f λ p q ⟨u,H2,I2,w,q2⟩=>hm D8 q M H2 x u v p Q I2 d w q2
/- xs.append(e),list.index on a module's tuple .. are MtR facts of 06m -/
end
def MtM(X:Cx)(id:String)(r:V->List V->Hp->VK->Prop):Prop :=
 ∀(D8:List (γ×Obj))(s:Sh)(a:St)(H:Hp)(x:V)(xs:List V)(v:V')(us:List V')(Q:VK),Inv X D8 a H s->N7 x v->N8 xs us->r x xs H Q ->
   Kg (Kh X.prog X.w) X.A (call (.builtin id) (v::us)) (EP X D8 a Q) X.xe s
theorem N8.one(h:N8 [x] us):∃ u,us=[u]/\N7 x u:=by
 cases h with
 | cons r t=>cases t;exact⟨_,rfl,r⟩
theorem N8.two{y:V}(h:N8 [x,y] us):∃ u v,us=[u,v]/\N7 x u/\N7 y v:=by
 cases h with
 | cons r t =>
   cases t with
   | cons q t=>cases t;exact⟨_,_,rfl,r,q⟩
theorem N8.reverse{xs:List V}(h:N8 xs us):N8 xs.reverse us.reverse:=by
 induction h with
 | nil=>exact .nil
 | cons r t a=>rw[Lc,Lc];exact N8.append a (.cons r .nil)
theorem N8.rep{xs:List V}{us:List V'}(h:N8 xs us):∀ k:Nat,N8 (K3 k xs).flatten (K3 k us).flatten
 | 0=>.nil
 | k+1=>by
   rw[zBr,zBr,zCg,zCg];exact N8.append h (N8.rep h k)
theorem qQ7(its:List V'):∀(k:Nat)(acc:List V'),
   Li (λ a b=>a++b) acc.toArray (K3 k its.toArray)=(acc++(K3 k its).flatten).toArray
 | 0,acc=>by simp
 | k+1,acc=>by
   have e:acc.toArray++its.toArray=(acc++its).toArray:=by simp
   have e2:(acc++its)++(K3 k its).flatten=acc++(K3 (k+1) its).flatten:=by
     rw[zBr,zCg,zAw]
   rw[<- e2,<- qQ7 its k (acc++its),<- e,zBr,Lj]
section
variable{X:Cx}{k:List (γ×Obj)}{j:St}{H:Hp}{s:Sh}{l:γ}{xs ys:List V}
theorem Inv.lset{its':List V'}{f:Array V'->Array V'}{t':Nat}(I:Inv X k j H s)(a:H l=some (.l xs))(e:s.heap.get? l=some { cls:=.type "list",data:=.seq its.toArray n })(b:f its.toArray=its'.toArray)(c:N8 ys its')(d:ys.length<=Jt) :
   Inv X k j (upd H l (.l ys)) { s with heap:=s.heap.update l (Obj.mapSeq f),toks:=t' }:=by
 have q:=PySem.IsL.update e f;rw[b] at q;refine I.write (x:=l) (e:=l) (by rw[a];exact trivial) (.inl rfl) (λ i u g h=>(zC7 s.heap (Obj.mapSeq f) (Ne.symm g)).trans h) ⟨_,q⟩ ?_;exact⟨d,its',_,c,q⟩
theorem Inv.lnew{t':Nat}(I:Inv X k j H s)(a:N8 ys its)(b:ys.length<=Jt) :
   Inv X k j (upd H s.heap.objs.size (.l ys)) { s with heap:=s.heap.push { cls:=.type "list",data:=.seq its.toArray },toks:=t' } :=
 I.laid (λ _ _ q=>zA2 _ q) (zA4 _) ⟨b,its,0,a,zAs _ rfl⟩
theorem Inv.fresh(I:Inv X k j H s):H s.heap.objs.size=none:=I.hok.fresh (zA4 _)
theorem Inv.lstM(I:Inv X k j H s)(a:H l=some (.l xs)):xs.length<=Jt/\∃(its:List V')(n:Nat),N8 xs its/\xs.length=its.length/\s.heap.get? l=some { cls:=.type "list",data:=.seq its.toArray n }:=by
 obtain⟨z,its,n,r,e⟩:=I.hok l _ a;exact⟨z,its,n,r,r.length,e⟩
theorem qaz6(h:n<=Jt):Builtin.List.listTooLong n=false:=by
 unfold Builtin.List.listTooLong;exact zAl (by lia)
end
section
variable{X:Cx}
def qar1:V->List V->Hp->VK->Prop:=λ x vs H Q=>∃ l xs y,x=.ref l/\vs=[y]/\H l=some (.l xs)/\xs.length < Jt/\Q .non (upd H l (.l (xs++[y])))
theorem qh1:MtM X "list.append" qar1:=by
 intro D8 s L H x g v i Q I c d h;obtain⟨l,j,y,rfl,rfl,b,k,q⟩:=h;cases c;obtain⟨u,rfl,f⟩:=d.one;obtain⟨z,a,n,r,m,e⟩:=I.lstM b;refine Kd Nj ⟨_,e,rfl⟩ F.entry_list_append (F.args_list_append_2 _ _) (PySem.list_append l a.toArray n u (by rw[zA6];lia)) ⟨e,?_⟩;refine⟨.non,_,I.lset (its':=a++[u]) b e (by simp) (r.append (.cons f .nil)) ?_,rfl,q⟩;rw[zAk,Lx];lia
def rCat:R2:=λ x y H Q=>∃ l b xs a,x=.ref l/\y=.ref b/\H l=some (.l xs)/\H b=some (.l a)/\xs.length+a.length<=Jt/\∀ p,H p=none->Q (.ref p) (upd H p (.l (xs++a)))
theorem qaT6:OpR X (Kf .Add) rCat:=by
 intro D8 s L H x y v u Q I c d h;obtain⟨l,b,m,o,rfl,rfl,f,g,p,q⟩:=h;cases c;cases d;obtain⟨z,a,n,r,t,e⟩:=I.lstM f;obtain⟨w,its2,A,i,j,e2⟩:=I.lstM g;refine PySem.P.add_list e e2 ?_ (by rw[zA6,zA6];lia);have k:a.toArray++its2.toArray=(a++its2).toArray:=by simp
 rw[k];exact⟨.ref _,_,I.lnew (t':=s.toks) (r.append i) (by rw[zAk];lia),rfl,q _ I.fresh⟩
def rRep:R2:=λ x y H Q=>∃ l k xs,x=.ref l/\y=.int k/\H l=some (.l xs)/\-(2 ^ 63)<=k/\k < 2 ^ 63/\xs.length * k.toNat<=Jt /\
 ∀ p,H p=none->Q (.ref p) (upd H p (.l (K3 k.toNat xs).flatten))
theorem qaL4(xs:List α)(k:Nat):(K3 k xs).flatten.length=k * xs.length:=by
 induction k with
 | zero=>simp
 | succ k a=>rw[zBr,zCg,zAk,a,Nat.succ_mul,Nat.add_comm]
theorem qaS9:OpR X (Kf .Mult) rRep:=by
 intro D8 s L H x y v u Q I p w h;obtain⟨l,k,J,rfl,rfl,A,B,C,o,q⟩:=h;cases p;obtain⟨t,rfl⟩:=w;obtain⟨z,b,n,r,D,e⟩:=I.lstM A;have c:b.toArray.size * k.toNat<=Jt:=by rw[zA6,<- D];exact o
 have d:¬ b.toArray.size * k.toNat > (2 ^ 63 - 1) / 8:=by
   have:(Jt:Nat)<=(2 ^ 63 - 1) / 8:=by decide
   lia
 have f:¬ (!Builtin.List.listFitsIndex k)=true:=by
   rw[fitsIndex_both B C];exact zAx
 have hlong:¬ Builtin.List.listTooLong (b.toArray.size * k.toNat)=true:=by
   rw[qaz6 c];exact zAx
 have g:Li (λ i j=>i++j) #[] (K3 (if b.toArray.isEmpty=true then 0 else k.toNat) b.toArray)=(K3 k.toNat b).flatten.toArray:=by
   have E:∀ m:Nat,Li (λ i j=>i++j) #[] (K3 m b.toArray)=(K3 m b).flatten.toArray:=λ m=>by
     have:=qQ7 b m []
     rw[zB0] at this;exact this
   rw[E];cases b with
   | nil=>simp
   | cons a K=>rw[if_neg (by simp)]
 refine wpAny_binaryOp_repeat_ref (T := "list") (U := "int") (by decide) ⟨_,e,rfl⟩ (λ G=>typeIs_int G k t) noFill_list_mul F.fills_int_mul Nr repeat_list F.slot_int_index.lookup
   (Kd Nr (typeIs_int s k t) F.entry_int_rmul (F.args_int_rmul_2 _ _) (int___rmul___int_list k t l b.toArray n)
     ⟨e,rfl,⟨_,e,rfl⟩,Kd F.slot_list_mul ⟨_,e,rfl⟩ F.entry_list_mul (F.args_list_mul_2 _ _) (AutoListH.list___mul___list_int_3 l b.toArray n k t f d hlong) ⟨e,?_⟩⟩)
 rw[g];exact⟨.ref _,_,I.lnew (t':=s.toks) (r.rep k.toNat) (by rw[qaL4,Nat.mul_comm];exact o),rfl,q _ I.fresh⟩
end
section
variable{f:Type}[DecidableEq f]
noncomputable def Em(kvs:List (f×V))(k:f):Option V:=(kvs.find? λ a=>decide (a.1=k)).map (·.2)
noncomputable def putK(kvs:List (f×V))(k:f)(v:V):List (f×V) :=
 if (kvs.any λ a=>decide (a.1=k))=true then kvs.map (λ a=>if a.1=k then (a.1,v) else a) else kvs++[(k,v)]
theorem qJ1{p:f×V}{r:List (f×V)}{k:f}(e:p.1=k):Em (p::r) k=some p.2:=by simp[Em,zC6,e]
theorem qJ2{p:f×V}{r:List (f×V)}{k:f}(e:¬ p.1=k):Em (p::r) k=Em r k:=by simp[Em,zC6,e]
theorem qV7(kvs:List (f×V))(k:f)(v:V):(putK kvs k v).length<=kvs.length+1:=by
 unfold putK;split
 . rw[zA8];lia
 rw[zAk,zAf,zBv];lia
theorem RelO.getD{o:Option V}{u:Option V'}{d:V}{d':V'}(r:RelO o u)(a:N7 d d'):N7 (o.getD d) (u.getD d'):=by
 cases o with
 | none=>cases u with
   | none=>exact a
   | some _=>exact(show False from r).elim
 | some _=>cases u with
   | none=>exact(show False from r).elim
   | some _=>exact r
theorem KV.val{kvs:List (f×V)}{vs:List (f×V')}(r:KV kvs vs)(k:f):RelO (Em kvs k) (valueAt vs k):=by
 unfold KV at r
 induction r with
 | nil=>exact True.intro
 | @cons p q ps qs h t ih =>
   obtain⟨c,d⟩:=h;by_cases e:p.1=k
   . have a:q.1=k:=c.symm.trans e
     have b:valueAt (q::qs) k=some q.2:=by simp[valueAt,zC6,a]
     rw[qJ1 e,b];exact d
   have a:¬ q.1=k:=λ z=>e (c.trans z)
   have b:valueAt (q::qs) k=valueAt qs k:=by simp[valueAt,zC6,a]
   rw[qJ2 e,b];exact ih
theorem KV.any{kvs:List (f×V)}{vs:List (f×V')}(r:KV kvs vs)(k:f):(kvs.any λ a=>decide (a.1=k))=vs.any λ a=>decide (a.1=k):=by
 unfold KV at r
 induction r with
 | nil=>rfl
 | cons h t b=>rw[zCu,zCu,b,h.1]
theorem KV.repl{kvs:List (f×V)}{vs:List (f×V')}(r:KV kvs vs)(k:f){y:V}{u:V'}(c:N7 y u) :
   KV (kvs.map λ a=>if a.1=k then (a.1,y) else a) (vs.map λ a=>if a.1=k then (a.1,u) else a):=by
 unfold KV at r ⊢
 induction r with
 | nil=>exact .nil
 | @cons p q ps qs h t ih =>
   rw[zAo,zAo];refine .cons ?_ ih;obtain⟨b,d⟩:=h;by_cases e:p.1=k
   . rw[if_pos e,if_pos (b.symm.trans e)];exact⟨b,c⟩
   rw[if_neg e,if_neg (λ z=>e (b.trans z))];exact⟨b,d⟩
theorem KV.put{kvs:List (f×V)}{vs:List (f×V')}(r:KV kvs vs)(k:f){y:V}{u:V'}(a:N7 y u):KV (putK kvs k y) (stored vs k u):=by
 unfold putK stored;rw[r.any k];by_cases e:(vs.any λ b=>decide (b.1=k))=true
 . rw[if_pos e,if_pos e];exact r.repl k a
 rw[if_neg e,if_neg e];exact Paired.snoc r ⟨rfl,a⟩
theorem KV.length{kvs:List (f×V)}{vs:List (f×V')}(r:KV kvs vs):kvs.length=vs.length:=Paired.length r
end
theorem Ih{P:Ki}{w:Kk}{k:Key}{u:V'}(r:N7 (kV k) u):(qf5 P w).is k u=true:=by
 cases k with
 | inl i=>obtain⟨t,e⟩:=(show ∃ t,u=M3 i t from r);subst e;exact qV4 P w i t
 | inr x=>obtain⟨t,e⟩:=(show ∃ t,u=M6 x t from r);subst e;exact qV3 P w x t
theorem qQ1{P:Ki}{w:Kk}:∀{ks:List Key}{us:List V'},N8 (ks.map kV) us->ItemsAre (qf5 P w) ks us
 | [],_,r=>by rw[Me] at r;cases r;exact .nil
 | k::ks,_,r=>by
   rw[zAo] at r;cases r with
   | cons h t=>exact .cons (Ih h) (qQ1 t)
abbrev KT(H:Hp):List (List Key×V)->List (List Key×γ×V')->Prop:=Paired λ p q=>p.1=q.1/\H q.2.1=some (.q (p.1.map kV))/\N7 p.2 q.2.2
theorem KT.val{H:Hp}{kvs:List (List Key×V)}{xs:List (List Key×γ×V')}(r:KT H kvs xs)(k:List Key):RelO (Em kvs k) ((atKey xs k).map (·.2)):=by
 induction r with
 | nil=>exact True.intro
 | @cons p q ps qs h t ih =>
   obtain⟨c,_,d⟩:=h;by_cases e:p.1=k
   . have a:q.1=k:=c.symm.trans e
     have b:atKey (q::qs) k=some q.2:=by simp[atKey,zC6,a]
     rw[qJ1 e,b];exact d
   have a:¬ q.1=k:=λ z=>e (c.trans z)
   have b:atKey (q::qs) k=atKey qs k:=by simp[atKey,zC6,a]
   rw[qJ2 e,b];exact ih
section
variable{P:Ki}{w:Kk}{H:Hp}{h:Heap}{a:γ}
theorem rd_of{u:HO}(ok:HOk P w H h)(e:Rd H a u):ObjOk P w H h a u:=e.ok ok
theorem Ii{kvs:List (Key×V)}(ok:HOk P w H h)(e:Rd H a (.dK kvs)):kvs.length<=Jt/\(a == J2)=false/\∃ vs,KV kvs vs/\h.DictOf (qf5 P w) a vs :=
 show ObjOk P w H h a (.dK kvs) from rd_of ok e
theorem qaM1{ks:List Key}(ok:HOk P w H h)(e:H a=some (.q (ks.map kV))):(tupleKind (qf5 P w)).is h ks a:=by
 obtain⟨_,b,r,o,c,d,n,f⟩:=(show ObjOk P w H h a (.q (ks.map kV)) from ok a _ e)
 exact⟨o,b.toArray,n,c,d,f,by simpa using qQ1 r⟩
theorem dt_rd{kvs:List (List Key×V)}(ok:HOk P w H h)(e:Rd H a (.dT kvs)):kvs.length<=Jt/\(a == J2)=false /\
   ∃ xs,KT H kvs xs/\h.DictOfH (tupleKind (qf5 P w)) a xs:=by
 obtain⟨z,y,xs,r,o,c,d,f,g,i,j,k⟩:=(show ObjOk P w H h a (.dT kvs) from rd_of ok e)
 refine⟨z,y,xs,r,o,c,d,f,g,i,j,λ x b=>?_,k⟩;have all:∀{l:List (List Key×V)}{m:List (List Key×γ×V')},KT H l m->∀ x∈m,(tupleKind (qf5 P w)).is h x.1 x.2.1:=by
   intro l m q
   induction q with
   | nil=>intro x b;exact nomatch b
   | @cons p q ps qs hq t ih =>
     intro x b;rcases zAh.mp b with e | b
     . subst e
       exact qaM1 ok (by rw[<- hq.1];exact hq.2.1)
     exact ih x b
 exact all r x b
end
def DGet(H:Hp)(a:γ)(y:V)(r:Option V):Prop :=
 (∃ kvs k,Rd H a (.dK kvs)/\y=kV k/\r=Em kvs k)∨∃ kvs k b,Rd H a (.dT kvs)/\y=.ref b/\H b=some (.q (k.map kV))/\r=Em kvs k
section
variable{X:Cx}{b:List (γ×Obj)}{a:St}{H:Hp}{s:Sh}
theorem Inv.big(I:Inv X b a H s):J2 < s.heap.objs.size:=by
 have h:J1 < s.heap.objs.size:=(I.mod.glob.keeps I.bk).lt;exact Nat.lt_trans (by decide) h
end
section
variable{X:Cx}{i:List (γ×Obj)}{f:St}{H:Hp}{s:Sh}{a:γ}{g:List (Key×V)}{A:Kj}{E:V'->Sh->Prop}
theorem d_len{Q:V'->Sh->Prop}(I:Inv X i f H s)(e:Rd H a (.dK g))(h:∀ t s',Inv X i f H s'->Q (.int g.length t) s'):Kg (Kh X.prog X.w) A (call (.builtin "len") [.ref a]) Q E s:=by
 obtain⟨z,b,d,rel,c⟩:=Ii I.hok e;refine call_len_dict b c (by rw[<- rel.length];rw[J0] at z;lia) ?_;rw[<- rel.length];exact h _ _ (I.tok _)
end
def qz1(kvs more:List (Key×V)):List (Key×V):=more.foldl (λ acc a=>putK acc a.1 a.2) kvs
theorem qs9:∀(more kvs:List (Key×V)),(qz1 kvs more).length<=kvs.length+more.length
 | [],kvs=>by show kvs.length<=kvs.length+0;lia
 | p::r,kvs=>by
   have a:=qs9 r (putK kvs p.1 p.2);have b:=qV7 kvs p.1 p.2;show (qz1 (putK kvs p.1 p.2) r).length<=_;rw[zAf];lia
structure M2(X:Cx)(o:Kl)(m:Str)(apos:Pos)(e f:Kl)(cpos:Pos):Prop where
 base:Jz o m X.env (eval o X.env)=eval o X.env
 few:((backTo cpos (Js [e,f] X.env)).all (λ x=>!x.1)&&(backToKw cpos (J' [] X.env)).all (λ x=>x.1.isSome)
   && decide (([e,f]:List Kl).length+([]:List Keyword).length+(if ([]:List Keyword).isEmpty then 0 else 1) < 30))=true
 line:(apos.endLine == cpos.line)=true
 trees:backTo cpos (Js [e,f] X.env)=[(false,eval e X.env),(false,eval f X.env)]
def IsD(H:Hp)(a:γ):Prop:=(∃ kvs,Rd H a (.dK kvs))∨∃ kvs,Rd H a (.dT kvs)
theorem qaV3{X:Cx}{D8:List (γ×Obj)}{k:St}{H:Hp}{s:Sh}{a:γ}(I:Inv X D8 k H s)(d:IsD H a) :
   s.TypeIs (.ref a) "dict" /\ (∀ b,M0 a=.ref b->∃ ob,s.heap.get? b=some ob/\ob.dict=none)/\(a == J2)=false:=by
 rcases d with⟨kvs,e⟩ | ⟨kvs,e⟩
 . obtain⟨_,f,i,_,c⟩:=Ii I.hok e
   refine⟨c.typeIs,λ b q=>?_,f⟩;cases q;obtain⟨ob,_,_,g,h,_⟩:=c;exact⟨ob,g,h.2.1⟩
 obtain⟨_,f,j,_,c⟩:=dt_rd I.hok e;refine⟨c.typeIs,λ b q=>?_,f⟩;cases q;obtain⟨ob,_,_,g,h,_⟩:=c;exact⟨ob,g,h.2.1⟩
section
variable{X:Cx}{v:List (γ×Obj)}{t:St}{H:Hp}{s:Sh}{a:γ}{y d:V}{u r:V'}{o:Option V}{A:Kj}{E:V'->Sh->Prop}
theorem qaW7{Q:V'->Sh->Prop}(n:A.units+1 < cLine)(I:Inv X v t H s)(g:DGet H a y o)(i:N7 y u)(j:N7 d r)(h:∀ m s',Inv X v t H s'->N7 (o.getD d) m->Q m s') :
   Kg (Kh X.prog X.w) A (call (.builtin "dict.get") [.ref a,u,r]) Q E s:=by
 rcases g with⟨kvs,k,e,ey,l⟩ | ⟨kvs,k,b,e,ey,eb,l⟩
 . subst ey
   obtain⟨z,f,q,rel,c⟩:=Ii I.hok e;refine call_meetsIn Nm c.typeIs Nq (No _ _ _) (meets_dict_get_default (qf5 X.prog X.w) a (Ih i) f r) ⟨_,c.mapOf,h _ _ (I.tok _) ?_⟩;rw[l];exact(rel.val k).getD j
 subst ey;cases (show u=M0 b from i);obtain⟨z,f,p,rel,c⟩:=dt_rd I.hok e;refine call_meetsIn Nm c.typeIs Nq (No _ _ _) (meetsH_dict_get_default (tupleKind (qf5 X.prog X.w)) a b f r) ⟨tupleKind_room_in1 n,k,p,qaM1 I.hok eb,c,h _ _ (I.tok _) ?_⟩;rw[l];exact(rel.val k).getD j
end
def qaQ8(td ty tx:TE):TE:=λ b H Q=>td b H λ x H1=>∃ a,x=.ref a/\IsD H1 a/\ty b H1 λ y H2=>tx b H2 λ z H3=>∃ o,DGet H3 a y o/\Q (o.getD z) H3
section
variable{X:Cx}{o e f:Kl}{M N:Pos}{R O S:TE}
theorem qay6(i:X.A.units+1 < cLine)(j:PE X o R)(k:PE X e O)(l:PE X f S)(m:M2 X o "get" M e f N):PE X (.Call (.Attribute o "get" M) [e,f] [] N) (qaQ8 R O S):=by
 intro D8 s L H Q I h;refine wpAny_Call_method m.base m.few m.line F.plainAttrs_dict Nm F.type_dict_get (thn (j D8 s L H _ I h) λ u n b=>?_);obtain⟨x,H1,I1,p,a,q,d,r⟩:=b;subst q;obtain rfl:u=M0 a:=p;obtain⟨t1,t2,_⟩:=qaV3 I1 d;refine⟨t1,t2,?_⟩;rw[m.trees];refine Calls.callWith_builtin rfl (Calls.evalArgs_plain (Calls.spliced_cons (thn (k D8 n L H1 _ I1 r) λ C t ⟨y,H2,I2,v,q2⟩ =>
   Calls.spliced_cons (thn (l D8 t L H2 _ I2 q2) λ D E ⟨z,H3,I3,w,G,g,B⟩=>Calls.spliced_nil ?_))))
 exact qaW7 i I3 g v w λ J K I4 c=>⟨_,H3,I4,c,B⟩
end
end L2
namespace Att
open PySem PySem.W PySem.Calls PyProof.Rows
theorem qz4{P:Params}{h:Heap}:∀(ns:List Int)(vs:List V'),WellAll P h vs (ns.map WData.int)->IntsAre vs ns:=by
 intro ns
 induction ns with
 | nil =>
   intro vs w;rw[Me] at w;cases w;exact .nil
 | cons n ns c =>
   intro vs w;rw[zAo] at w;cases w with
   | cons a b =>
     cases a;exact .cons _ _ (c _ b)
theorem qaj3{l:OpenLaw}{n:Nat}(m:l.most=some n){P:Params}{h:Heap}{args:List WData}{vals:List V'}(b:l.row.toRowW.claim.pre args=true)(i:WellAll P h vals args) :
   ∃ a vs ns,vals=[M0 a]/\args=[WData.list (ns.map WData.int)]/\h.get? a=some { cls:=.type "list",data:=.seq vs.toArray }/\IntsAre vs ns/\ns.length<=n:=by
 have j:WShape.hasAll [] args [.list .int]=true:=(pre_splitW b).1;have k:l.pre.holds [] { args:=args }=true:=(pre_splitW b).2;obtain⟨d,r,rfl,o,p⟩:=hasAllW_cons j;obtain rfl:=hasAllW_nil p;obtain⟨x,rfl,s⟩:=hasW_list o;obtain⟨ns,rfl⟩:=items_int s;have c:ns.length<=n:=by
   unfold OpenLaw.pre at k;have f:(WTm.not (.lt (.lit (.int (n:Int))) (.len (.arg 0)))).holds [] { args:=[.list (ns.map .int)] }=true:=by
     have f:=(holds_andW k).1;rw[m] at f;exact f
   have g:=condW_of f (w_not (w_lt w_lit (w_len_list (w_arg rfl))));rw[zA8] at g;refine Nat.le_of_not_lt λ q=>?_
   have t:(n:Int) < ((ns.length:Nat):Int):=by lia
   first
     | (rw[zAb t] at g;exact absurd g (by decide))
     | (simp at g;lia)
 cases i with
 | cons u v =>
   cases v;cases u with
   | list w e=>exact⟨_,_,ns,rfl,rfl,w,qz4 ns _ e,c⟩
theorem qak1(l:OpenLaw)(args:List WData):l.row.toRowW.claim.post args (.bool true) args=true :=
 postW_of (r:=l.row.toRowW) (X:=(true == true))
   (show WShape.has [] (.bool true) .bool=true by first | rfl | decide | simp[WShape.has,WShape.arms,WShape.armsAll])
   (show (WTm.eq .res (.lit (.bool true))).value [] { args:=args,res:=some (.bool true),after:=args }=some (.bool (true == true)) from w_eq_bool (w_res rfl) w_lit) rfl
theorem qW3{l:OpenLaw}{n:Nat}{q:Ki}{loose:List Str}{XP:(Str->Option V')->Heap->Prop}{YP:Kk->Heap->Prop}{d:DefRec}(u:l.most=some n)(h:d.params.defaults=[])(call:∀(w:Kk)(s₀ s₁:Sh)(mg i:Str->Option V')(fa:γ)(o:Obj)(j cd b:V')(a:γ)(vs:List V')(ns:List Int),
     Ground q loose [] XP w s₀ mg i s₁.heap->YP w s₁.heap ->
     s₁.heap.get? fa=some o->o.data=.func (docDef d.name d.params d.body d.scope j cd b)->s₁.heap.CodeRec cd d.name->mg d.name=some (.ref fa) ->
     s₁.heap.get? a=some { cls:=.type "list",data:=.seq vs.toArray }->IntsAre vs ns->ns.length<=n->s₁.gens = #[] ->
     codeAny (Kh l.prog w) callerA (.call (.ref fa) ⟨[.ref a],[]⟩) (λ r s'=>r=.ok (.ret (.bool true))/\OldK s₁.heap s'.heap/\s'.os=s₁.os/\AllBare s'.gens) s₁) :
   WalkO q loose XP YP l.row.toRowW d [] (λ f vs=>PySem.call f vs):=by
 intro w s₀ s₁ mg i G Y fa o j cd b v kV x y k s m z args vals I c t A p B;obtain rfl:v=.none:=Dflts.none s h;obtain rfl:kV=.none:=Dflts.noKw s;obtain⟨a,vs,ns,rfl,rfl,e,hints,g⟩:=qaj3 u c p;refine enter_call (codeAny_mono (call w s₀ s₁ mg i fa o j cd b a vs ns G Y x (fd_plain y) k m e hints g z) λ r s' C=>?_);obtain⟨rfl,D,E,F⟩:=C;exact⟨.inl ⟨.bool true,.bool true,[],rfl,λ _=>rfl,.bool true,qak1 l _,λ _=>⟨List.Pairwise.nil,λ _ H=>(nomatch H)⟩⟩,D,E,F⟩
end Att
namespace L2
open PySem PySem.Spec PyProof.Rows
theorem qO4:∀{vs:List V'}{ns:List Int},IntsAre vs ns->N8 (ns.map V.int) vs
 | _,_,.nil=>.nil
 | _,_,.cons n t h=>.cons ⟨t,rfl⟩ (qO4 h)
def Only(H:Hp):Prop:=∀ b,H b=none∨∃ o xs,H b=some (.frz o (.l xs))
theorem qaA6{P:Ki}{w:Kk}{K:Nf}{mg C:Str->Option V'}{CX:CXT}{k:Nat}{fa a:γ}{fd:δ}{x:Str}{sp:Sp}{s₁:Sh}{vs:List V'}{ns:List Int}(KX:K.In s₁.heap)(g:s₁.heap.Ns J1 mg)(c:s₁.heap.Ns builtinsNs C)(D:∀ x:Str,x ≠ "__name__" -> C x=Jx x)(i:s₁.heap.NoLimit)(T:s₁.gens = #[])(B:s₁.heap.get? a=some { cls:=.type "list",data:=.seq vs.toArray })(hi:IntsAre vs ns)(M:ns.length<=Jt)(U:Room k callerA)(F:∀ base:Heap,K.In base->base.Ns J1 mg->Fo P w K mg base CX k fa fd [x] sp)(hbind:∀(s:Sh)(u:V'),BindsTo s fd ⟨[u],[]⟩ [(x,u)])(E:∀ H:Hp,Only H->SqL K H a (ns.map V.int)->sp [.ref a] H (λ v _=>v=.bl true) λ _ _ _=>False)(G:∀ H e s',CX [] H s₁ (λ _ _ _=>False) e s'->False) :
   codeAny (Kh P w) callerA (.call (.ref fa) ⟨[.ref a],[]⟩) (λ r s'=>r=.ok (.ret (.bool true))/\OldK s₁.heap s'.heap/\s'.os=s₁.os/\AllBare s'.gens) s₁:=by
 have N:=qO4 hi;have lenV:=hi.length;have core:∀ H:Hp,Only H->SqL K H a (ns.map V.int)->HOk P w H s₁.heap->(∀ b,H b≠none->b=a)->(H a≠none->K.lookup a=none) ->
     codeAny (Kh P w) callerA (.call (.ref fa) ⟨[.ref a],[]⟩) (λ r s'=>r=.ok (.ret (.bool true))/\OldK s₁.heap s'.heap/\s'.os=s₁.os/\AllBare s'.gens) s₁:=by
   intro H O X j Q Y;have base_of:∀{b:γ}{o:Obj},s₁.heap.get? b=some o->H b=none->(Fm s₁.heap H).get? b=some o:=λ e n=>qaB5 e n
   have I:∀{b:γ}{o:Obj}{l:Array DictEntry}{p:Nat},s₁.heap.get? b=some o->o.data=.dict l p->H b=none:=λ{b o l p} e d=>by
     cases q:H b with
     | none=>rfl
     | some u =>
       have J:b=a:=Q b (by rw[q];simp);subst J;rw[B] at e;cases e;have Z:Data.seq vs.toArray _=Data.dict l p:=d;cases Z
   have f:∀{b:γ}{m:Str->Option V'},s₁.heap.Ns b m->(Fm s₁.heap H).Ns b m:=λ{b m} ⟨o,l,p,e,d,r⟩=>⟨o,l,p,base_of e (I e d),d,r⟩
   have t:K.In (Fm s₁.heap H):=λ b o e=>base_of (KX b o e) (by
     cases q:H b with
     | none=>rfl
     | some u =>
       have J:b=a:=Q b (by rw[q];simp);subst J;rw[Y (by rw[q];simp)] at e;cases e)
   have hM:Mod K mg (Fm s₁.heap H):=⟨t,f g,⟨C,f c,D⟩,let ⟨mc,h1,h2⟩:=i;⟨mc,f h1,h2⟩⟩
   have e0:Env0 P w K mg (Fm s₁.heap H) callerA [] s₁ H:=⟨rfl,hM,λ b o e=>qaK1 e,Nat.le_of_eq (qam7 _ _),trivial,λ b c=>absurd (show b∈([]:List γ) from c) (by simp),j,.of_eq T⟩
   refine codeAny_mono ((F _ t (f g)).run callerA [] s₁ H ⟨[.ref a],[]⟩ [.ref a] [.ref a] _ _ U e0 (hbind s₁ (.ref a)) (.cons rfl .nil) (E H O X)) λ r s' h=>?_
   cases r with
   | error e=>exact(G H e s' h).elim
   | ok fl =>
     cases fl with
     | next=>exact Ny h
     | brk=>exact Ny h
     | cont=>exact Ny h
     | ret u =>
       obtain⟨v,H',os,bare,R,y,r',q⟩:=h;have q':v=.bl true:=q;subst q';obtain rfl:u=M5 true:=r';refine⟨rfl,OldK.of_keep λ b o e=>?_,os,bare⟩;cases q:H b with
       | none=>exact R.keep b o e q (by intro z;exact absurd (show b∈([]:List γ) from z) (by simp)) (by simp)
       | some u =>
         rcases O b with z | ⟨ob,xs,z⟩
         . rw[q] at z;cases z
         have z2:=R.frzs b ob _ z;obtain⟨S,_⟩:=j b _ z;obtain⟨e2,_⟩:=y b _ z2;rw[e] at S;cases S;exact e2
 cases L:K.lookup a with
 | some o =>
   have e:=KX a o L;rw[B] at e;cases e;refine core (λ _=>none) (λ _=>.inl rfl) (.inr ⟨_,vs.toArray,_,L,rfl,rfl,rfl,by rw[zA6,lenV];exact M,by simpa using N⟩) (λ b u z=>by have A:(none:Option HO)=some u:=z;cases A) (λ b z=>absurd rfl z) λ z=>absurd rfl z
 | none =>
   refine core (λ b=>if b=a then some (.frz { cls:=.type "list",data:=.seq vs.toArray } (.l (ns.map V.int))) else none) (λ b=>?_) (.inl (.inr ⟨{ cls:=.type "list",data:=.seq vs.toArray },if_pos rfl⟩)) (λ b u z=>?_) (λ b z=>?_) λ _=>L
   . by_cases c:b=a
     . exact .inr ⟨_,_,if_pos c⟩
     exact .inl (if_neg c)
   . by_cases c:b=a
     . have A:=(if_pos c).symm.trans z
       cases A;subst c;exact⟨B,by rw[zA8];exact M,vs,_,N,B⟩
     have A:=(if_neg c).symm.trans z;cases A
   by_cases c:b=a
   . exact c
   exact absurd (if_neg c) z
theorem qaE4{l:W.OpenLaw}{n k:Nat}{q:Ki}{loose:List Str}{XP:(Str->Option V')->Heap->Prop}{YP:Kk->Heap->Prop}{d:DefRec}{K:Params->Nf}{CX:Kk->CXT}{sp:Kk->Sp}{x:Str}(y:l.most=some n)(j:n<=Jt)(m:d.params.defaults=[])(z:Room k callerA)(A:∀(w:Kk)(h:Heap),YP w h->(K w.params).In h)(F:∀(w:Kk)(mg:Str->Option V')(fa:γ)(h:Heap),(K w.params).In h->h.Ns J1 mg->mg d.name=some (.ref fa) ->
     ∃ fd:δ,(∀(s:Sh)(u:V'),BindsTo s fd ⟨[u],[]⟩ [(x,u)]) /\
       ∀ base:Heap,(K w.params).In base->base.Ns J1 mg->Fo l.prog w (K w.params) mg base (CX w) k fa fd [x] (sp w))(p:∀(w:Kk)(H:Hp)(a:γ)(ns:List Int),ns.length<=n->Only H->SqL (K w.params) H a (ns.map V.int)->sp w [.ref a] H (λ v _=>v=.bl true) λ _ _ _=>False)(r:∀(w:Kk)(H:Hp)(s:Sh)(e:V')(s':Sh),CX w [] H s (λ _ _ _=>False) e s'->False) :
   W.WalkO q loose XP YP l.row.toRowW d [] (λ f vs=>PySem.call f vs):=by
 refine Att.qW3 y m λ w s₀ s₁ mg M fa o N O B a vs ns G Y P Q C t i hints c D=>?_
 have KX:=A w _ Y;obtain⟨fd,E,I⟩:=F w mg fa _ KX G.T.g t;exact qaA6 KX G.T.g G.T.b G.T.builtins G.T.nolimit D i hints (zAm c j) z I E (λ H J L=>p w H a ns c J L) λ H e s'=>r w H s₁ e s'
end L2
/- THE LAST THEOREM (shape;LID,My.* are yours):
  My.Adr: a structure of the addresses that your layer names (classes,functions);My.Txt K t: a structure (Prop) of the equations over K;
  My.txt_mk:{K} {implicit addresses ..} (e1:nsIn K J1 "law" = some (some (.ref f))) (e2:K.lookup f=some ⟨oc,od,.func (fnOf "law" "law" params body scope dV kV doc pm an cdv ct),sl⟩) (e3:codeIn K cdv "law" = true) .. : ∃ t,My.Txt K t
(the tactic k_is has no namespace: write k_is) -/
namespace L2
open PySem PySem.Spec PyProof.Rows
variable{f:γ}{qual x:Str}{st:Km}
noncomputable def qm8(s:Km)(j:Nat):Km:=match s with
 | .ClassDef _ _ _ body _ _ _ _ _ _ _=>body.getD j (.Pass ⟨0,0,0,0⟩)
 | _=>.Pass ⟨0,0,0,0⟩
noncomputable def qe1(s:Km):Arguments:=match s with
 | .FunctionDef _ a _ _ _ _ _ _ _ _=>a
 | _=>{ posonlyargs:=[],args:=[],vararg:=none,kwonlyargs:=[],kw_defaults:=[],kwarg:=none,defaults:=[] }
noncomputable def qc6(s:Km):List Km:=match s with
 | .FunctionDef _ _ b _ _ _ _ _ _ _=>b
 | _=>[]
noncomputable def qa3(s:Km):Scope:=match s with
 | .FunctionDef _ _ _ _ _ _ sc _ _ _=>sc
 | _=>{ kind:=.function,names:=[],isGenerator:=false,isCoroutine:=false }
abbrev CX0:CXT:=λ _ _ _ _ _ _=>False
abbrev E0:XK:=λ _ _ _=>False
theorem pass0{X:Cx}:qI6 CX0 X (λ _=>E0):=λ _ _ _ _ _ _ _ h=>h.elim
structure Fun(K:Nf)(x qual:Str)(st:Km)(f:γ)(fd:δ):Prop where
 ex:∃(oc:V')(od:Option γ)(kV doc pm:V')(an:Option γ)(cdv ct:V')(osl:Array (Option V')),
   fd=W.fnOf x qual (qe1 st) (qc6 st) (qa3 st) .none kV doc pm an cdv ct/\K.lookup f=some ⟨oc,od,.func fd,osl⟩/\W.codeIn K cdv qual=true
 kp:W.keepIn K (.ref f)=true
section
variable{P:Ki}{w:Kk}{K:Nf}{r:Str->Option V'}{p:Heap}
theorem Fun.ok{fd:δ}{N ps:List Str}{k:Nat}{sp:Sp}(F:Fun K x qual st f fd)(S:qa9 N ps (qa3 st))(len:∀ vs H Q E,sp vs H Q E->vs.length=ps.length)(hbody:∀(a:V')(A:Kj)(outer:List Env)(s:Sh)(H:Hp)(vs:List V)(Q:VK)(E:XK),Room k (A.deeper (envOfC qual (qa3 st) s.heap.objs.size f a))->sp vs H Q E ->
     ∃ t,PSs (Eg true CX0 P w K r p N qual (qa3 st) f a A outer s H E).nox (qc6 st) t/\t { nx:=λ _ H'=>Q .non H',rt:=Q } (start N vs) H):Fo P w K r p CX0 (k+1) f fd ps sp:=by
 obtain⟨j,l,kV,d,m,n,a,o,e,rfl,g,b⟩:=F.ex;refine Ie g b S len λ A outer s H vs Q E i c=>?_
 obtain⟨t,h,q⟩:=hbody a A outer s H vs Q E i c;exact⟨t,h.nox,q⟩
theorem Fun.binds{fd:δ}{ps:List Str}(F:Fun K x qual st f fd)(h:∀(kV a c:V')(d:Option γ)(b e:V')(us:List V'),us.length=ps.length->bindArgs (W.fnOf x qual (qe1 st) (qc6 st) (qa3 st) .none kV a c d b e) ⟨us,[]⟩=pure (ps.zip us)):Binds K fd ps []:=by
 obtain⟨j,k,kV,a,c,d,b,e,g,rfl,l,i⟩:=F.ex;exact .all (h kV a c d b e)
theorem qam9{oc:V'}{i e:Option γ}{d:Array (Option V')}{kV b g a h:V'}(l:K.lookup f=some ⟨oc,i,.func (W.fnOf x qual (qe1 st) (qc6 st) (qa3 st) .none kV b g e a h),d⟩)(c:W.codeIn K a qual=true)(k:W.keepIn K (.ref f)=true):Fun K x qual st f (W.fnOf x qual (qe1 st) (qc6 st) (qa3 st) .none kV b g e a h):=⟨⟨oc,i,kV,b,g,e,a,h,d,rfl,l,c⟩,k⟩
end
theorem hu_of{A:Kj}{k:Nat}(a:Room k A):A.units+1 < cLine:=zCd (Nat.add_le_add_left (by decide:1<=64) _) a.units
theorem qaj2{n:Nat}(h:n<=1000):n < Jt:=zCd h (by decide)
section
variable{X:Cx}
theorem pv(i:Nat){pos:Pos}(b:X.N[i]? = some x:=by rfl)(c:Vis X.env.scope x:=by first | exact N0 rfl | exact Nz (N0 rfl) | exact Nz (Nz rfl))(d:N' x:=by decide)(a:(x == ("__classdict__" : Str))=false:=by decide):PE X (.Name x pos) (E9 i):=qr2 b c d a
theorem qap1:CallR X (.builtin "len") (λ xs H Q=>∃ a kvs,xs=[V.ref a]/\H a=some (.dK kvs)/\Q (.int kvs.length) H):=by
 intro D8 s f H xs d Q I r h;obtain⟨a,kvs,rfl,b,q⟩:=h;obtain⟨u,rfl,c⟩:=Bf r;cases c;exact d_len I (.inl b) λ t e I'=>⟨.int kvs.length,H,I',⟨t,rfl⟩,q⟩
end
def Same(H H':Hp):Prop:=∀ b o,H b=some o->H' b=some o
theorem Same.trans{H H1 H2:Hp}(a:Same H H1)(b:Same H1 H2):Same H H2:=λ c o h=>b c o (a c o h)
end L2
set_option maxHeartbeats 4000000
namespace L2
open PySem PySem.Spec PyProof.Rows
variable{H:Hp}{a:γ}{e:Kl}{es:List Kl}{i:Int}{p:Pos}{t:TA}{x:Str}{xs:List V}{α:Type}
theorem Hi{t:Sem α}{Q Q':α->Sh->Prop}{M:Model}{A:Kj}{E:V'->Sh->Prop}{s:Sh}(h:Kg M A t Q (λ _ _=>False) s)(b:∀ a s,Q a s->Q' a s):Kg M A t Q' E s :=
 Ka h b λ _ _ x=>x.elim
noncomputable def En(env:Env):List (Str×NameKind)->List (Str×γ)->List (Str×γ)
 | [],acc=>acc
 | (n,k)::r,acc=>En env r (if k == Nw then (n,(env.cells.lookup n).getD 0)::acc else acc)
theorem qy0{env:Env}:∀(l:List (Str×NameKind))(acc:List (Str×γ)),(∀ x∈l,x.2=Nw->∃ c,env.cells.lookup x.1=some c) ->
   (forIn l acc λ(x:Str×NameKind)(r:List (Str×γ)) =>
     (match x with
     | (name,kind)=>if (kind == Nw)=true then (do let c <- cellOf env name;pure (ForInStep.yield ((name,c)::r)):Sem (ForInStep (List (Str×γ)))) else pure (ForInStep.yield r)))=(pure (En env l acc):Sem _)
 | [],acc,_=>rfl
 | (n,k)::r,acc,h=>by
   rw[List.forIn_cons];by_cases a:(k == Nw)=true
   . obtain⟨c,b⟩:=h (n,k) zA7 (by simpa using a)
     have b:env.cells.lookup n=some c:=b;dsimp only;rw[if_pos a];have e:cellOf env n=pure c:=by unfold cellOf;rw[b]
     rw[e];show (forIn r ((n,c)::acc) _:Sem _)=_;rw[qy0 r ((n,c)::acc) λ x d=>h x (zA3 _ d)];show _=(pure (En env r (if (k == Nw)=true then (n,(env.cells.lookup n).getD 0)::acc else acc)):Sem _)
     rw[if_pos a,b];rfl
   dsimp only;rw[if_neg a];show (forIn r acc _:Sem _)=_;rw[qy0 r acc λ x d=>h x (zA3 _ d)];show _=(pure (En env r (if (k == Nw)=true then (n,(env.cells.lookup n).getD 0)::acc else acc)):Sem _)
   rw[if_neg a]
theorem qI2{env:Env}{sc:Scope}(h:∀ x∈sc.names,x.2=Nw->∃ c,env.cells.lookup x.1=some c):closureFor sc env=pure (En env sc.names []):=by
 unfold closureFor;show (forIn sc.names [] _ >>= _)=_
 have:=qy0 (env:=env) sc.names [] h
 rw[show (forIn sc.names ([]:List (Str×γ)) _:Sem _)=pure (En env sc.names []) from this];rfl
theorem qag1{env:Env}:∀(l:List (Str×NameKind))(acc:List (Str×γ))(x:Str)(c:γ),(x,c)∈En env l acc->(x,c)∈acc∨((x,Nw)∈l/\c=(env.cells.lookup x).getD 0)
 | [],acc,x,c,h=>.inl h
 | (n,k)::r,acc,x,c,h=>by
   rcases qag1 r _ x c h with h | ⟨h,e⟩
   . by_cases a:(k == Nw)=true
     . rw[if_pos a] at h
       rcases zAh.mp h with h | h
       . cases h
         exact .inr ⟨by rw[show k=Nw by simpa using a];exact zA7,rfl⟩
       exact .inl h
     rw[if_neg a] at h;exact .inl h
   exact .inr ⟨zA3 _ h,e⟩
theorem qag2{env:Env}:∀(l:List (Str×NameKind))(acc:List (Str×γ))(x:Str),(∃ c,(x,c)∈acc)->∃ c,(x,c)∈En env l acc
 | [],acc,x,h=>h
 | (n,k)::r,acc,x,⟨c,h⟩=>qag2 r _ x ⟨c,by split;exact zA3 _ h;exact h⟩
theorem qN4{env:Env}:∀(l:List (Str×NameKind))(acc:List (Str×γ))(x:Str),(x,Nw)∈l->∃ c,(x,c)∈En env l acc
 | [],acc,x,h=>by simp at h
 | (n,k)::r,acc,x,h=>by
   rcases zAh.mp h with h | h
   . cases h
     exact qag2 r _ _ ⟨_,by rw[if_pos (by rfl)];exact zA7⟩
   exact qN4 r _ x h
theorem qw5{α:Type}:∀{l:List (Str×α)}{x:Str},(∃ c,(x,c)∈l)->∃ c,l.lookup x=some c
 | [],x,⟨c,h⟩=>by simp at h
 | (n,a)::r,x,⟨c,h⟩=>by
   cases b:x == n with
   | true=>exact⟨a,by simp only[zB1,b]⟩
   | false =>
     rcases zAh.mp h with h | h
     . cases h;simp at b
     obtain⟨d,e⟩:=qw5 ⟨c,h⟩;exact⟨d,by simp only[zB1,b];exact e⟩
noncomputable def Di(a:St)(src:List (Option Nat)):St:=src.map λ o=>match o with | none=>none | some j=>(a[j]?).getD none
noncomputable def qp6(X:Cx)(NY:List Str)(src:List (Option Nat))(sc:Scope):Bool :=
 (sc.kind == .function)&&(src.length == NY.length) &&
 (sc.names.all λ x=>x.2 != .cell&&(x.2 != .local||sc.names.lookup x.1 == some .local)&&(x.2 != .free||(X.env.scope.names.lookup x.1 == some .cell||X.env.scope.names.lookup x.1 == some .free))) &&
 ((NY.zip src).all λ p=>match p.2 with | none=>true | some j=>X.N[j]? == some p.1&&sc.names.lookup p.1 == some .free)
def qj8(X:Cx)(NY:List Str)(sc:Scope)(C:γ)(a:Sh)(H0:Hp)(ex:List γ):Cx where
 prog:=X.prog
 w:=X.w
 K:=X.K
 mg:=X.mg
 base:=X.base
 A:=X.A
 N:=NY
 s₀:=a
 H₀:=H0
 env:=compEnvC sc (En X.env sc.names []) C X.env
 outer:=X.stack
 stack:=X.stack
 ex:=ex
 fn:=λ _=>false
 calm:=X.calm
 pn:=[]
 xe:=λ _ _=>False
def PFs(X:Cx)(ifs:List Kl)(t:TT):Prop :=
 ∀(D8:List (γ×Obj))(s:Sh)(b:St)(H:Hp)(Q:Bool->Hp->Prop),Inv X D8 b H s->t b H Q ->
   Kg (Kh X.prog X.w) X.A (forIn ifs true λ c r=>if r=true then do let a <- isTrue c X.env (eval c X.env);pure (ForInStep.yield a) else pure (ForInStep.yield r)) (TP X D8 b Q) X.xe s
def tYes:TT:=λ _ H Q=>Q true H
theorem qaI3{X:Cx}:PFs X [] tYes:=λ _ _ _ H _ I h=>wpAny_tests_nil ⟨H,I,h⟩
theorem qaR9{X:Cx}{c:Kl}{t:TT}(h:PT X c t):PFs X [c] t:=λ D8 s a H Q I q=>wpAny_tests_one (h D8 s a H Q I q)
theorem qn6{prog:Ki}{w:Kk}{A:Kj}{R:Result->Sh->Prop}{s:Sh}{elt target iter:Kl}{ifs:List Kl}{scope:Scope}{pos:Pos}{it acc:V'}{env:Env}(I:Nat->Sh->Prop)(turn:∀ n s,I n s->Kg (Kh prog w) A (pyNext it) (λ r s₁=>match r with
     | none=>R (.ok .next) s₁
     | some v=>Kg (Kh prog w) A (letOwnedTupleGo target it v) (λ _ s₁'=>Kg (Kh prog w) A (assign target env v) (λ _ s₂ =>
         Kg (Kh prog w) A (forIn ifs true λ c r=>if r=true then do let ok <- isTrue c env (eval c env);pure (ForInStep.yield ok) else pure (ForInStep.yield r)) (λ ok s₃ =>
           if ok=true then Kg (Kh prog w) A (eval elt env) (λ x s₄ =>
             Kg (Kh prog w) A (call (.builtin "list.append") [acc,x]) (λ _ s₅=>∃ m,m < n/\I m s₅) (λ _ _=>False) s₄) (λ _ _=>False) s₃
           else ∃ m,m < n/\I m s₃) (λ _ _=>False) s₂) (λ _ _=>False) s₁') (λ _ _=>False) s₁) (λ _ _=>False) s)(n:Nat)(h:I n s) :
   codeAny (Kh prog w) A (.compLoop (.ListComp elt [⟨target,iter,ifs,0⟩] scope pos) 0 it acc env) R s:=by
 refine codeAny_loop rfl I (λ n s a=>?_) n h;show Kg _ A ((compTurn (.ListComp elt [⟨target,iter,ifs,0⟩] scope pos) 0 it acc env).onRaise (λ x=>do noteFrame x env;theTreesLotGoes x)) _ _ s;refine wpAny_noted ?_;rw[compTurn_list];refine G' (wpAny_standAt (G' (Hi (turn n s a) λ r s₁ h₁=>?_)));cases r with
 | none=>exact Jr h₁
 | some v =>
   refine G' (Hi h₁ λ _ s₁' h₁'=>?_);refine G' (Hi h₁' λ _ s₂ h₂=>G' (Hi h₂ λ ok s₃ h₃=>?_));cases ok with
   | false=>exact Jr ⟨rfl,h₃⟩
   | true =>
     exact G' (G' (Hi h₃ λ x s₄ h₄=>G' (Hi h₄ λ _ s₅ h₅=>Jr (Jr ⟨rfl,h₅⟩))))
def qu6(J:It)(g:TG)(tf:TT)(te:TE)(D:γ)(R:Hp->Prop)(σ0:St)(H0:Hp):Prop :=
 ∃ W:Nat->Nat->St->Hp->Prop,(∃ m,W 0 m σ0 H0)/\∀ i m c H,W i m c H ->
   (J.stop i H/\R H)∨(J.go i H/\∃ N:St->Hp->Prop,(∀ c' H',N c' H'->∃ a,a < m/\W (i+1) a c' H')/\∀ x H',J.yld i H x H'->g x c H' λ σ2 H2=>tf σ2 H2 λ b H3 =>
     if b=true then te σ2 H3 λ v H4=>∃ xs,H4 D=some (.l xs)/\xs.length < Jt/\N σ2 (upd H4 D (.l (xs++[v]))) else N σ2 H3)
theorem qp0{env:Env}{x:Str}:∀{names:List (Str×NameKind)},(∀ y∈names,y.2≠.cell) ->
   ((names.map λ (n,k)=>if (k == Nw&&env.scope.kind == .function&&env.kindOf n == some .cell) then (n,Nx) else (n,k)).lookup x=some .cell ∨
    (names.map λ (n,k)=>if (k == Nw&&env.scope.kind == .function&&env.kindOf n == some .cell) then (n,Nx) else (n,k)).lookup x=some .free)->names.lookup x=some .free
 | [],_,h=>by simp at h
 | (n,k)::r,hc,h=>by
   have c:=@qp0 env x r λ y d=>hc y (zA3 _ d)
   have e:k≠.cell:=hc (n,k) zA7;simp only[zAo] at h;cases b:x == n with
   | true =>
     simp only[zB1,b];by_cases a:(k == Nw&&env.scope.kind == .function&&env.kindOf n == some .cell)=true
     . have:k=Nw:=by
         simp only[zBm,zBx] at a;exact a.1.1
       rw[this]
     rw[if_neg a] at h;simp only[zB1,b] at h;rcases h with h | h
     . exact absurd (Nc h) e
     exact h
   | false =>
     simp only[zB1,b];apply c;by_cases a:(k == Nw&&env.scope.kind == .function&&env.kindOf n == some .cell)=true
     . rw[if_pos a] at h
       simpa only[zB1,b] using h
     rw[if_neg a] at h;simpa only[zB1,b] using h
theorem qh2{env:Env}{x:Str}:∀{names:List (Str×NameKind)},names.lookup x=some .free ->
   ((names.map λ (n,k)=>if (k == Nw&&env.scope.kind == .function&&env.kindOf n == some .cell) then (n,Nx) else (n,k)).lookup x=some .cell ∨
    (names.map λ (n,k)=>if (k == Nw&&env.scope.kind == .function&&env.kindOf n == some .cell) then (n,Nx) else (n,k)).lookup x=some .free)
 | [],h=>by simp at h
 | (n,k)::r,h=>by
   have c:=@qh2 env x r;simp only[zAo];cases a:x == n with
   | true =>
     simp only[zB1,a] at h;have h:k=.free:=Nc h;by_cases b:(k == Nw&&env.scope.kind == .function&&env.kindOf n == some .cell)=true
     . rw[if_pos b];simp only[zB1,a];exact .inl trivial
     rw[if_neg b];simp only[zB1,a];rw[h];exact .inr rfl
   | false =>
     simp only[zB1,a] at h;by_cases b:(k == Nw&&env.scope.kind == .function&&env.kindOf n == some .cell)=true
     . rw[if_pos b];simp only[zB1,a];exact c h
     rw[if_neg b];simp only[zB1,a];exact c h
section
variable{X:Cx}{D8:List (γ×Obj)}{σ:St}{H2:Hp}{s2:Sh}{elt tg iter:Kl}{ifs:List Kl}{sc:Scope}{pos:Pos}{NY:List Str}{src:List (Option Nat)}{J:It}{fp:List γ}{it:γ}{tn:Nat->Heap->Prop}{g:TG}{tf:TT}{te:TE}
theorem qS2{R:γ->Hp->Prop}{E:V'->Sh->Prop}{RR:V'->γ->Result->Sh->Prop}(ck:qp6 X NY src sc=true)(hc:X.calm=true)(I2:Inv X D8 σ H2 s2)(T:Hy X.prog X.w X.K tg J fp it tn)(I:tn 0 s2.heap)(f2:∀ b∈fp,Fn X D8 H2 b)(hg:∀ C P H0,PG (qj8 X NY sc C P H0 fp) tg g)(hf:∀ C P H0,PFs (qj8 X NY sc C P H0 fp) ifs tf)(he:∀ C P H0,PE (qj8 X NY sc C P H0 fp) elt te)(rd:∀ D,H2 D=none->qu6 J g tf te D (R D) (Di σ src) (upd H2 D (.l [])))(fin:∀ D C H' s',Inv X D8 σ H' s'->R D H'->H' C=none->X.s₀.heap.objs.size<=C->C≠X.env.locals->(∀ x c,X.env.cells.lookup x=some c->c≠C)->(∀ p∈X.pn++D8,p.1≠C)->C∉X.fs->(∃ m,s'.heap.Ns C m)->RR (.ref D) C (.ok .next) s') :
   Kg (Kh X.prog X.w) X.A (newList []) (λ acc s₃=>Kg (Kh X.prog X.w) X.A (newFunctionEnv sc X.env.globals (En X.env sc.names []) [] X.env.qual none .none (some X.env)) (λ cenv s₄ =>
     codeAny (Kh X.prog X.w) X.A (.compStart (.ListComp elt [⟨tg,iter,ifs,0⟩] sc pos) 0 (.ref it) acc { cenv with scope:=relabel sc X.env }) (RR acc cenv.locals) s₄) E s₃) E s2:=by
 unfold qp6 at ck;simp only[zBm,zBx,zC9] at ck;obtain⟨⟨⟨hkind,G⟩,Q⟩,S⟩:=ck;have hcell:∀ y∈sc.names,y.2≠.cell:=λ y U e=>by
   have:=(Q y U).1.1
   rw[e] at this;exact absurd this (by decide)
 have hfree:∀ y∈sc.names,y.2=.free->(X.env.kindOf y.1=some .cell∨X.env.kindOf y.1=some .free):=λ y U e=>by
   have:=(Q y U).2
   rw[e] at this;show X.env.scope.names.lookup y.1=some .cell∨X.env.scope.names.lookup y.1=some .free;simpa using this
 have clsub:∀ x c,(En X.env sc.names []).lookup x=some c->X.env.cells.lookup x=some c:=λ x c e=>by
   rcases qag1 _ _ x c (PySem.mem_of_lookup e) with h | ⟨h,q⟩
   . simp at h
   obtain⟨d,M⟩:=I2.ok.has x (hfree _ h rfl);rw[M] at q;rw[M,q];rfl
 refine wpAny_newObj_type (wpAny_newFunctionEnv hcell (by intro y U;simp at U) (λ h₁ hns₁ hsb₁=>?_) hkind);dsimp only at hns₁ hsb₁ ⊢;have I3:=I2.lnew (ys:=[]) (its:=[]) (t':=s2.toks) .nil (zBi _);have hD:H2 s2.heap.objs.size=none:=I2.fresh;generalize t:s2.heap.objs.size=D at hns₁ hsb₁ I3 hD ⊢;generalize V:s2.heap.push { cls:=.type "list",dict:=none,data:=.seq ([]:List V').toArray }=h3 at hns₁ hsb₁ I3 ⊢;have Z:h3.objs.size=D+1:=by rw[<- V,zCp,t]
 generalize s:h3.objs.size=C at hns₁ hsb₁ Z ⊢;have I3:Inv X D8 σ (upd H2 D (.l [])) { s2 with heap:=h3,toks:=s2.toks }:=I3;have B:∀ b o,h3.get? b=some o->h₁.get? b=some o:=λ b o e=>hsb₁.extBut b o (by rw[<- s];exact zAq (zAd e)) (zA2 _ e)
 have a0:∀ b o,h3.get? b=some o->b≠C:=λ b o e=>by rw[<- s];exact zAq (zAd e)
 have a1:X.env.locals≠C:=by rw[<- s];exact zAq I3.lt
 have b0:∀ x c,X.env.cells.lookup x=some c->c≠C:=λ x c e=>by
   obtain⟨v,o,F,_⟩:=I3.cell x c e;exact a0 c o F
 have a2:∀ b∈fp,b≠C:=λ b f=>by
   obtain⟨o,F,_⟩:=T.obj _ _ I b f
   have:=zAd F
   rw[t] at this;exact zAq (Nat.lt_trans this (by rw[Z];exact zCo _))
 have b1:∀ b∈fp,b≠D:=λ b f=>by
   obtain⟨o,F,_⟩:=T.obj _ _ I b f
   have:=zAd F
   rw[t] at this;exact zAq this
 have a3:∀ b o,s2.heap.get? b=some o->h3.get? b=some o:=λ b o e=>by rw[<- V];exact zA2 _ e
 have pinC:∀ p∈X.pn++D8,p.1≠C:=λ p hp=>a0 _ _ (I3.pin p hp).1
 have a4:C∉X.fs:=by rw[<- s];exact I3.nofs (zA4 _)
 have b2:X.s₀.heap.objs.size<=C:=by rw[<- s];exact I3.sz
 have stkC:∀ b∈frs X.stack,b≠C:=λ b f e=>by
   rcases zAh.mp (I3.stkSub b f) with z | z
   . exact a1 (z.symm.trans e)
   exact a4 (e ▸ z)
 have HC:upd H2 D (.l []) C=none:=I3.hok.fresh (by show h3.objs.size<=C;exact Nat.le_of_eq s);have a5:∀ b∈fp,b∉frs X.stack:=λ b f z=>by
   obtain⟨_,h1,h2,_⟩:=f2 b f;rcases zAh.mp (I2.stkSub b z) with q | q
   . exact h1 q
   exact h2 q
 let Y:Cx:=qj8 X NY sc C { s2 with heap:=h3 } (upd H2 D (.l [])) fp
 have a6:(Di σ src).length=NY.length:=by unfold Di;rw[zA8];exact G
 have IY:Inv Y [] (Di σ src) (upd H2 D (.l [])) { s2 with heap:=h₁,toks:=s2.toks+0 }:=by
   refine⟨⟨I2.ok.mod,hkind,I2.ok.glob,I2.ok.blt,(by show h3.objs.size<=C;exact Nat.le_of_eq s),λ x y c h1 h2=>I2.ok.inj x y c (clsub x c h1) (clsub y c h2),λ x hx=>?_,λ _ _ z _=>(zAx z).elim,I2.ok.hd,I2.ok.frames,.inl rfl,λ b f=>⟨a2 b f,λ x c e=>(f2 b f).2.2.2.2.1 x c (clsub x c e)⟩,
     λ b o e=>?_,?_,λ b o e f=>?_,λ b f=>a5 b f,?_,λ b f=>?_⟩,rfl,I2.bare,Un.kept B,⟨_,hns₁,λ i x v e1 e2 e3=>?_⟩,λ x c e=>?_,HC,λ x c e=>I3.freeC x c (clsub x c e),λ p hp=>absurd (show p∈([]:List (γ×Obj)) from hp) (by simp),I3.hok.kept B,a6⟩
   . have hx:=qp0 hcell hx
     exact qw5 (qN4 _ _ _ (PySem.mem_of_lookup hx))
   . exact I3.bs b o e
   . exact zAm I2.ok.bsz (zAm (zAm I2.sz (by rw[t];exact zA4 _)) (by show D<=h3.objs.size;lia))
   . rcases (f2 b f).2.2.2.1 with z | z
     . exact I2.ok.noex b o e z
     exact absurd (zAp (zAd (I2.ok.bs b o e).1) z) (zBj _)
   . exact I3.stack
   . exact I3.stkFree b f
   . -- a captured name
     have hi:i < src.length:=by
       have:=(zA5.mp e2).1
       rw[a6,<- G] at this;exact this
     have e1:NY[i]? = some x:=e1;have es:src[i]? = some src[i]:=by simp[hi]
     have ep:(Di σ src)[i]? = some (match src[i] with | none=>none | some j=>(σ[j]?).getD none):=by
       unfold Di;rw[zAy,es];rfl
     rw[ep] at e2;cases hj:src[i] with
     | none=>rw[hj] at e2;cases e2
     | some j =>
       rw[hj] at e2;have e2:(σ[j]?).getD none=some v:=Nc e2;have ej:σ[j]? = some (some v):=by
         cases q:σ[j]? with
         | none=>rw[q] at e2;cases e2
         | some o=>rw[q] at e2;rw[show o=some v from e2]
       have hm:(x,some j)∈NY.zip src:=by
         have:(NY.zip src)[i]? = some (x,some j):=by
           rw[List.getElem?_zip_eq_some];exact⟨e1,by rw[es,hj]⟩
         exact zB4 this
       have q:=S _ hm;simp only[zBm,zBx] at q;obtain⟨qN,qf⟩:=q;have H:=hfree _ (PySem.mem_of_lookup qf) rfl;obtain⟨m,hn,hl⟩:=I3.loc;obtain⟨u,r,l⟩:=hl j x v qN ej (H.elim (λ z=>.inr (.inl z)) λ z=>.inr (.inr z));refine⟨u,r,.inr ⟨qh2 qf,?_⟩⟩;rcases l with⟨z,_⟩ | ⟨_,c,ec,o,F,M⟩
       . have H:X.env.kindOf x=some .cell∨X.env.kindOf x=some .free:=H
         rw[z] at H;rcases H with H | H<;>cases H
       obtain⟨c',a7⟩:=qw5 (qN4 (env:=X.env) sc.names [] x (PySem.mem_of_lookup qf))
       have:=clsub x c' a7
       rw[ec] at this;cases this;exact⟨c,a7,o,B c o F,M⟩
   obtain⟨v,o,F,M⟩:=I3.cell x c (clsub x c e);exact⟨v,o,B c o F,M⟩
 have st₁:tn 0 h₁:=T.keep _ _ _ I λ b f o e=>B b o (a3 b o e)
 have stat:∀{H':Hp},(∀ b∈fp,H' b=none)->∀ b∈fp,Fn Y [] H' b:=λ hn b f=>by
   refine⟨hn b f,a2 b f,a5 b f,.inl f,λ x c e=>(f2 b f).2.2.2.2.1 x c (clsub x c e),λ p hp=>absurd (show p∈([]:List (γ×Obj)) from hp) (by simp)⟩
 have loop:codeAny (Kh X.prog X.w) X.A (.compLoop (.ListComp elt [⟨tg,iter,ifs,0⟩] sc pos) 0 (.ref it) (.ref D) Y.env) (RR (.ref D) C) { s2 with heap:=h₁,toks:=s2.toks+0 }:=by
   obtain⟨W,⟨m0,w0⟩,turn⟩:=rd D hD;refine qn6 (λ n s'=>∃ i σ' H',Inv Y [] σ' H' s'/\tn i s'.heap/\(∀ b∈fp,H' b=none)/\W i n σ' H') ?_ m0 ⟨0,_,_,IY,st₁,λ b f=>by rw[qc7 (b1 b f)];exact(f2 b f).1,w0⟩;rintro n s3 ⟨i,σ3,H3,J3,a8,a9,w3⟩;rcases turn i n σ3 H3 w3 with⟨stop,qn⟩ | ⟨go,N,hN,step⟩
   . refine thn (T.done Y rfl rfl rfl hc i [] s3 σ3 H3 _ J3 (stat a9) a8 stop) λ r s4 k=>?_
     obtain⟨hr,J4⟩:=k;subst hr;have b3:H3 C=none:=J4.free;refine fin D C H3 s4 ?_ qn b3 b2 (Ne.symm a1) b0 pinC a4 (let ⟨m,hn,_⟩:=J4.loc;⟨m,hn⟩);refine I2.call' (ch:=fp) J4.os ?_ J4.hok J4.bare λ b f=>?_
     . have u1:Un (frs X.stack) fp H2 (upd H2 D (.l [])) s2.heap h3:=Un.laid a3 (Nat.le_of_eq t) hD
       exact u1.trans J4.base
     obtain⟨_,h1,_,b4,h4,h5⟩:=f2 b f;exact⟨b4,h1,h4,h5⟩
   refine thn (T.item Y rfl rfl rfl hc i [] s3 σ3 H3 _ J3 (stat a9) a8 go) λ r s4 k=>?_
   obtain⟨u,hr,h4⟩:=k;subst hr;refine thn h4 λ _ s5 k=>?_
   obtain⟨x,H5,J5,r5,y5,L,b5⟩:=k;have J5':=J5.pinned (stat b5) (T.obj _ _ L);have again:∀{σ7:St}{H7:Hp}{O:Sh},Inv Y ([]++qZ8 fp s5.heap) σ7 H7 O->N σ7 H7->∃ m,m < n/\∃ i σ' H',Inv Y [] σ' H' O/\tn i O.heap/\(∀ b∈fp,H' b=none)/\W i m σ' H':=λ{σ7 H7 O} I7 n7=>by
     obtain⟨m',hm,w7⟩:=hN σ7 H7 n7;refine⟨m',hm,i+1,σ7,H7,I7.unpinned,T.keep _ _ _ L λ b f o e=>(I7.pin (b,o) (zB7 _ (zB7 _ (qo9 f e)))).1,λ b f=>?_,w7⟩;obtain⟨o,e,d⟩:=T.obj _ _ L b f;exact(I7.pin (b,o) (zB7 _ (zB7 _ (qo9 f e)))).2.1
   refine thn (hg C _ _ _ s5 σ3 H5 x u _ J5' r5 (step x H5 y5)) λ _ s6 k=>?_
   obtain⟨σ6,H6,J6,q6⟩:=k;refine thn (hf C _ _ _ s6 σ6 H6 _ J6 q6) λ ok O k=>?_
   obtain⟨H7,J7,q7⟩:=k;cases ok with
   | false=>exact again J7 (by simpa using q7)
   | true =>
     rw[if_pos rfl] at q7 ⊢;refine thn (he C _ _ _ O σ6 H7 _ J7 q7) λ y s8 k=>?_
     obtain⟨v,H8,J8,r8,xs,b6,b7,q8⟩:=k;refine thn (qh1 (X:=Y) _ s8 σ6 H8 (.ref D) [v] (.ref D) [y] (λ _ H'=>N σ6 H') J8 rfl (.cons r8 .nil) ⟨D,xs,v,rfl,rfl,b6,b7,q8⟩) λ _ s9 k=>?_
     obtain⟨_,H9,J9,_,q9⟩:=k;exact again J9 q9
 exact codeAny_compStart_list loop (T.self _ 0 _ _ _ st₁ loop)
end
def Dw(wi:TI)(src:List (Option Nat))(g:TG)(tf:TT)(te:TE):TE:=λ a H Q=>wi a H λ J H1=>∀ D,H1 D=none->qu6 J g tf te D (λ H'=>Q (.ref D) H') (Di a src) (upd H1 D (.l []))
section
variable{X:Cx}{elt tg iter:Kl}{ifs:List Kl}{sc:Scope}{pos:Pos}{NY:List Str}{src:List (Option Nat)}{wi:TI}{g:TG}{tf:TT}{te:TE}
theorem qI1(b:qp6 X NY src sc=true):sc.kind=.function/\(∀ y∈sc.names,y.2=.local->sc.names.lookup y.1=some .local)/\(∀ y∈sc.names,y.2=.free->(X.env.kindOf y.1=some .cell∨X.env.kindOf y.1=some .free)):=by
 unfold qp6 at b;simp only[zBm,zBx,zC9] at b;obtain⟨⟨⟨hkind,d⟩,a⟩,f⟩:=b;refine⟨hkind,λ y c e=>?_,λ y c e=>?_⟩
 . have:=(a y c).1.2
   rw[e] at this;simpa using this
 have:=(a y c).2
 rw[e] at this;show X.env.scope.names.lookup y.1=some .cell∨X.env.scope.names.lookup y.1=some .free;simpa using this
theorem qw0(NY:List Str)(src:List (Option Nat))(hi:PI X tg iter wi)(n:∀ C a H0 ex,PG (qj8 X NY sc C a H0 ex) tg g)(p:∀ C a H0 ex,PFs (qj8 X NY sc C a H0 ex) ifs tf)(r:∀ C a H0 ex,PE (qj8 X NY sc C a H0 ex) elt te)(t:X.calm=true:=by rfl)(l:qp6 X NY src sc=true:=by rfl)(hs:∀ x,Jv iter X.env x=pure x:=by intro _;rfl):PE X (.ListComp elt [⟨tg,iter,ifs,0⟩] sc pos) (Dw wi src g tf te):=by
 intro D8 s σ H Q I h;obtain⟨hkind,hnames,hfree⟩:=qI1 l;rw[eval_ListComp];refine wpAny_comprehension_free (use:=none) rfl hs (qI2 λ x u e=>I.ok.has x.1 (hfree x u e)) hkind hnames ?_;refine thn (hi D8 s σ H _ I h) λ v N c=>thn c λ y O d=>?_
 obtain⟨z,f,P,J,H2,rfl,I2,T,i,f2,B⟩:=d;refine qS2 (R:=λ D H'=>Q (.ref D) H') (RR:=λ j C=>compPost (Kh X.prog X.w) X.A X.xe none (EP X D8 σ Q) j C) l t I2 T i f2 (λ C a H0=>n C a H0 f) (λ C a H0=>p C a H0 f) (λ C a H0=>r C a H0 f) B ?_;intro D C H' E I' q F c d G K S ⟨m,L⟩;refine⟨m,L,λ U k=>⟨.ref D,H',?_,rfl,q⟩⟩;exact I'.turned (t':=E.toks) (it:=C) (λ b o M e=>k.extBut b o M e) F d (.inr c) G K
theorem qar3(i:Nat){px spos:Pos}(NY:List Str)(src:List (Option Nat))(L:X.N.Nodup)(hi:PI X tg iter wi)(M:∀ C a H0 ex,PG (qj8 X NY sc C a H0 ex) tg g)(O:∀ C a H0 ex,PFs (qj8 X NY sc C a H0 ex) ifs tf)(P:∀ C a H0 ex,PE (qj8 X NY sc C a H0 ex) elt te)(k:X.N[i]? = some x:=by rfl)(l:Loc X.env.scope x:=by first | exact N0 rfl | exact Nz rfl)(S:X.calm=true:=by rfl)(F:qp6 X NY src sc=true:=by rfl)(n:swapsWith (.ListComp elt [⟨tg,iter,ifs,0⟩] sc pos) (some (.Name x px)) spos.line X.env=pure true:=by rfl)(hs:∀ x,Jv iter X.env x=pure x:=by intro _;rfl)(r:X.fn x=true∨X.env.scope.names.lookup x=some .local:=by first | exact .inl rfl | exact .inr rfl | assumption):PS X (.Assign [.Name x px] (.ListComp elt [⟨tg,iter,ifs,0⟩] sc pos) spos) (Hg (Dw wi src g tf te) (Ep i)):=by
 intro D8 s σ H D I h;obtain⟨hkind,hnames,hfree⟩:=qI1 F;rw[exec_Assign_Name_used _ _ _ _ n];refine G' (wpAny_standAt (G' ?_));show Kg _ _ (do let _ <- comprehension (.ListComp elt [⟨tg,iter,ifs,0⟩] sc pos) sc X.env _ (newList []) false (eval iter X.env) (some (assign (.Name x px) X.env))) _ _ s;refine G' (Ka (wpAny_comprehension_free (use:=some (assign (.Name x px) X.env)) (Q:=λ _ c=>SP X D8 D .next c) rfl hs (qI2 λ x l e=>I.ok.has x.1 (hfree x l e)) hkind hnames ?_) (λ _ c U=>Jr (Jr U)) λ _ _ e=>e);refine thn (hi D8 s σ H _ I h) λ v s1 t=>thn t λ V s2 j=>?_
 obtain⟨W,u,tn,J,H2,rfl,I2,T,y,f2,Y⟩:=j;refine qS2 (R:=λ D' H'=>Ep i (.ref D') σ H' D.nx) (RR:=λ B C=>compPost (Kh X.prog X.w) X.A X.xe (some (assign (.Name x px) X.env)) (λ _ c=>SP X D8 D .next c) B C) F S I2 T y f2 (λ C a H0=>M C a H0 u) (λ C a H0=>O C a H0 u) (λ C a H0=>P C a H0 u) Y ?_;intro D' C H' c I' q G t j Z h4 h5 ⟨m,hn⟩;obtain⟨o,es,ep,ho,K,hr⟩:=hn;have Ip:Inv X (D8++[(C,o)]) σ H' c:=I'.pins_of λ p hp=>(zAj.mp hp).elim (λ z=>I'.pin p (zB7 _ z)) λ z=>by
   have e:p=(C,o):=by simpa using z
   subst e;exact⟨ho,G,j,h5,λ v e=>by rw[K] at e;cases e⟩
 show Kg _ _ (assign (.Name x px) X.env (.ref D')) _ _ _;refine wpAny_assign_Name (qJ4 (v:=.ref D') Ip L k l rfl (λ d I''=>?_) r);have f:d.heap.get? C=some o:=(I''.pin (C,o) (by simp)).1;refine⟨m,⟨o,es,ep,f,K,hr⟩,λ h' E=>⟨_,H',?_,q⟩⟩;exact I''.unpinned.turned (t':=d.toks) (it:=C) (λ b o hb e=>E.extBut b o hb e) G j (.inr t) Z h4
end
theorem qS1{K:Nf}{D:γ}{g:TG}{tf:TT}{te:TE}{R:Hp->Prop}{k:St}(Pv:Nat->St->Hp->Prop)(c:Pv 0 k H)(d:∀ i k H,i<=xs.length->Pv i k H->SqL K H a xs)(hs:∀ i x k H,xs[i]? = some x->Pv i k H->g x k H λ σ2 H2=>tf σ2 H2 λ ok H3=>if ok=true then te σ2 H3 λ v H4=>∃ ys,H4 D=some (.l ys)/\ys.length < Jt/\Pv (i+1) σ2 (upd H4 D (.l (ys++[v]))) else Pv (i+1) σ2 H3)(f:∀ k H,Pv xs.length k H->R H) :
   qu6 (Itl K a) g tf te D R k H:=by
 refine⟨λ i m k H=>m=xs.length - i/\i<=xs.length/\Pv i k H,⟨xs.length,by simp,zBi _,c⟩,?_⟩;rintro i m k H ⟨rfl,h,p⟩;have q:=d i k H h p;by_cases b:i < xs.length
 . refine .inr ⟨⟨xs,xs[i],q,by simp[b]⟩,Pv (i+1),λ k' H' j=>⟨xs.length - (i+1),by lia,rfl,b,j⟩,λ x H' y=>?_⟩
   obtain⟨e,y⟩:=y;subst e;exact hs i x k _ (y xs q) p
 have e:i=xs.length:=by lia
 subst e;exact .inl ⟨⟨xs,q,zA4 _⟩,f k H p⟩
theorem qaf9{D:γ}{lo:Int}{n:Nat}{g:TG}{tf:TT}{te:TE}{R:Hp->Prop}{h:St}(Pv:Nat->St->Hp->Prop)(b:Pv 0 h H)(hs:∀ i h H,i < n->Pv i h H->g (.int (lo+i)) h H λ σ2 H2=>tf σ2 H2 λ ok H3=>if ok=true then te σ2 H3 λ v H4=>∃ ys,H4 D=some (.l ys)/\ys.length < Jt/\Pv (i+1) σ2 (upd H4 D (.l (ys++[v]))) else Pv (i+1) σ2 H3)(c:∀ h H,Pv n h H->R H) :
   qu6 (Itr lo n) g tf te D R h H:=by
 refine⟨λ i m h H=>m=n - i/\i<=n/\Pv i h H,⟨n,by simp,zBi _,b⟩,?_⟩;rintro i m h H ⟨rfl,f,p⟩;by_cases a:i < n
 . refine .inr ⟨a,Pv (i+1),λ h' H' d=>⟨n - (i+1),by lia,rfl,a,d⟩,λ x H' y=>?_⟩
   obtain⟨e,y⟩:=y;subst e y;exact hs i h _ a p
 have e:i=n:=by lia
 subst e;exact .inl ⟨zA4 _,c h H p⟩
section
variable{X:Cx}
theorem sset(i:Nat){te:TE}{pos pos':Pos}(a:X.N.Nodup)(b:PE X e te)(hi:X.N[i]? = some x:=by rfl)(c:Loc X.env.scope x:=by first | exact N0 rfl | exact Nz rfl)(hs:swapsWith e (some (.Name x pos')) pos.line X.env=pure false:=by rfl)(d:X.fn x=true∨X.env.scope.names.lookup x=some .local:=by first | exact .inl rfl | exact .inr rfl | assumption):PS X (.Assign [.Name x pos'] e pos) (Hg te (Ep i)):=qaH5 a hi c b hs d
theorem gnm(i:Nat){pos:Pos}(a:X.N.Nodup)(hi:X.N[i]? = some x:=by rfl)(b:Loc X.env.scope x:=by first | exact N0 rfl | exact Nz rfl)(c:X.fn x=true∨X.env.scope.names.lookup x=some .local:=by first | exact .inl rfl | exact .inr rfl | assumption):PG X (.Name x pos) (Ep i):=qar8 a hi b c
def CDivB(_ j:Int):Prop:=0 < j/\j < 2 ^ 200
theorem qL4:OpR X (Kf .FloorDiv) (rI CDivB λ i j=>.int (i / j)):=opI λ i j _ _ _ _ _ a q=>by
 have c:(0:Int) < j:=a.1;have d:j < 2 ^ 200:=a.2;refine floordiv_int (by lia) (by rw[Int.fdiv_eq_ediv_of_nonneg i (by lia)];exact q) (.inl (PyProof.noPylong_of_log2 ?_));have b:j.natAbs < 2 ^ 200:=by lia
 have e:j.natAbs.log2 < 200:=(Nat.log2_lt (by lia)).mpr b;lia
theorem qaI5{j:Int}(k:Int){a b:Nat}{q pos:Pos}(c:i ^ j.toNat=k:=by decide)(d:0<=j:=by decide)(h1:j<=1000000:=by decide)(h2:i.natAbs < 2 ^ 64:=by decide):PE X (.BinOp (.Constant (.int i) a p) .Pow (.Constant (.int j) b q) pos) (tC (.int k)):=by
 intro D8 s m H Q I h;refine(pe_op qaT0 qG2 qG2) D8 s m H Q I ⟨_,_,rfl,rfl,⟨d,h1,h2⟩,?_⟩;show Q (.int (i ^ j.toNat)) H;rw[c];exact h
theorem qaT4:OpR X (Ju .Is) (λ x y H Q=>∃ b c,x=.bl b/\y=.bl c/\Q (.bl (b == c)) H):=by
 intro D8 s m H x y v u Q I a d h;obtain⟨b,c,rfl,rfl,q⟩:=h;cases a;cases d;exact is_bool ⟨.bl _,H,I,rfl,q⟩
def Dj(H:Hp):V->Option String
 | .non=>some "NoneType" | .bl _=>some "bool" | .int _=>some "int" | .str _=>some "str"
 | .ref a=>match H a with
   | some (.l _)=>some "list" | some (.q _)=>some "tuple" | some (.dK _)=>some "dict" | some (.frz _ (.l _))=>some "list"
   | _=>none
 | _=>none
noncomputable def subT(t n:String):Bool:=t == n||(t == "bool" && n == "int")
theorem qaL9(K:Nf){t n:String}(a:t∈["NoneType", "bool", "int", "str", "list", "tuple", "dict"])(b:n∈["bool", "int", "str", "list", "tuple", "dict"]):Ng K (.type t) (.type n)=some (subT t n):=by
 simp only[zAh,zBn,or_false] at a b;rcases a with rfl | rfl | rfl | rfl | rfl | rfl | rfl<;>rcases b with rfl | rfl | rfl | rfl | rfl | rfl<;>rfl
theorem qac9{K:Nf}{x:V}{t:String}(h:Dj H x=some t):Ef K H x (.type t)/\t∈["NoneType", "bool", "int", "str", "list", "tuple", "dict"]:=by
 cases x with
 | non=>cases h;exact⟨.non,by decide⟩
 | bl b=>cases h;exact⟨.bl b,by decide⟩
 | int b=>cases h;exact⟨.int b,by decide⟩
 | str b=>cases h;exact⟨.str b,by decide⟩
 | byt b=>cases h
 | flt b=>cases h
 | ty b=>cases h
 | ref a =>
   unfold Dj at h;dsimp only at h;split at h
   . cases h;exact⟨.l (by assumption),by decide⟩
   . cases h;exact⟨.q (by assumption),by decide⟩
   . cases h;exact⟨.dK (by assumption),by decide⟩
   . cases h;exact⟨.frz (by assumption),by decide⟩
   cases h
def rIsi:List V->Hp->VK->Prop:=λ xs H Q=>∃ x n t,xs=[x,.ty n]/\Dj H x=some t/\n∈["bool", "int", "str", "list", "tuple", "dict"]/\Q (.bl (subT t n)) H
theorem qn7:CallR X (.builtin "isinstance") rIsi:=by
 intro D8 s m H g i Q I r h;obtain⟨x,n,t,rfl,b,c,q⟩:=h;obtain⟨u,j,rfl,d,a⟩:=vals2 r;cases a;obtain⟨ty,e⟩:=qac9 (K:=X.K) b;exact qE5 I d ty (qaL9 X.K e c) λ f=>⟨.bl _,H,I.tok f,rfl,q⟩
theorem qaS5(n:String){pos:Pos}(hm:X.mg x=none)(a:Gl X x:=by rfl)(b:Jx x=some (.type n):=by rfl)(c:x ≠ "__name__" := by decide)(d:N' x:=by decide):PE X (.Name x pos) (tC (.ty n)):=qaJ0 a hm b rfl c d
theorem qaI7{n:Int}{t:Tok}{pos:Pos}(hm:X.mg x=some (.int n t))(a:Gl X x:=by rfl)(b:N' x:=by decide):PE X (.Name x pos) (tC (.int n)):=qas1 a hm ⟨t,rfl⟩ b
theorem cbi{id:String}{r:List V->Hp->VK->Prop}{pos:Pos}(c:CallR X (.builtin id) r)(hm:X.mg x=none)(d:PA X (e::es) t)(f:Gl X x:=by rfl)(g:Jx x=some (.builtin id):=by rfl)(h:x ≠ "__name__" := by decide)(a:N' x:=by decide)(i:Js (e::es) X.env=(false,eval e X.env)::Js es X.env:=by rfl)(b:(backTo pos (Js es X.env)).any (·.1)=false:=by rfl):PE X (.Call (.Name x p) (e::es) [] pos) (tCB r t):=qay8 c f hm g d h a i b
theorem cty{id:String}{r:List V->Hp->VK->Prop}{pos:Pos}(c:CallR X (.type id) r)(hm:X.mg x=none)(d:PA X (e::es) t)(f:Gl X x:=by rfl)(g:Jx x=some (.type id):=by rfl)(h:x ≠ "__name__" := by decide)(a:N' x:=by decide)(i:Js (e::es) X.env=(false,eval e X.env)::Js es X.env:=by rfl)(b:(backTo pos (Js es X.env)).any (·.1)=false:=by rfl):PE X (.Call (.Name x p) (e::es) [] pos) (tCB r t):=qak2 c f hm g d h a i b
end
def rGetL:V->V->Hp->VK->Prop:=λ o i H Q=>∃ p xs k v,o=.ref p/\i=.int k/\H p=some (.l xs)/\0<=k/\xs[k.toNat]? = some v/\Q v H
theorem qaB7{X:Cx}:PGet X rGetL:=by
 intro D8 s C H o i w y Q I c d h;obtain⟨p,z,k,v,rfl,rfl,e,f,b,q⟩:=h;cases c;obtain⟨t,rfl⟩:=d;obtain⟨a,n,r,g,A⟩:=I.l e;obtain⟨u,j,l⟩:=r.get b;have m:=(zA5.mp b).1;have B:=qM4;refine wpAny_getItem_list (items:=a.toArray) (x:=u) ⟨_,g,rfl,n,rfl⟩ f (by lia) (by simpa using j) ⟨v,H,I,l,q⟩
theorem qaX4{xs:List α}(b:0<=i)(h1:i < xs.length):∃ v,xs[i.toNat]? = some v/\atI xs i=some v:=by
 have a:i.toNat < xs.length:=by lia
 have e:(i.toNat:Int)=i:=by lia
 refine⟨xs[i.toNat],by simp[a],?_⟩
 have:=qI4 (xs:=xs) (j:=i.toNat) (v:=xs[i.toNat]) (by simp[a])
 rw[e] at this;exact this
theorem qB3{xs:List α}(a:0<=i)(h1:i < xs.length):∃ v,v∈xs/\atI xs i=some v:=by
 obtain⟨v,h,e⟩:=qaX4 a h1;exact⟨v,zB4 h,e⟩
theorem qac7(h:H a=some (.l xs)):Dj H (.ref a)=some "list" := by
 unfold Dj;dsimp only;rw[h]
theorem qaA9(h:H a=some (.q xs)):Dj H (.ref a)=some "tuple" := by
 unfold Dj;dsimp only;rw[h]
theorem qas6{xs:List (Key×V)}(h:H a=some (.dK xs)):Dj H (.ref a)=some "dict" := by
 unfold Dj;dsimp only;rw[h]
theorem Same.new{q:γ}{u:HO}(h:H q=none):Same H (upd H q u):=λ b o e=>by rw[qc7 (qd4 e h)];exact e
structure Df(K:Nf)(mg:Str->Option V')(x qual:Str)(st:Km)(f:γ)(fd:δ)(ps:List Str):Prop where
 F:Fun K x qual st f fd
 b:Binds K fd ps []
 m:mg x=some (.ref f)
theorem dfmk{K:Nf}{mg:Str->Option V'}{qual:Str}{st:Km}{f:γ}{ps:List Str}{oc:V'}{j d:Option γ}{i:Array (Option V')}{kV b e a g:V'}(l:K.lookup f=some ⟨oc,j,.func (W.fnOf x qual (qe1 st) (qc6 st) (qa3 st) .none kV b e d a g),i⟩)(c:W.codeIn K a qual=true)(k:W.keepIn K (.ref f)=true)(m:mg x=some (.ref f))(h:∀(kV b e:V')(d:Option γ)(a g:V')(us:List V'),us.length=ps.length->bindArgs (W.fnOf x qual (qe1 st) (qc6 st) (qa3 st) .none kV b e d a g) ⟨us,[]⟩=pure (ps.zip us)) :
   Df K mg x qual st f (W.fnOf x qual (qe1 st) (qc6 st) (qa3 st) .none kV b e d a g) ps:=⟨qam9 l c k,(qam9 l c k).binds h,m⟩
theorem callD{X:Cx}{qual:Str}{st:Km}{f:γ}{fd:δ}{ps:List Str}{k:Nat}{sp:Sp}{pos:Pos}(D:Df X.K X.mg x qual st f fd ps)(G:Fo X.prog X.w X.K X.mg X.base CX0 k f fd ps sp)(d:Room k X.A)(g:PA X (e::es) t)(h:Gl X x:=by rfl)(a:N' x:=by decide)(i:Js (e::es) X.env=(false,eval e X.env)::Js es X.env:=by rfl)(c:(backTo pos (Js es X.env)).any (·.1)=false:=by rfl):PE X (.Call (.Name x p) (e::es) [] pos) (Ic sp [] (λ _=>E0) t) :=
 qas2 G d h D.m D.F.kp D.b .nil pass0 g a i c
end L2
namespace LB
open PySem PySem.Spec PyProof.Rows
theorem qM3:typeLookup (.type "list") "keys" = pure none:=by rw[typeLookup_type,builtinLookup_eq_fast];kernel_rfl
theorem qz2:typeLookup (.type "list") "__getattr__" = pure none:=by rw[typeLookup_type,builtinLookup_eq_fast];kernel_rfl
section
variable{prog:Ki}{w:Kk}{A:Kj}{E:V'->Sh->Prop}{h:Heap}{g:Array GenState}{d:Drawn}{t:Nat}{u:OsState}{a:γ}{its:Array V'}{n:Nat}
theorem qz3{b:Tok}{Q:PySem.Fin->Sh->Prop}(c:h.get? a=some { cls:=.type "list",data:=.seq its n })(f:A.handled=none)(i:∀ h' b e,Heap.NewAttrErr h h' e (.ref a) "keys" -> E (.ref e) ⟨h',g,d,b,u⟩) :
   Kg (Kh prog w) A (Builtin.«object.__getattribute__» ⟨[.ref a,.str "keys" b],[]⟩) Q E ⟨h,g,d,t,u⟩:=by
 have j:(⟨h,g,d,t,u⟩:Sh).TypeIs (.ref a) "list" := ⟨_,c,rfl⟩
 have k:=qM3
 repeat (any_goals (first | assumption | wp_step))
 refine wpAny_raiseAttrError f ?_ (attrMsg_fits (by decide +kernel) (by decide +kernel));exact i
theorem qE4{Q:Option V'->Sh->Prop}(i:h.get? a=some { cls:=.type "list",data:=.seq its n })(k:A.handled=none)(l:∀ h' f,(∀ b o,h.get? b=some o->h'.get? b=some o)->Q none ⟨h',g,d,f,u⟩) :
   Kg (Kh prog w) A (getAttr? (.ref a) "keys") Q E ⟨h,g,d,t,u⟩:=by
 have j:∀ f,(⟨h,g,d,f,u⟩:Sh).TypeIs (.ref a) "list" := λ _=>⟨_,i,rfl⟩
 have m:=j t;have f1:=sub_AttributeError;have f2:=F.slot_list_getattribute.lookup;have f3:=F.slot_list_getattribute.bind (.ref a);have p:=qz2;unfold getAttr? getAttrBy? getAttrBy
 repeat (any_goals (first | assumption | wp_step))
 refine codeAny_call_builtin F.slot_list_getattribute.plain F.entry_list_ga (F.slot_list_getattribute.check _ _ _ _ _ _ _ _ (j _) (F.args_list_getattribute_2 _ _) (qz3 i k λ h' f e c=>?_));obtain⟨q,r,s⟩:=c.there;show Kg _ _ (getattributeRaised _ _ _ _ _ _ _) _ _ _;unfold getattributeRaised
 repeat (any_goals (first | assumption | wp_step))
 exact l _ _ c.keeps
end
theorem qm9:entryFor table "dict.update.loop" = some Builtin.«dict.update.loop»:=entryFor_of_tree (by kernel_rfl)
theorem qe7:plainId "dict.update.loop" = true:=by decide +kernel
section
variable{prog:Ki}{w:Kk}{K:Type}[DecidableEq K]{knd:KeyKind prog w K}{A:Kj}{R:Result->Sh->Prop}
theorem qao2(V:A.handled=none){I ax d:γ}{items:Array V'}(z:ax≠I)(g:d≠I)(B:ax≠d):∀(rest:List (K×V'))(i:Nat)(v:Int)(kvs:List (K×V'))(s:Sh),
   (∀(j:Nat) a,rest[j]? = some a->∃ t key,items[i+j]? = some (.ref t)/\IsTup s.heap t #[key,a.2]/\knd.is a.1 key=true/\t≠I/\t≠d)->items.size=i+rest.length ->
   s.heap.IsListIter I ax i->s.heap.IsList ax items->s.heap.DictOf knd d kvs->kvs.length+rest.length<=Jt ->
   (∀ h' C,h'.DictOf knd d (rest.foldl (λ acc a=>stored acc a.1 a.2) kvs)->(∀ b o,b≠I->b≠d->s.heap.get? b=some o->h'.get? b=some o)->R (.ok (.ret .none)) { s with heap:=h',toks:=C }) ->
   codeAny (Kh prog w) A (.builtin "dict.update.loop" ⟨[.ref d,.ref I,rawInt v,.none],[]⟩) R s:=by
 intro rest
 induction rest with
 | nil =>
   intro i v kvs s D f h x E Q F;refine codeAny_builtin qm9 ?_;rw[Around.under_plainId qe7 _];show Kg _ A.in1 (pyNext (.ref I) >>= _) _ _ s;refine G' (wpAny_pyNext_list_end V h x (by simp at f;simp[f]) λ h' S=>?_);show Kg _ _ (Builtin.Dict.addKeywords d [] >>= _) _ _ _;refine G' (Jr (Jr ?_));have k:h'.DictOf knd d kvs:=by
     obtain⟨o,G,H,l,r⟩:=E;exact⟨o,G,H,S d o g l,r⟩
   exact F h' s.toks k λ b o y _ e=>S b o y e
 | cons a rest W =>
   intro i v kvs s D f h x E Q F;obtain⟨t,key,X,Y,Z,h4,h5⟩:=D 0 a rfl;refine codeAny_builtin qm9 ?_;rw[Around.under_plainId qe7 _];show Kg _ A.in1 (pyNext (.ref I) >>= _) _ _ s;refine G' (wpAny_pyNext_list_item h x X λ h' m p=>?_);have J:IsTup h' t #[key,a.2]:=Y.extBut p.extBut h4;obtain⟨o,l,L,n,M⟩:=J;refine G' (Jw ?_);refine G' (wpAny_tryCatch ?_);unfold Builtin.Dict.pairItems;refine G' (wpAny_typeOf (T := "tuple") ⟨o,l,L⟩ ?_);rw[if_pos (by decide)];refine G' (wpAny_seqItems l M (Jr ?_));dsimp only[Option.getD];have k:h'.DictOf knd d kvs:=by
     obtain⟨o,G,H,l,r⟩:=E;exact⟨o,G,H,p.extBut d o g l,r⟩
   simp only[zAf] at Q f;show Kg _ _ (holding [key,a.2] (dictSet d key a.2)) _ _ _;refine Jw (wpAny_dictSet_pairs (hsz:=by lia) Z k λ a0 q c=>?_);refine Jr ⟨plainId_quiet qe7 _,?_⟩;have U:(stored kvs a.1 a.2).length<=kvs.length+1:=by
     unfold stored;split
     . rw[zA8];lia
     rw[zAk];simp
   refine W (i+1) (v+1) (stored kvs a.1 a.2) _ (λ j N hj=>?_) (by lia) ?_ ?_ q (by lia) λ O C P k3=>?_
   . obtain⟨t',key',g1,g2,g3,g4,g5⟩:=D (j+1) N hj
     exact⟨t',key',by rw[show i+1+j=i+(j+1) by lia];exact g1,(g2.extBut p.extBut g4).extBut c.extBut g5,g3,g4,g5⟩
   . exact m.at λ o e=>c.extBut I o (Ne.symm g) e
   . exact(x.at λ o e=>p.extBut ax o z e).at λ o e=>c.extBut ax o B e
   exact F O C P λ b o y u e=>k3 b o y u (c.extBut b o u (p.extBut b o y e))
end
end LB
namespace L2
open PySem PySem.Spec PyProof.Rows
section
variable{X:Cx}
theorem KV.fold:∀{more:List (Key×V)}{a:List (Key×V')}{kvs:List (Key×V)}{vs:List (Key×V')},KV more a->KV kvs vs->KV (qz1 kvs more) (a.foldl (λ acc b=>stored acc b.1 b.2) vs):=by
 intro more a kvs vs r;unfold KV at r
 induction r generalizing kvs vs with
 | nil=>intro q;exact q
 | @cons p q _ _ h _ ih =>
   intro c;show KV (qz1 (putK kvs p.1 p.2) _) (Li _ (stored vs q.1 q.2) _);refine ih ?_;rw[<- h.1];exact c.put p.1 h.2
def qau8(H:Hp)(ys:List V)(kvs:List (Key×V)):Prop:=Paired (λ y (a:Key×V)=>∃ t,y=.ref t/\H t=some (.q [kV a.1,a.2])) ys kvs
def qaH0:List V->Hp->VK->Prop:=λ xs H Q=>∃ a ys kvs,xs=[.ref a]/\H a=some (.l ys)/\qau8 H ys kvs/\∀ p,H p=none->Q (.ref p) (upd H p (.dK (qz1 [] kvs)))
theorem qI3(hc:X.calm=true):CallR X (.type "dict") qaH0:=by
 intro D8 s σ H xs us Q I r h;obtain⟨a,ys,g,rfl,ha,N,q⟩:=h;obtain⟨u,rfl,ru⟩:=Bf r;cases ru;have hh:=I.ok.hd hc;obtain⟨z,f,n,rv,O,e⟩:=I.lstM ha;obtain⟨x,J,P⟩:∃ x:List (Key×V'),KV g x/\∀(j:Nat) k,x[j]? = some k->∃ t i,f[j]? = some (.ref t)/\IsTup s.heap t #[i,k.2]/\(qf5 X.prog X.w).is k.1 i=true:=by
   clear q e O n ha z
   induction N generalizing f with
   | nil=>exact⟨[],.nil,λ j k C=>by simp at C⟩
   | @cons y k ys g hy _ ih =>
     cases rv with
     | @cons _ u _ us' hu hr =>
       obtain⟨t,rfl,ht⟩:=hy;cases hu;obtain⟨_,its',rt,o,p,R,n,S⟩:=I.hok t _ ht;obtain⟨i,U,rfl,r1,r2⟩:=rt.two;obtain⟨x,J,P⟩:=ih _ hr;refine⟨(k.1,U)::x,.cons ⟨rfl,r2⟩ J,λ j V C=>?_⟩;cases j with
       | zero=>cases C;exact⟨t,i,rfl,⟨o,p,R,n,S⟩,Ih r1⟩
       | succ j=>exact P j V C
 have D:x.length=f.length:=by rw[<- O,<- Paired.length J,<- Paired.length N]
 have big:=I.big;obtain⟨c,gn,dr,W,Y⟩:=s;refine callType_codes (Q₁:=λ E s₁=>E=.ref c.objs.size/\s₁={ heap:=c.push { cls:=.type "dict",data:=.dict #[] },gens:=gn,drawn:=dr,toks:=W,os:=Y }) F.kt_called_dict (F.kt_typeCall_dict_1 _) F.entry_dict_init (kt_code_dict_new _ ⟨rfl,rfl⟩) ?_;rintro E s₁ ⟨rfl,rfl⟩;have l:(c.push { cls:=.type "dict",data:=.dict #[] }).DictOf (qf5 X.prog X.w) c.objs.size []:=Heap.DictOf.new c;have Z:(c.push { cls:=.type "dict",data:=.dict #[] }).get? a=some { cls:=.type "list",data:=.seq f.toArray n }:=zA2 _ e;have G:a < c.objs.size:=zAd e;refine⟨l.typeIs,F.args_dict_init_2 _ _,?_⟩;unfold Builtin.«dict.__init__»;refine G' ?_;unfold Builtin.Dict.selfAndRest;refine G' (wpAny_notOrdered_dict l.typeIs ?_);show Kg _ _ (pure (c.objs.size,[M0 a])) _ _ _;refine Jr ?_;show Kg _ _ (Builtin.Dict.updateFrom "dict.__init__" c.objs.size (.ref a) [] .none) _ _ _;unfold Builtin.Dict.updateFrom;refine G' (wpAny_typeOf (T := "list") ⟨_,Z,rfl⟩ ?_);rw[if_pos (by decide)];refine G' (LB.qE4 Z hh λ B a2 K=>?_);rw[if_pos (by rfl)];have e1:B.get? a=some { cls:=.type "list",data:=.seq f.toArray n }:=K _ _ Z;have d1:B.DictOf (qf5 X.prog X.w) c.objs.size []:=by
   obtain⟨o,L,M,p,r⟩:=l;exact⟨o,L,M,K _ _ p,r⟩
 refine G' (Kb ?_);have hlist:B.IsList a f.toArray:=⟨_,e1,rfl,n,rfl⟩
 refine G' (wpAny_pyIter_list hlist ?_);have v:c.objs.size < B.objs.size:=by
   obtain⟨o,L,M,p,r⟩:=d1;exact zAd p
 refine Jr ⟨plainId_quiet LB.qe7 _,?_⟩;refine LB.qao2 (knd:=qf5 X.prog X.w) (A:=X.A.in1) hh (I:=B.objs.size) (ax:=a) (d:=c.objs.size) (items:=f.toArray) (zAq (Nat.lt_trans G v)) (zAq v) (zAq G) x 0 0 [] _ (λ j k C=>?_) (by simp[D]) ?_ ?_ ?_ ?_ λ h2 a0 d2 k2=>?_
 . obtain⟨t,i,g1,g2,g3⟩:=P j k C
   obtain⟨o,p,r⟩:=g2;have m:=zAd p;exact⟨t,i,by simpa using g1,⟨o,zA2 _ (K _ _ (zA2 _ p)),r⟩,g3,zAq (Nat.lt_trans m v),zAq m⟩
 . exact⟨_,zAs _ rfl,rfl,rfl⟩
 . exact⟨_,zA2 _ e1,rfl,n,rfl⟩
 . obtain⟨o,L,M,p,r⟩:=d1
   exact⟨o,L,M,zA2 _ p,r⟩
 . simp only[zBv,zAi];rw[D,<- O];exact z
 refine⟨rfl,?_⟩;have hf:H c.objs.size=none:=I.hok.fresh (zA4 _);have keep:∀ b o,c.get? b=some o->h2.get? b=some o:=λ b o eb=>by
   have m:=zAd eb;exact k2 b o (zAq (Nat.lt_trans m v)) (zAq m) (zA2 _ (K _ _ (zA2 _ eb)))
 have rm:KV (qz1 [] g) (x.foldl (λ a1 k=>stored a1 k.1 k.2) []):=KV.fold J .nil;have hz:(qz1 [] g).length<=Jt:=by
   have B:=qs9 g [];have h2:=Paired.length N;simp only[zBv] at B;lia
 refine⟨.ref c.objs.size,_,I.laid (t':=a0) (o:=.dK (qz1 [] g)) keep (zA4 _) ?_,rfl,q _ hf⟩;exact⟨hz,zBs.mpr (Ne.symm (zAq big)),_,rm,d2⟩
end
section
variable{X:Cx}
theorem qS6(t:X.calm=true):CallR X (.builtin "all") (λ xs H Q=>∃(a:γ)(bs:List Bool),xs=[.ref a]/\SqL X.K H a (bs.map V.bl)/\Q (.bl (bs.all id)) H):=by
 intro D8 s L H xs E Q I r h;obtain⟨a,bs,rfl,w,q⟩:=h;obtain⟨u,rfl,k⟩:=Bf r;cases k;have y:=I.ok.hd t;obtain⟨d,l,m,F⟩:=I.list w;refine call_all_walk (wpAny_pyIter_list m.isList ?_);have n:a < s.heap.objs.size:=let ⟨o,ho,_⟩:=m.isList;zAd ho
 refine⟨s.heap.objs.size,_,_,_,_,_,λ i=>bs.getD i false,rfl,Walks.list (A:=X.A.in1) y _ a (zAq n) d.toArray,⟨⟨_,zAs _ rfl,rfl,rfl⟩,?_⟩,?_,?_⟩
 . exact m.isList.at λ o e=>zA2 _ e
 . intro i v z Q1 E1 f g
   have f:d[i]? = some v:=by simpa using f
   have c:i < bs.length:=by
     have G:=(zA5.mp f).1;have j:=l.length;rw[zA8] at j;lia
   obtain⟨u,p,k⟩:=l.get (i:=i) (x:=.bl bs[i]) (by simp[c]);rw[f] at p;cases p;cases k;refine Jy ?_;have e:bs.getD i false=bs[i]:=by simp[Ln,c]
   have g:Q1 (bs.getD i false) z:=g;rw[e] at g;exact g
 intro J B C;have e:(Kz d.toArray.size).all (λ i=>bs.getD i false)=bs.all id:=by
   have j:=l.length;rw[zA8] at j;rw[zA6,<- j];rw[Bool.eq_iff_iff];simp only[zC9,zA9,id_eq];constructor
   . intro h b D
     obtain⟨i,c,rfl⟩:=List.mem_iff_getElem.mp D
     have:=h i c
     simpa[Ln,c] using this
   intro h i c
   have:=h bs[i] (Lf c)
   simpa[Ln,c] using this
 rw[e];refine⟨.bl _,H,?_,rfl,q⟩;exact I.kept (t':=B) λ b o e=>C b o (by simp;exact zAq (zAd e)) (zA2 _ e)
noncomputable def ql1(ns:List Int):Nat:=(firstMet (λ i=>ns.getD i 0) ns.length).length
def rSetI(K:Nf):List V->Hp->VK->Prop:=λ xs H Q=>∃(a:γ)(ns:List Int),xs=[.ref a]/\SqL K H a (ns.map V.int)/\ns.length<=1000/\∀ p S,H p=none->Q (.ref p) (upd H p (.set S (ql1 ns)))
theorem qao6(k:X.calm=true):CallR X (.type "set") (rSetI X.K):=by
 intro D8 s L H x y Q I r h;obtain⟨a,f,rfl,l,z,q⟩:=h;obtain⟨u,rfl,m⟩:=Bf r;cases m;have n:=I.ok.hd k;obtain⟨c,i,p,A⟩:=I.list l;have d:c.length=f.length:=by
   have:=i.length
   rw[zA8] at this;exact this.symm
 have t:IntsAre c f:=qG9 i;refine call_set_list (items:=c.toArray) n p.isList (by simpa using t) (by rw[zA6,d];show f.length+1 < 4096;lia) λ B v j w=>?_
 have g:c.toArray.size=f.length:=by rw[zA6,d]
 rw[g] at j;refine⟨.ref s.heap.objs.size,_,I.laid (t':=v) (o:=.set _ (ql1 f)) (λ b o e=>w b o (zAd e) e) (zA4 _) j,rfl,q _ _ (I.hok.fresh (zA4 _))⟩
theorem qap0:CallR X (.builtin "len") (λ xs H Q=>∃(a:γ)(S:Int->Bool)(n:Nat),xs=[.ref a]/\H a=some (.set S n)/\Q (.int n) H):=by
 intro D8 s L H xs l Q I r h;obtain⟨a,S,n,rfl,d,q⟩:=h;obtain⟨u,rfl,e⟩:=Bf r;cases e;obtain⟨o,f,m,t,g,b,i,_,_,c,j,k⟩:=I.hok a _ d;subst k;have c:f.size < 4096:=c;exact call_len_set g b i j (by lia) ⟨.int _,H,I.tok _,⟨_,rfl⟩,q⟩
end
theorem qN0(ns:List Int):ql1 ns=ns.length↔ns.Nodup:=by
 have f:∀ i,i<=ns.length->(∀ k,k∈firstMet (λ i=>ns.getD i 0) i↔k∈ns.take i)/\((firstMet (λ i=>ns.getD i 0) i).length=i↔(ns.take i).Nodup):=by
   intro i
   induction i with
   | zero=>intro _;rw[firstMet_zero];simp
   | succ i m =>
     intro r;obtain⟨c,l⟩:=m (by lia);have n:=firstMet_length_le (λ i=>ns.getD i 0) i;have b:i < ns.length:=by lia
     have o:ns.take (i+1)=ns.take i++[ns[i]]:=by rw[zBk];simp[b]
     have p:ns.getD i 0=ns[i]:=by simp[Ln,b]
     rw[firstMet_succ,o,p];unfold step_dedup;by_cases d:ns[i]∈firstMet (λ i=>ns.getD i 0) i
     . have a:ns[i]∈ns.take i:=(c _).mp d
       have g:(firstMet (λ i=>ns.getD i 0) i).any (· == ns[i])=true:=List.any_eq_true.mpr ⟨_,d,by simp⟩;rw[if_pos g];refine⟨λ k=>?_,?_⟩
       . rw[c];simp only[zAj,zAg]
         exact⟨.inl,λ h=>h.elim id λ e=>by rw[e];exact a⟩
       constructor
       . intro h;lia
       intro h;rw[zBt] at h;exact absurd rfl (h.2.2 _ a _ (zAg.mpr rfl))
     have a:¬ ns[i]∈ns.take i:=λ h=>d ((c _).mpr h)
     have g:¬ (firstMet (λ i=>ns.getD i 0) i).any (· == ns[i])=true:=λ h=>by
       obtain⟨x,j,e⟩:=List.any_eq_true.mp h;exact d (by rw[<- (zBx.mp e)];exact j)
     rw[if_neg g];refine⟨λ k=>?_,?_⟩
     . simp only[zAj,zAg]
       rw[c]
     rw[zAk,zBt];simp only[Lx];constructor
     . intro h
       refine⟨l.mp (by lia),by simp,λ x j y q=>?_⟩;rw[zAg.mp q];exact λ e=>a (e ▸ j)
     intro h
     have:=l.mpr h.1
     lia
 have:=(f ns.length (zA4 _)).2
 rw[zAr (zA4 _)] at this;exact this
end L2
namespace L2
open PySem PySem.Spec PyProof.Rows PySem.SeqAt
variable{A:Kj}{xs:List V}
inductive EqD(H:Hp):Nat->V->V->Bool->Prop
 | flat {n:Nat} {x y:V} (hx:flatV x=true) (hy:flatV y=true):EqD H n x y (eqV x y)
 | same {n:Nat} (a:γ):EqD H n (.ref a) (.ref a) true
 | lsts {n:Nat} {a b:γ} {xs ys:List V} {e:Nat->Bool} (ne:a≠b) (ha:H a=some (.l xs)) (hb:H b=some (.l ys)) (hl:xs.length=ys.length) (he:∀ i x y,xs[i]? = some x->ys[i]? = some y->EqD H n x y (e i)):EqD H (n+1) (.ref a) (.ref b) ((Kz xs.length).all e)
 | lens {n:Nat} {a b:γ} {xs ys:List V} (ne:a≠b) (ha:H a=some (.l xs)) (hb:H b=some (.l ys)) (hl:xs.length≠ys.length):EqD H (n+1) (.ref a) (.ref b) false
 | tups {n:Nat} {a b:γ} {xs ys:List V} {e:Nat->Bool} (ne:a≠b) (ha:H a=some (.q xs)) (hb:H b=some (.q ys)) (he:∀ i x y,xs[i]? = some x->ys[i]? = some y->EqD H n x y (e i)):EqD H (n+1) (.ref a) (.ref b) ((Kz (min xs.length ys.length)).all e&&xs.length == ys.length)
inductive RcD(H:Hp):V->V->Bool->Prop
 | flat {x y:V} (hx:flatV x=true) (hy:flatV y=true):RcD H x y (eqV x y)
 | lsts {a b:γ} {xs ys:List V} {e:Nat->Bool} (ha:H a=some (.l xs)) (hb:H b=some (.l ys)) (hl:xs.length=ys.length) (he:∀ i x y,xs[i]? = some x->ys[i]? = some y->EqD H 20 x y (e i)):RcD H (.ref a) (.ref b) ((Kz xs.length).all e)
 | lens {a b:γ} {xs ys:List V} (ha:H a=some (.l xs)) (hb:H b=some (.l ys)) (hl:xs.length≠ys.length):RcD H (.ref a) (.ref b) false
section
variable{X:Cx}{E:List (γ×Obj)}{D:St}{H:Hp}{s:Sh}
theorem Inv.lstI(I:Inv X E D H s){a:γ}(h:H a=some (.l xs)):∃ its:List V',N8 xs its/\s.heap.IsList a its.toArray:=by
 obtain⟨z,its,n,r,_,e⟩:=I.lstM h;exact⟨its,r,_,e,rfl,n,rfl⟩
theorem Inv.tupI(I:Inv X E D H s){a:γ}(h:H a=some (.q xs)):∃ its:List V',N8 xs its/\s.heap.IsTuple a its.toArray:=by
 obtain⟨z,its,r,o,b,c,n,d⟩:=I.hok a _ h;exact⟨its,r,o,b,c,n,d⟩
theorem qB5(A:Kj):A.in1.units<=A.units+1:=zA4 _
theorem qW5{P:V->V->Nat->Prop}{e:Nat->Bool}{ys:List V}{its its2:List V'}(r:N8 xs its)(a:N8 ys its2)(k:∀ i x y u v,xs[i]? = some x->ys[i]? = some y->N7 x u->N7 y v->EqAt A s u v (e i)) :
   ∀ j (h1:j < its.toArray.size) (h2:j < its2.toArray.size),EqAt A s its.toArray[j] its2.toArray[j] (e j):=by
 intro j h1 h2;rw[zA6] at h1 h2;have h:=r.length;have l:=a.length;obtain⟨u,b,d⟩:=r.get (i:=j) (x:=xs[j]'(by lia)) (by simp);obtain⟨v,c,f⟩:=a.get (i:=j) (x:=ys[j]'(by lia)) (by simp);have g:its.toArray[j]=u:=by
   have:its[j]? = some its[j]:=by simp[h1]
   rw[this] at b;simpa using Nc b
 have e2:its2.toArray[j]=v:=by
   have:its2[j]? = some its2[j]:=by simp[h2]
   rw[this] at c;simpa using Nc c
 rw[g,e2];exact k j _ _ u v (by simp) (by simp) d f
theorem EqD.at(I:Inv X E D H s){n:Nat}{x y:V}{b:Bool}(h:EqD H n x y b):∀{A:Kj}{u v:V'},N7 x u->N7 y v->A.units+n+1 < cLine->EqAt A s u v b:=by
 induction h with
 | flat t w=>intro A u v c d _;exact qaO4 c d t w
 | same a=>intro A u v c d _;cases c;cases d;exact EqAt.same _
 | @lsts n a b xs ys e ne ha hb hl he ih =>
   intro A u v c d o;cases c;cases d;obtain⟨f,r,p⟩:=I.lstI ha;obtain⟨its2,g,j⟩:=I.lstI hb;have z:f.toArray.size=its2.toArray.size:=by rw[zA6,zA6,<- r.length,<- g.length,hl]
   have q:=EqAt.of_refs ne (RcAt.lists (A:=A) p j z (by lia) (e:=e) (qW5 (P:=λ _ _ _=>True) r g λ i x y u v k e2 l m=>ih i x y k e2 l m (by have:=qB5 A;lia)));rw[zA6,<- r.length] at q;exact q
 | @lens n a b xs ys ne ha hb hl =>
   intro A u v c d o;cases c;cases d;obtain⟨f,r,p⟩:=I.lstI ha;obtain⟨its2,g,j⟩:=I.lstI hb;exact EqAt.of_refs ne (RcAt.lists_lengths p j (by rw[zA6,zA6,<- r.length,<- g.length];simpa using hl) (by lia))
 | @tups n a b xs ys e ne ha hb he ih =>
   intro A u v c d o;cases c;cases d;obtain⟨f,r,p⟩:=I.tupI ha;obtain⟨its2,g,j⟩:=I.tupI hb;have q:=EqAt.of_refs ne (RcAt.tuples (A:=A) p j (by lia) (e:=e) (qW5 (P:=λ _ _ _=>True) r g λ i x y u v k e2 l m=>ih i x y k e2 l m (by have:=qB5 A;lia)));rw[zA6,zA6,<- r.length,<- g.length] at q;exact q
theorem RcD.at(I:Inv X E D H s){x y:V}{b:Bool}(h:RcD H x y b){u v:V'}(g:N7 x u)(c:N7 y v)(C:A.units+60 < cLine):RcAt A s u v b/\RcNeAt A s u v (!b):=by
 cases h with
 | flat q m =>
   cases x with
   | non =>
     cases g;cases y with
     | non=>cases c;exact⟨RcAt.none_none,RcNeAt.none_none⟩
     | bl b=>cases c;exact⟨RcAt.none_bool b,RcNeAt.none_bool b⟩
     | int b=>obtain⟨t,rfl⟩:=c;exact⟨RcAt.none_int b t,RcNeAt.none_int b t⟩
     | str b=>obtain⟨t,rfl⟩:=c;exact⟨RcAt.none_str b t,RcNeAt.none_str b t⟩
     | _=>exact absurd (show false=true from m) zAx
   | bl a =>
     cases g;cases y with
     | non=>cases c;exact⟨RcAt.bool_none a,RcNeAt.bool_none a⟩
     | bl b=>cases c;exact⟨RcAt.bool_bool a b,RcNeAt.bool_bool a b⟩
     | int b=>obtain⟨t,rfl⟩:=c;exact⟨RcAt.bool_int a b t,RcNeAt.bool_int a b t⟩
     | str b=>obtain⟨t,rfl⟩:=c;exact⟨RcAt.bool_str a b t,RcNeAt.bool_str a b t⟩
     | _=>exact absurd (show false=true from m) zAx
   | int a =>
     obtain⟨d,rfl⟩:=g;cases y with
     | non=>cases c;exact⟨RcAt.int_none a d,RcNeAt.int_none a d⟩
     | bl b=>cases c;exact⟨RcAt.int_bool a d b,RcNeAt.int_bool a d b⟩
     | int b=>obtain⟨t,rfl⟩:=c;exact⟨RcAt.int_int a d b t,RcNeAt.int_int a d b t⟩
     | str b=>obtain⟨t,rfl⟩:=c;exact⟨RcAt.int_str a d b t,RcNeAt.int_str a d b t⟩
     | _=>exact absurd (show false=true from m) zAx
   | str a =>
     obtain⟨d,rfl⟩:=g;cases y with
     | non=>cases c;exact⟨RcAt.str_none a d,RcNeAt.str_none a d⟩
     | bl b=>cases c;exact⟨RcAt.str_bool a d b,RcNeAt.str_bool a d b⟩
     | int b=>obtain⟨t,rfl⟩:=c;exact⟨RcAt.str_int a d b t,RcNeAt.str_int a d b t⟩
     | str b=>obtain⟨t,rfl⟩:=c;exact⟨RcAt.str_str a d b t,RcNeAt.str_str a d b t⟩
     | _=>exact absurd (show false=true from m) zAx
   | _=>exact absurd (show false=true from q) zAx
 | @lsts a b xs ys e ha hb hl he =>
   cases g;cases c;obtain⟨f,r,p⟩:=I.lstI ha;obtain⟨its2,n,j⟩:=I.lstI hb;have l:f.toArray.size=its2.toArray.size:=by rw[zA6,zA6,<- r.length,<- n.length,hl]
   have k:=qW5 (P:=λ _ _ _=>True) (e:=e) (A:=A.in1) (s:=s) r n λ i x y u v w e2 z B=>(he i x y w e2).at I z B (by have:=qB5 A;lia)
   have o:=RcAt.lists p j l (by lia) k;have q2:=RcNeAt.lists p j l (by lia) k;rw[zA6,<- r.length] at o q2;exact⟨o,q2⟩
 | @lens a b xs ys ha hb hl =>
   cases g;cases c;obtain⟨f,r,p⟩:=I.lstI ha;obtain⟨its2,n,j⟩:=I.lstI hb;have l:(f.toArray.size != its2.toArray.size)=true:=by rw[zA6,zA6,<- r.length,<- n.length];simpa using hl
   exact⟨RcAt.lists_lengths p j l (by lia),RcNeAt.lists_lengths p j l (by lia)⟩
end
def rEqD:R2:=λ x y H Q=>∃ b,RcD H x y b/\Q (.bl b) H
def rNeD:R2:=λ x y H Q=>∃ b,RcD H x y b/\Q (.bl (!b)) H
theorem qk7{X:Cx}(e:X.A.units+64 < cLine):OpR X (Ju .Eq) rEqD:=by
 intro D8 s f H x y v u Q I a c ⟨b,d,q⟩;exact(d.at I a c (A:=X.A) (by lia)).1 X.prog X.w X.xe _ ⟨.bl b,H,I,rfl,q⟩
theorem qak4{X:Cx}(e:X.A.units+64 < cLine):OpR X (Ju .NotEq) rNeD:=by
 intro D8 s f H x y v u Q I a c ⟨b,d,q⟩;exact(d.at I a c (A:=X.A) (by lia)).2 X.prog X.w X.xe _ ⟨.bl (!b),H,I,rfl,q⟩
theorem qaf3:∀{x:V},flatV x=true->eqV x x=true:=by
 intro x h;cases x with
 | non=>rfl
 | bl b=>exact zB9 b
 | int b=>exact zB9 b
 | str b=>exact zB9 b
 | _=>exact absurd (show false=true from h) zAx
theorem Room.u64{k:Nat}(a:Room k A):A.units+64 < cLine:=a.units
end L2
namespace L2
open PySem PySem.Spec PyProof.Rows
section
variable{X:Cx}
def qar0:V->List V->Hp->VK->Prop:=λ x vs H Q=>∃ l xs y i,x=.ref l/\vs=[.int i,y]/\H l=some (.l xs)/\0<=i/\i < 2 ^ 63/\xs.length < Jt/\Q .non (upd H l (.l (xs.take i.toNat++y::xs.drop i.toNat)))
theorem qal4:MtM X "list.insert" qar0:=by
 intro D8 s G H x o v p Q I f g h;obtain⟨l,w,y,i,rfl,rfl,d,A,B,C,q⟩:=h;cases f;obtain⟨D,u,rfl,j,k⟩:=g.two;obtain⟨t,rfl⟩:=j;obtain⟨z,a,n,r,E,e⟩:=I.lstM d;have b:¬ (!Builtin.List.listFitsIndex i)=true:=by
   unfold Builtin.List.listFitsIndex;rw[zAb (show -(2 ^ 63:Int)<=i by lia),zAb (show i < 2 ^ 63 by lia)];decide
 refine Kd Nn ⟨_,e,rfl⟩ F.entry_list_insert (F.args_list_insert_3 _ _ _) (PySem.AutoListH.list_insert_list_int_val_1 l a.toArray n i t u b (by rw[zA6];lia)) ⟨e,?_⟩;refine⟨.non,_,I.lset (its':=a.take i.toNat++u::a.drop i.toNat) d e ?_ ((r.take _).append (.cons k (r.drop _))) ?_,rfl,q⟩
 . dsimp only
   rw[if_neg (by lia),zA6];apply Array.toList_inj.mp;simp;by_cases m:i.toNat<=a.length
   . rw[zCt m,List.append_cancel_left_eq]
     rw[zAr (by simp)]
   have c:a.length<=i.toNat:=by lia
   rw[Nat.min_eq_right c];simp[zAr c,K5 c]
 rw[zAk,zAf,zBh,zBz];lia
def tRev(K:Nf)(te:TE):TE:=λ G H Q=>te G H λ x H1=>∃ a xs,x=.ref a/\SqL K H1 a xs/\∀ p,H1 p=none->Q (.ref p) (upd H1 p (.l xs.reverse))
theorem qax9(its:List V'):slicePick its.toArray none none (some (-1))=its.reverse.toArray:=by
 unfold slicePick sliceBounds sliceRange;simp only[Option.getD_some,zA6];have c:¬ ((-1:Int) > 0):=by decide
 simp only[c,if_false];apply Array.toList_inj.mp;simp only[List.toList_toArray];by_cases d:its.length=0
 . have:its=[]:=List.length_eq_zero_iff.mp d
   subst this;rfl
 rw[if_pos (by lia)];have f:(((its.length:Int) - 1 - -1 - -1 - 1) / (- -1)).toNat=its.length:=by
   have:((its.length:Int) - 1 - -1 - -1 - 1)=its.length:=by lia
   rw[this];simp
 rw[f,zCs];apply List.ext_getElem?;intro k;have a:∀ m,m<=its.length->(Kz m).filterMap ((λ x=>its.toArray[x]?) ∘ λ(k:Nat)=>((its.length:Int) - 1 + -1 * (k:Int)).toNat)=(its.reverse).take m:=by
   intro m
   induction m with
   | zero=>intro _;rfl
   | succ m g =>
     intro h;rw[zCi,Ly,g (by lia),zBk];congr 1;have e:((its.length:Int) - 1 + -1 * (m:Int)).toNat=its.length - 1 - m:=by lia
     simp only[zAz,Lp,Function.comp];rw[e,List.getElem?_reverse (by lia)];have b:its.length - 1 - m < its.length:=by lia
     simp[b]
 rw[a _ (zA4 _),zAr (by simp)]
theorem qaS1{e:Kl}{te:TE}{i:Nat}{p q p2 pos:Pos}(k:PE X e te):PE X (.Subscript e (.Slice none none (some (.UnaryOp .USub (.Constant (.int 1) i p) q)) p2) pos) (tRev X.K te):=by
 intro D8 s G H Q I h;refine Subscript_ (thn (k D8 s G H _ I h) λ v l d=>?_);obtain⟨x,H1,I1,m,f⟩:=d;obtain⟨a,E,rfl,n,f⟩:=f;cases m;refine wpAny_Slice ?_;simp only[evalPart_none,evalPart_some];refine Jr (Jr (thn ((pe_un qaE9 qG2) D8 l G H1 (λ v H'=>v=.int (-1)/\H'=H1) I1 ⟨1,rfl,rfl,rfl⟩) λ u c d=>?_));obtain⟨y,H2,I2,o,z,B⟩:=d;subst z B;obtain⟨t,rfl⟩:=o;have I3:Inv X D8 G H2 { c with heap:=c.heap.push { cls:=.type "slice",data:=.fields #[.none,.none,.int (-1) t] } }:=I2.kept (t':=c.toks) λ b F q=>zA2 _ q
 obtain⟨D,r,g,j⟩:=I3.list n;show Kg (Kh X.prog X.w) X.A (subscriptTail e _ (.ref a) (.ref c.heap.objs.size)) (EP X D8 G Q) X.xe { c with heap:=c.heap.push { cls:=.type "slice",data:=.fields #[.none,.none,.int (-1) t] } };refine tail_any (ops:=[.ref a,.ref c.heap.objs.size]) g.isList.typeIs slot_list_getitem.lookup (wpAny_getItem_list_slice g.isList (Heap.IsSliceOf.new ..) .none .none (.int (-1) t) (by decide) ?_ (by rw[zA6,<- r.length];exact j)) (by with_unfolding_all rfl);rw[qax9];exact⟨.ref (c.heap.push { cls:=.type "slice",data:=.fields #[.none,.none,.int (-1) t] }).objs.size,_,I3.lnew (t':=c.toks) r.reverse (by rw[List.length_reverse];exact j),rfl,f _ I3.fresh⟩
end
structure Cl(K:Nf)(mg:Str->Option V')(x:Str)(C:γ):Prop where
 cl:Cls K C
 m:mg x=some (.ref C)
structure Md(K:Nf)(C:γ)(m qual:Str)(st:Km)(f:γ)(fd:δ)(ps:List Str):Prop where
 F:Fun K m qual st f fd
 b:Binds K fd ps []
 me:Ia K C m f
 isf:W.isFn K (.ref f)=true
theorem mdmk{K:Nf}{C:γ}{m qual:Str}{st:Km}{f:γ}{ps:List Str}{oc:V'}{o e:Option γ}{n:Array (Option V')}{kV d g b j:V'}(l:K.lookup f=some ⟨oc,o,.func (W.fnOf m qual (qe1 st) (qc6 st) (qa3 st) .none kV d g e b j),n⟩)(c:W.codeIn K b qual=true)(k:W.keepIn K (.ref f)=true)(a:W.findIn K (.ref C) m=some (some (.ref f)))(i:W.isFn K (.ref f)=true)(h:∀(kV d g:V')(e:Option γ)(b j:V')(us:List V'),us.length=ps.length->bindArgs (W.fnOf m qual (qe1 st) (qc6 st) (qa3 st) .none kV d g e b j) ⟨us,[]⟩=pure (ps.zip us)) :
   Md K C m qual st f (W.fnOf m qual (qe1 st) (qc6 st) (qa3 st) .none kV d g e b j) ps:=⟨qam9 l c k,(qam9 l c k).binds h,⟨a,i,k⟩,i⟩
end L2
namespace L2
open PySem PySem.Spec PyProof.Rows
def excIs(e C:γ)(b:Option γ)(c:Bool)(h:Heap):Prop:=∃ a vs,h.get? e=some a/\a.cls=.ref C/\a.dict=b/\a.data=.fields vs/\1 < vs.size/\(c=true->vs[1]? = some .none)
noncomputable abbrev ExcO(e C:γ)(a:Option γ)(b:Bool):HO:=.ext (excIs e C a b)
def xdIs(d:γ)(fs:List (Str×V))(h:Heap):Prop:=∃ mA,h.Ns1 d mA/\(∀ f,RelO (fs.lookup f) (mA f))/\PySem.Within mA (fs.map (·.1))/\fs.length<=1000
abbrev XD(d:γ)(fs:List (Str×V)):HO:=.ext (xdIs d fs)
def CX1(_:Ki)(_:Kk):CXT:=λ _ _ _ _ _ _=>False
def Lands(_:Cx)(_:St->XK):Prop:=True
theorem Lands.passes{X:Cx}{E:St->XK}(_:Lands X E):qI6 (CX1 X.prog X.w) X E:=λ _ _ _ _ _ _ _ q=>q.elim
theorem qa1{X:Cx}{E:St->XK}:Lands X E:=trivial
end L2
namespace L2
open PySem PySem.Spec PyProof.Rows PySem.SeqAt
open PySem.AutoSeq1 (wpAny_loadPart')
theorem Fun.okX{P:Ki}{w:Kk}{K:Nf}{mg:Str->Option V'}{base:Heap}{x qual:Str}{st:Km}{f:γ}{fd:δ}{N ps:List Str}{k:Nat}{sp:Sp}(F:Fun K x qual st f fd)(S:qa9 N ps (qa3 st))(len:∀ vs H Q E,sp vs H Q E->vs.length=ps.length)(hbody:∀(a:V')(A:Kj)(outer:List Env)(s:Sh)(H:Hp)(vs:List V)(Q:VK)(E:XK),Room k (A.deeper (envOfC qual (qa3 st) s.heap.objs.size f a))->sp vs H Q E ->
     ∃ t,PSs (Eg true (CX1 P w) P w K mg base N qual (qa3 st) f a A outer s H E) (qc6 st) t/\t { nx:=λ _ H'=>Q .non H',rt:=Q } (start N vs) H):Fo P w K mg base (CX1 P w) (k+1) f fd ps sp:=by
 obtain⟨i,j,kV,d,l,m,a,n,e,rfl,g,b⟩:=F.ex;exact Ie g b S len λ A outer s H vs Q E h c=>hbody a A outer s H vs Q E h c
end L2
namespace L2
open PySem PySem.Spec PyProof.Rows
section
variable{X:Cx}{A:List (γ×Obj)}{y:St}{H:Hp}{s:Sh}{h':Heap}
theorem Inv.turnedL{t':Nat}{ch:List γ}(I:Inv X A y H s)(k:∀ b o,b∉ch->s.heap.get? b=some o->h'.get? b=some o)(f:∀ b∈ch,Fn X A H b):Inv X A y H { s with heap:=h',toks:=t' }:=by
 have d:∀ b u,H b=some u->b∉ch:=λ b u e z=>by rw[(f b z).1] at e;cases e
 refine I.step (g':=s.gens) (d':=s.drawn) (ch:=ch) (λ b g=>?_) (λ b o _ _ a e _=>k b o a e) (λ b o _ _ a e _=>⟨o.slots,k b o a e⟩) (λ _ _ _ _ n=>n)
   (λ b o a e=>⟨o,k b o a e⟩) (λ _ _ e=>e) (λ _ _ _ e=>e) (λ b w e=>⟨#[],by rw[e];simp⟩) (λ m h=>?_) (λ b u e=>?_) I.bare
 . obtain⟨x,f1,f2,f3,i,j⟩:=f b g
   exact⟨f3,f1,i,j⟩
 . obtain⟨o,l,p,t,r⟩:=h
   exact⟨o,l,p,k _ o (λ z=>(f _ z).2.1 rfl) t,r⟩
 refine(I.hok b u e).stay (λ c v a q=>k c v ?_ q) (λ _ q=>q) λ _ _ q=>q
 rcases a with z | z
 . rw[z];exact d b u e
 exact d c _ z
end
def Ite(K:Nf)(a:γ):It :=
 ⟨λ i H=>∃ xs x,SqL K H a xs/\xs[i]? = some x,λ i H x H'=>∃ t y,x=.ref t/\H t=none/\H'=upd H t (.q [.int (i:Int),y])/\∀ xs,SqL K H a xs->xs[i]? = some y,λ i H=>∃ xs,SqL K H a xs/\xs.length<=i⟩
theorem qai1{P:Ki}{w:Kk}{K:Nf}{elts:List Kl}{x1:Nat}{pos:Pos}(a it e:γ)(n:e≠it):Hy P w K (.Tuple elts x1 pos) (Ite K a) [e,it] e (λ i h=>(∃ d,IsEnum h e it (i:Nat) d)/\h.IsListIter it a i) where
 mem:=by simp
 obj:=λ i h f b c=>by
   obtain⟨⟨d,g⟩,o,ho,C,hd⟩:=f;rcases zAh.mp c with rfl | c
   . exact⟨_,g,λ v z=>by
       have z':Data.fields _=Data.cell v:=z;cases z'⟩
   rw[zAg.mp c];exact⟨o,ho,λ v z=>by rw[hd] at z;cases z⟩
 keep:=λ i h Z f k=>by
   obtain⟨⟨d,g⟩,f⟩:=f;exact⟨⟨d,k e (by simp) _ g⟩,f.at λ o q=>k it (by simp) o q⟩
 item:=by
   intro X D F G C i D8 s W H E I r f J;subst D F G;obtain⟨xs,x,B,L⟩:=J;obtain⟨⟨d,g⟩,j⟩:=f;obtain⟨M,N,p,hz⟩:=I.list B;obtain⟨u,hu,ru⟩:=N.get L;have O:H s.heap.objs.size=none:=I.hok.fresh (zA4 _);obtain⟨oi,Q,_⟩:=id j;have t:e < s.heap.objs.size:=zAd g;have lt2:it < s.heap.objs.size:=zAd Q;refine wpAny_pyNext_enum_item g j p.isList (x:=u) (by simpa using hu) n λ h1 R y S a0 T=>?_
   refine⟨_,rfl,wpAny_letOwnedTupleGo_enum (s:={ s with heap:=h1,toks:=s.toks+1 }) R λ U V l=>?_⟩
   replace l:Heap.SameBut e h1 U:=l
   have I0:Inv X D8 W (upd H s.heap.objs.size (.q [.int (i:Int),x])) { s with heap:=s.heap.push { cls:=.type "tuple",data:=.seq #[.int i s.toks,u] },toks:=s.toks+1 } :=
     I.laid (λ b o q=>zA2 _ q) (zA4 _) ⟨by show 2<=Jt;decide,[.int i s.toks,u],.cons ⟨_,rfl⟩ (.cons ru .nil),⟨_,zAs _ rfl,rfl,_,rfl⟩⟩
   have I2:Inv X D8 W (upd H s.heap.objs.size (.q [.int (i:Int),x])) { s with heap:=U,toks:=s.toks+1 }:=by
     refine Inv.turnedL (s:={ s with heap:=s.heap.push { cls:=.type "tuple",data:=.seq #[.int i s.toks,u] },toks:=s.toks+1 }) (h':=U) (ch:=[e,it]) (t':=s.toks+1) I0 (λ b o c q=>?_) (λ b c=>?_)
     . have A:b≠e:=λ z=>c (by simp[z])
       have Y:b≠it:=λ z=>c (by simp[z])
       refine l.extBut b o A ?_;rcases Heap.get?_push_cases (show (s.heap.push { cls:=.type "tuple",data:=.seq #[.int i s.toks,u] }).get? b=some o from q) with⟨rfl,rfl⟩ | q
       . exact S
       exact T b o A Y q
     refine⟨?_,(r b c).2⟩;have m:b < s.heap.objs.size:=by
       rcases zAh.mp c with rfl | c
       . exact t
       rw[zAg.mp c];exact lt2
     rw[qc7 (zAq m)];exact(r b c).1
   refine⟨.ref s.heap.objs.size,_,I2,rfl,⟨_,x,rfl,O,rfl,λ ys hy=>by rw[I.list_inj hy B];exact L⟩,⟨⟨u,?_⟩,?_⟩,λ b c=>?_⟩
   . have:((i+1:Nat):Int)=(i:Int)+1:=by push_cast;rfl
     rw[this];exact V
   . exact y.extBut l.extBut (Ne.symm n)
   have m:b < s.heap.objs.size:=by
     rcases zAh.mp c with rfl | c
     . exact t
     rw[zAg.mp c];exact lt2
   rw[qc7 (zAq m)];exact(r b c).1
 done:=by
   intro X D F G C i D8 s W H E I r f J;subst D F G;obtain⟨xs,B,L⟩:=J;obtain⟨⟨d,g⟩,j⟩:=f;obtain⟨M,N,p,hz⟩:=I.list B;obtain⟨f0,f1,f2,f3,f4,f5⟩:=r it (by simp);have hl:=N.length;exact wpAny_pyNext_enum_end (I.ok.hd C) g j p.isList (by simp;lia) λ Z eb=>⟨rfl,I.turned (t':=s.toks) (λ b o c q=>eb b o c q) f0 f1 f3 f4 f5⟩
 self:=λ _ _ _ _ _ f h=>by
   obtain⟨⟨d,g⟩,_⟩:=f;exact wpAny_pyIter_enum g h
section
variable{X:Cx}
def Ij(K:Nf)(ta:TA):TI:=λ G H R=>ta G H λ vs H1=>∃ a,vs=[.ref a]/\(∃ xs,SqL K H1 a xs)/\R (Ite K a) H1
theorem qar7{l:Kl}{ta:TA}{elts:List Kl}{j:Nat}{p pos tpos:Pos}(k:Gl X "enumerate")(hm:X.mg "enumerate" = none)(m:PA X [l] ta)(hs:Js [l] X.env=[(false,eval l X.env)]:=by rfl):PI X (.Tuple elts j tpos) (.Call (.Name "enumerate" p) [l] [] pos) (Ij X.K ta):=by
 intro D8 s G H R I h;refine Call_ (qV8 I k hm boot_enumerate (PyProof.Rows.callWith_type1 (thn (m pos D8 s G H _ I h) λ A c f=>?_) hs rfl));obtain⟨B,H1,I1,n,o⟩:=f;obtain⟨a,e,⟨C,t⟩,q⟩:=o;subst e;cases n with
 | cons r u =>
   cases u;cases r;obtain⟨v,D,w,E⟩:=I1.list t;refine call_enumerate_list w.isList λ F i x y z=>?_
   refine wpAny_pyIter_enum i ?_;refine⟨c.heap.objs.size+1,[c.heap.objs.size+1,c.heap.objs.size],_,_,H1,rfl,I1.kept (t':=c.toks) z,qai1 a c.heap.objs.size (c.heap.objs.size+1) (Nat.succ_ne_self _),⟨⟨_,i⟩,x⟩,λ b g=>?_,q⟩;have d:c.heap.objs.size<=b:=by
     rcases zAh.mp g with rfl | g
     . exact Nat.le_succ _
     rw[zAg.mp g];exact zA4 _
   exact I1.fpOk d (I1.hok.fresh d)
end
section
variable{X:Cx}
def qaG9:V->List V->Hp->VK->Prop:=λ x vs H Q=>∃ l xs y j z,x=.ref l/\vs=[y]/\H l=some (.l xs)/\flatV y=true/\xs.all flatV=true/\xs[j]? = some z/\eqV z y=true/\(∀ m a,m < j->xs[m]? = some a->eqV a y=false)/\Q (.int (j:Nat)) H
theorem N8.getU{xs:List V}{us:List V'}(r:N8 xs us){j:Nat}{u:V'}(h:us[j]? = some u):∃ x,xs[j]? = some x/\N7 x u:=by
 have c:=r.length;have d:j < us.length:=(zA5.mp h).1;obtain⟨e,a,b⟩:=r.get (show xs[j]? = some xs[j] by simp);rw[h] at a;cases a;exact⟨_,by simp,b⟩
theorem qaz8:MtM X "list.index" qaG9:=by
 intro D8 s S H x N v O Q I f C h;obtain⟨l,p,y,j,P,rfl,rfl,D,E,t,A,g,i,q⟩:=h;cases f;obtain⟨u,rfl,G⟩:=C.one;obtain⟨z,a,n,r,R,e⟩:=I.lstM D;have J:j < p.length:=(zA5.mp A).1;have B:=r.length;have small:((j:Nat):Int) < 2 ^ 63 - 1:=by
   have:Jt < 2 ^ 62:=by decide
   lia
 have eqAt:∀ m (d:m < a.toArray.size),∃ x,p[m]? = some x/\eqU y a.toArray[m]=eqV x y:=λ m d=>by
   have K:m < a.length:=by simpa using d
   obtain⟨x,b,f⟩:=r.getU (show a[m]? = some a[m] by simp);have L:flatV x=true:=zC9.mp t x (zB4 b);refine⟨x,b,?_⟩
   have:=qaC8 (x:=y) f L
   simpa using this
 have c:j < a.toArray.size:=by simp;lia
 refine Kd Np ⟨_,e,rfl⟩ F.entry_list_index (F.args_list_index_2 _ _) (SeqAt.list_indexAt l a.toArray n none #[] u (eqU y) j c small ?_ ?_) ⟨e,λ w M=>qr7 G E r t w (by simpa using M),⟨.int (j:Nat),H,I.tok _,⟨_,rfl⟩,q⟩⟩
 . obtain⟨x,b,k⟩:=eqAt j c
   rw[A] at b;cases b;rw[k];exact g
 intro m d o;obtain⟨x,b,k⟩:=eqAt m d;rw[k];exact i m x o b
end
theorem qao5{K:Nf}{a D:γ}{xs:List V}{g:TG}{tf:TT}{te:TE}{R:Hp->Prop}{r:St}{H:Hp}(Pv:Nat->St->Hp->Prop)(c:Pv 0 r H)(d:∀ i r H,i<=xs.length->Pv i r H->SqL K H a xs)(hs:∀(i:Nat) x r H t,xs[i]? = some x->Pv i r H->H t=none->g (.ref t) r (upd H t (.q [.int (i:Int),x])) λ σ2 H2=>tf σ2 H2 λ ok H3=>if ok=true then te σ2 H3 λ v H4=>∃ ys,H4 D=some (.l ys)/\ys.length < Jt/\Pv (i+1) σ2 (upd H4 D (.l (ys++[v]))) else Pv (i+1) σ2 H3)(f:∀ r H,Pv xs.length r H->R H) :
   qu6 (Ite K a) g tf te D R r H:=by
 refine⟨λ i m r H=>m=xs.length - i/\i<=xs.length/\Pv i r H,⟨xs.length,by simp,zBi _,c⟩,?_⟩;rintro i m r H ⟨rfl,h,p⟩;have q:=d i r H h p;by_cases b:i < xs.length
 . refine .inr ⟨⟨xs,xs[i],q,by simp[b]⟩,Pv (i+1),λ r' H' j=>⟨xs.length - (i+1),by lia,rfl,b,j⟩,λ x H' y=>?_⟩
   obtain⟨t,k,e,l,n,o⟩:=y;subst e n;exact hs i k r _ t (o xs q) p l
 have e:i=xs.length:=by lia
 subst e;exact .inl ⟨⟨xs,q,zA4 _⟩,f r H p⟩
end L2
namespace L2
open PySem PySem.Spec PyProof.Rows
noncomputable def qaA8:List String:=["NoneType", "bool", "int", "str", "list", "tuple", "dict"]
structure IsO(K:Nf)(C:γ):Prop where
 ca:W.findIn K (.ref C) "__class__" = some (some (.builtin "object.__class__"))
 cn:W.specialIn K (.builtin "object.__class__") "__get__" = some (some (.builtin "getset_descriptor.__get__"))
 ct:W.takesIn K (.builtin "object.__class__")=some true
 cm:W.mroIn K C (.type "object")=some true
 kf:∀ t∈qaA8,Ng K (.type t) (.ref C)=some false
theorem kf_of{K:Nf}{C:γ}(h1:Ng K (.type "NoneType") (.ref C)=some false)(h2:Ng K (.type "bool") (.ref C)=some false)(b:Ng K (.type "int") (.ref C)=some false)(c:Ng K (.type "str") (.ref C)=some false)(d:Ng K (.type "list") (.ref C)=some false)(e:Ng K (.type "tuple") (.ref C)=some false)(f:Ng K (.type "dict") (.ref C)=some false) :
   ∀ t∈qaA8,Ng K (.type t) (.ref C)=some false:=by
 intro t a;unfold qaA8 at a;simp only[zAh,zBn,or_false] at a;rcases a with rfl | rfl | rfl | rfl | rfl | rfl | rfl<;>assumption
section
variable{X:Cx}
def rIsO(C:γ):List V->Hp->VK->Prop:=λ xs H Q=>∃ x,xs=[x,.ref C]/\((∃ a dx fs,x=.ref a/\H a=some (.ins C dx fs)/\Q (.bl true) H)∨(∃ t,Dj H x=some t/\Q (.bl false) H))
theorem qag5{C:γ}(b:IsO X.K C)(g:Cls X.K C):CallR X (.builtin "isinstance") (rIsO C):=by
 intro D8 s m H j k Q I r h;obtain⟨x,rfl,h⟩:=h;obtain⟨u,l,rfl,f,c⟩:=vals2 r;cases c;rcases h with⟨a,dx,fs,rfl,ha,q⟩ | ⟨t,hk,q⟩
 . have e:Ng X.K (.ref C) (.ref C)=some true:=by
     unfold Ng;rw[if_pos (by simp)]
   exact qE5 I f (.ins ha g b.ca b.cn b.ct b.cm) e λ d=>⟨.bl true,H,I.tok d,rfl,q⟩
 obtain⟨ty,i⟩:=qac9 (K:=X.K) hk;exact qE5 I f ty (b.kf t i) λ d=>⟨.bl false,H,I.tok d,rfl,q⟩
theorem qaS2{x:Str}(C:γ){pos:Pos}(hm:X.mg x=some (.ref C))(a:Gl X x:=by rfl)(b:N' x:=by decide):PE X (.Name x pos) (tC (.ref C)):=qas1 a hm rfl b
end
end L2
namespace Row
variable{a i j q:Nat}{x y:Int}
noncomputable def dist(n h r:Nat):Nat:=if h<=r then r - h else r+n - h
noncomputable def prev(n r:Nat):Nat:=if r=0 then n - 1 else r - 1
noncomputable def next(n r:Nat):Nat:=if r+1=n then 0 else r+1
def ahead(n:Nat)(hm:Int->Nat)(r:Nat)(x y:Int):Prop:=dist n (hm y) r < dist n (hm x) r∨(dist n (hm x) r=dist n (hm y) r/\x < y)
theorem qB4{n:Nat}{hm:Int->Nat}{r:Nat}{z:Int}(h:ahead n hm r x y)(h':ahead n hm r y z):ahead n hm r x z:=by
 unfold ahead at *;lia
theorem qap3{n:Nat}{hm:Int->Nat}{r:Nat}(h:x≠y)(h':¬ ahead n hm r x y):ahead n hm r y x:=by
 unfold ahead at *;lia
theorem qP3{n r:Nat}(h:r < n):next n r < n:=by unfold next;split<;>lia
theorem qi4{n r:Nat}(h:r < n):prev n r < n:=by unfold prev;split<;>lia
theorem qak0{n r:Nat}(h:r < n):prev n (next n r)=r:=by unfold prev next;split<;>split<;>lia
theorem qal0{n r:Nat}(h:r < n):next n (prev n r)=r:=by unfold prev next;split<;>split<;>lia
theorem qe0{n r:Nat}(h:r < n)(b:a < n):dist n a r < n:=by unfold dist;split<;>lia
theorem qh8{n r s:Nat}(b:a < n)(h:r < n)(h':s < n)(e:dist n a r=dist n a s):r=s:=by
 unfold dist at e;split at e<;>split at e<;>lia
theorem qb5{n r:Nat}(b:a < n)(h:r < n):dist n a r=0↔r=a:=by unfold dist;split<;>lia
theorem qe8{n r:Nat}(c:a < n)(h:r < n)(b:0 < dist n a r):dist n a (prev n r)=dist n a r - 1:=by
 unfold dist prev at *;split at b<;>split<;>split<;>lia
theorem qF0{n r:Nat}(c:a < n)(h:r < n)(b:dist n a r+1 < n):dist n a (next n r)=dist n a r+1:=by
 unfold dist next at *;split at b<;>split<;>split<;>lia
theorem nor(n s:Nat):(s+1=n/\next n s=0)∨(s+1≠n/\next n s=s+1):=by unfold next;split<;>lia
theorem por(n s:Nat):(s=0/\prev n s=n - 1)∨(s≠0/\prev n s=s - 1):=by unfold prev;split<;>lia
theorem dor(n a r:Nat):(a<=r/\dist n a r+a=r)∨(r < a/\(a<=r+n->dist n a r+a=r+n)):=by
 unfold dist;split<;>lia
theorem G3{n s:Nat}(b:a < n)(hi:i < n)(hs:s < n)(h:dist n a i<=dist n a s):dist n a i+dist n i s=dist n a s:=by
 have c:=dor n a i;have d:=dor n a s;have e:=dor n i s;lia
theorem qaW5{n s t:Nat}(b:a < n)(hs:s < n)(c:t < n)(h:dist n a s < dist n a t):dist n t s+dist n a t=n+dist n a s:=by
 have d:=dor n a s;have e:=dor n a t;have f:=dor n t s;lia
theorem qaW6{n s:Nat}(hs:s < n):dist n (next n s) s+1=n:=by
 have a:=dor n (next n s) s;have b:=nor n s;lia
theorem qao1{n b:Nat}(f:a < n)(c:b < n)(d:j < n)(hi:i < n)(h1:dist n a i<=dist n a j)(h2:dist n a j<=dist n b j):dist n b i+(dist n a j - dist n a i)=dist n b j:=by
 have g:=G3 f hi d h1;have h:=qe0 hi c;rcases Nat.lt_or_ge (dist n b j) (dist n b i) with e | e
 . have:=qaW5 c d hi e
   lia
 have:=G3 c hi d e
 lia
structure Ord(n:Nat)(hm:Int->Nat)(g:Nat->Option Int):Prop where
 home:∀ k,hm k < n
 inj:∀ i j k,i < n->j < n->g i=some k->g j=some k->i=j
 ord:∀ i k,i < n->g i=some k->0 < dist n (hm k) i->∃ x,g (prev n i)=some x/\ahead n hm (prev n i) x k
def Hj(n:Nat)(hm:Int->Nat)(g:Nat->Option Int):Prop:=∃ i,i < n/\∀ k,g i=some k->hm k=i
theorem Ord.path{n:Nat}{hm:Int->Nat}{g:Nat->Option Int}(O:Ord n hm g):∀(m j i:Nat)(z:Int),j < n->i < n->g j=some z->dist n (hm z) i+m+1=dist n (hm z) j->∃ x,g i=some x/\ahead n hm i x z
 | 0,j,i,z,hj,hi,hz,e=>by
   have a:0 < dist n (hm z) j:=by lia
   obtain⟨x,b,c⟩:=O.ord j z hj hz a
   have:=qe8 (O.home z) hj a
   have f:i=prev n j:=qh8 (O.home z) hi (qi4 hj) (by lia);rw[f];exact⟨x,b,c⟩
 | m+1,j,i,z,hj,hi,hz,e=>by
   have a:0 < dist n (hm z) j:=by lia
   obtain⟨x,b,c⟩:=O.ord j z hj hz a;have o:=qe8 (O.home z) hj a;have d:=qi4 hj;have h:dist n (hm z) (prev n j)<=dist n (hm x) (prev n j):=by unfold ahead at c;lia
   have p:=qao1 (O.home z) (O.home x) d hi (by lia) h;obtain⟨y,k,l⟩:=O.path m (prev n j) i x d hi b (by lia);refine⟨y,k,qB4 l ?_⟩;unfold ahead at *;lia
theorem Ord.path'{n:Nat}{hm:Int->Nat}{g:Nat->Option Int}(O:Ord n hm g){z:Int}(a:j < n)(hi:i < n)(b:g j=some z)(h:dist n (hm z) i < dist n (hm z) j):∃ x,g i=some x/\ahead n hm i x z :=
 O.path (dist n (hm z) j - dist n (hm z) i - 1) j i z a hi b (by lia)
def Zero(n:Nat)(hm:Int->Nat)(g:Nat->Option Int)(s:Nat):Prop:=∀ j z,j < n->g j=some z->dist n (hm z) j<=dist n (hm z) s
theorem Ord.zero{n:Nat}{hm:Int->Nat}{g:Nat->Option Int}(O:Ord n hm g)(C:Hj n hm g):∃ s,s < n/\Zero n hm g s:=by
 obtain⟨i,b,h⟩:=C;have l:=qi4 b;refine⟨prev n i,l,λ j z c k=>Nat.le_of_not_lt λ m=>?_⟩;have a:=O.home z;by_cases d:dist n (hm z) i=0
 . have e:=(qb5 a b).mp d
   have:=qe0 c a
   have e2:dist n (hm z) (prev n i)=n - 1:=by
     unfold dist prev at *
     split<;>split<;>lia
   lia
 have q:=qe8 a b (by lia);by_cases f:dist n (hm z) i=dist n (hm z) j
 . have e:i=j:=qh8 a b c f
   subst e
   have:=h z k
   rw[this,(qb5 b b).mpr rfl] at d;exact d rfl
 obtain⟨x,o,p⟩:=O.path' c b k (by lia);have e:=h x o
 have:dist n (hm x) i=0:=(qb5 (O.home x) b).mpr e.symm
 unfold ahead at p;lia
theorem qR1{α:Type}[DecidableEq α](x:α):∀(S:List α),S.Nodup->S.length<=(S.filter (λ y=>decide (y≠x))).length+1
 | [],_=>by simp
 | a::S,h=>by
   have b:=zBw.mp h;by_cases e:a=x
   . subst e
     have:S.filter (λ y=>decide (y≠a))=S:=List.filter_eq_self.mpr λ y c=>by
       simp only[ne_eq,zC2];intro z;subst z;exact b.1 c
     rw[zCm (by simp),this];simp
   rw[zCl (by simpa using e)]
   have:=qR1 x S b.2
   simp only[zAf];lia
theorem qx3{α:Type}[DecidableEq α](x:α):∀(S:List α),x∈S->(S.filter (λ y=>decide (y≠x))).length+1<=S.length
 | [],h=>by simp at h
 | a::S,h=>by
   by_cases e:a=x
   . rw[zCm (by simp[e])]
     have:=Lh (λ y=>decide (y≠x)) S
     simp only[zAf];lia
   rw[zCl (by simpa using e)]
   have:=qx3 x S (by rcases zAh.mp h with z | z;exact absurd z.symm e;exact z)
   simp only[zAf];lia
theorem qv8{g:Nat->Option Int}:∀(L:List Nat)(S:List Int),S.Nodup->(∀ k∈S,∃ i∈L,g i=some k)->S.length<=L.length
 | [],S,_,h=>by
   cases S with
   | nil=>simp
   | cons k _=>obtain⟨i,f,_⟩:=h k (by simp);simp at f
 | i::L,S,hn,h=>by
   cases d:g i with
   | none =>
     have:=qv8 L S hn λ k a=>by
       obtain⟨j,c,e⟩:=h k a;rcases zAh.mp c with z | z
       . rw[z,d] at e;cases e
       exact⟨j,z,e⟩
     simp only[zAf];lia
   | some x =>
     have m:=qv8 L (S.filter (λ y=>decide (y≠x))) (hn.filter _) λ k a=>by
       obtain⟨a,b⟩:=zB5.mp a;obtain⟨j,c,e⟩:=h k a;rcases zAh.mp c with z | z
       . rw[z,d] at e
         have l:x=k:=Nc e;rw[l] at b;simp at b
       exact⟨j,z,e⟩
     have n:=qR1 x S hn;simp only[zAf];lia
theorem qA0{g:Nat->Option Int}:∀(L:List Nat)(S:List Int),L.Nodup->(∀ i∈L,∃ k∈S,g i=some k)->(∀ i∈L,∀ j∈L,∀ k,g i=some k->g j=some k->i=j)->L.length<=S.length
 | [],S,_,_,_=>by simp
 | i::L,S,c,h,inj=>by
   obtain⟨x,f,l⟩:=h i (by simp);have c:=zBw.mp c;have p:=qA0 L (S.filter (λ y=>decide (y≠x))) c.2 (λ j d=>by
     obtain⟨k,m,e⟩:=h j (zA3 _ d);refine⟨k,zB5.mpr ⟨m,?_⟩,e⟩;simp only[ne_eq,zC2];intro z;subst z
     have:=inj i (by simp) j (zA3 _ d) k l e
     exact c.1 (this ▸ d)) λ a n b o=>inj a (zA3 _ n) b (zA3 _ o)
   have q:=qx3 x S f;simp only[zAf];lia
def Holds(n:Nat)(g:Nat->Option Int)(S:List Int):Prop:=S.Nodup/\∀ k,k∈S↔∃ i,i < n/\g i=some k
noncomputable def set(g:Nat->Option Int)(r:Nat)(c:Int):Nat->Option Int:=λ j=>if j=r then some c else g j
theorem qc2{g:Nat->Option Int}{r:Nat}{c:Int}:set g r c r=some c:=by unfold set;rw[if_pos rfl]
theorem qd8{g:Nat->Option Int}{r:Nat}{c:Int}(h:j≠r):set g r c j=g j:=by unfold set;rw[if_neg h]
structure Walk(n:Nat)(wr:Bool)(hm:Int->Nat)(T:List Int)(k:Int)(e:Nat)(g:Nat->Option Int)(c:Int)(r:Nat):Prop where
 o:Ord n hm g
 nin:∀ i,i < n->g i≠some c
 hr:r < n
 pth:∀ j,j < n->dist n (hm c) j < dist n (hm c) r->∃ x,g j=some x/\ahead n hm j x c
 he:e < n
 ge:g e=none
 lim:dist n (hm k) r<=dist n (hm k) e
 all:∀ x,x∈T↔(x=c∨∃ i,i < n/\g i=some x)
 ln:wr=false->hm k<=e/\hm c<=r/\∀ i x,i < n->g i=some x->hm x<=i
section
variable{n:Nat}{wr:Bool}{R:Int->Nat}{T:List Int}{k:Int}{e:Nat}{g:Nat->Option Int}{c:Int}{r:Nat}
theorem Walk.lt(W:Walk n wr R T k e g c r)(a:g r=some y):dist n (R k) r < dist n (R k) e:=by
 have b:=W.lim
 have:r≠e:=λ z=>by have:=W.ge;rw[<- z,a] at this;cases this
 have d:dist n (R k) r≠dist n (R k) e:=λ z=>this (qh8 (W.o.home k) W.hr W.he z)
 lia
theorem Walk.nx(W:Walk n wr R T k e g c r)(a:g r=some y):dist n (R k) (next n r)=dist n (R k) r+1:=by
 have b:=W.lt a;have d:=qe0 W.he (W.o.home k);exact qF0 (W.o.home k) W.hr (by lia)
theorem way(a:R x < n)(c:j < n)(b:e < n)(d:g e=none)(f:∀ i,i < n->dist n (R x) i<=dist n (R x) j->∃ y,g i=some y):dist n (R x) j+1 < n:=by
 have k:=qe0 c a;have l:=qe0 b a;by_cases h:dist n (R x) e<=dist n (R x) j
 . obtain⟨y,q⟩:=f e b h
   rw[d] at q;cases q
 lia
theorem Walk.on(W:Walk n wr R T k e g c r)(a:g r=some y)(h:¬ ahead n R r c y):Walk n wr R T k e g c (next n r):=by
 have v:=W.nx a;have A:=W.lt a;have b:=W.o.home c;have l:c≠y:=λ z=>W.nin r W.hr (by rw[z];exact a)
 have w:dist n (R c) r+1 < n:=way (g:=g) b W.hr W.he W.ge λ i d m=>by
   by_cases q:dist n (R c) i=dist n (R c) r
   . rw[qh8 b d W.hr q];exact⟨y,a⟩
   obtain⟨x,p,_⟩:=W.pth i d (by lia);exact⟨x,p⟩
 have B:=qF0 b W.hr w;refine⟨W.o,W.nin,qP3 W.hr,λ j f m=>?_,W.he,W.ge,by lia,W.all,λ s=>?_⟩
 . by_cases q:dist n (R c) j=dist n (R c) r
   . rw[qh8 b f W.hr q];exact⟨y,a,qap3 l h⟩
   exact W.pth j f (by lia)
 obtain⟨t,C,u⟩:=W.ln s;refine⟨t,?_,u⟩;have D:=dor n (R k) r;have E:=dor n (R k) e;have F:=nor n r
 have:=W.hr
 have:=W.he
 have:=W.o.home k
 lia
theorem Walk.swap(W:Walk n wr R T k e g c r)(l:g r=some y)(h:ahead n R r c y):Walk n wr R T k e (set g r c) y (next n r):=by
 have J:=W.nx l;have K:=W.lt l;have D:=W.o.home c;have m:=W.o.home y;have E:c≠y:=λ z=>W.nin r W.hr (by rw[z];exact l)
 have F:e≠r:=λ z=>by have:=W.ge;rw[z,l] at this;cases this
 have w:dist n (R y) r+1 < n:=way (g:=g) m W.hr W.he W.ge λ i f u=>by
   by_cases q:dist n (R y) i=dist n (R y) r
   . rw[qh8 m f W.hr q];exact⟨y,l⟩
   obtain⟨x,s,_⟩:=W.o.path' W.hr f l (by lia);exact⟨x,s⟩
 have L:=qF0 m W.hr w;refine⟨⟨W.o.home,λ i j x f t a p=>?_,λ i x f a u=>?_⟩,λ i f a=>?_,qP3 W.hr,λ j t u=>?_,W.he,by rw[qd8 F];exact W.ge,by lia,λ x=>?_,λ G=>?_⟩
 . by_cases b:i=r
   . by_cases e2:j=r
     . rw[b,e2]
     rw[b,qc2] at a;rw[qd8 e2] at p;cases a;exact absurd p (W.nin j t)
   rw[qd8 b] at a;by_cases e2:j=r
   . rw[e2,qc2] at p
     cases p;exact absurd a (W.nin i f)
   rw[qd8 e2] at p;exact W.o.inj i j x f t a p
 . have H:=qi4 f
   by_cases b:i=r
   . subst b
     rw[qc2] at a;cases a;have d:=qe8 D f u;obtain⟨x,s,A⟩:=W.pth (prev n i) H (by lia)
     have:prev n i≠i:=λ z=>by rw[z] at d;lia
     exact⟨x,by rw[qd8 this];exact s,A⟩
   rw[qd8 b] at a;obtain⟨z,v,B⟩:=W.o.ord i x f a u;by_cases e2:prev n i=r
   . rw[e2] at v B ⊢
     rw[l] at v;cases v;exact⟨c,qc2,qB4 h B⟩
   exact⟨z,by rw[qd8 e2];exact v,B⟩
 . by_cases b:i=r
   . rw[b,qc2] at a
     exact E (Nc a)
   rw[qd8 b] at a;exact b (W.o.inj i r y f W.hr a l)
 . by_cases q:dist n (R y) j=dist n (R y) r
   . rw[qh8 m t W.hr q];exact⟨c,qc2,h⟩
   obtain⟨x,s,A⟩:=W.o.path' W.hr t l (by lia)
   have:j≠r:=λ z=>q (by rw[z])
   exact⟨x,by rw[qd8 this];exact s,A⟩
 . rw[W.all x]
   constructor
   . rintro (z | ⟨i,f,a⟩)
     . exact .inr ⟨r,W.hr,by rw[z];exact qc2⟩
     by_cases b:i=r
     . rw[b,l] at a
       exact .inl (Nc a).symm
     exact .inr ⟨i,f,by rw[qd8 b];exact a⟩
   rintro (z | ⟨i,f,a⟩)
   . exact .inr ⟨r,W.hr,by rw[z];exact l⟩
   by_cases b:i=r
   . rw[b,qc2] at a
     exact .inl (Nc a).symm
   rw[qd8 b] at a;exact .inr ⟨i,f,a⟩
 obtain⟨I,M,C⟩:=W.ln G;have N:=C r y W.hr l;refine⟨I,?_,λ i x f a=>?_⟩
 . have O:=dor n (R k) r
   have P:=dor n (R k) e;have Q:=nor n r
   have:=W.hr
   have:=W.he
   have:=W.o.home k
   lia
 by_cases b:i=r
 . rw[b,qc2] at a
   cases a;lia
 rw[qd8 b] at a;exact C i x f a
structure Kept(n:Nat)(wr:Bool)(R:Int->Nat)(g:Nat->Option Int)(S:List Int):Prop where
 o:Ord n R g
 c:Hj n R g
 h:Holds n g S
 ln:wr=false->∀ i x,i < n->g i=some x->R x<=i
theorem Walk.done(W:Walk n wr R T k e g c r)(v:T.Nodup)(q:g r=none):Kept n wr R (set g r c) T:=by
 have w:=W.o.home c;have h:=qP3 W.hr;refine⟨⟨W.o.home,λ i j x f t a l=>?_,λ i x f a p=>?_⟩,⟨next n r,h,λ x u=>?_⟩,⟨v,λ x=>?_⟩,λ y=>?_⟩
 . by_cases b:i=r
   . by_cases e2:j=r
     . rw[b,e2]
     rw[b,qc2] at a;rw[qd8 e2] at l;cases a;exact absurd l (W.nin j t)
   rw[qd8 b] at a;by_cases e2:j=r
   . rw[e2,qc2] at l
     cases l;exact absurd a (W.nin i f)
   rw[qd8 e2] at l;exact W.o.inj i j x f t a l
 . have A:=qi4 f
   by_cases b:i=r
   . subst b
     rw[qc2] at a;cases a;have d:=qe8 w f p;obtain⟨x,s,B⟩:=W.pth (prev n i) A (by lia)
     have:prev n i≠i:=λ z=>by rw[z] at d;lia
     exact⟨x,by rw[qd8 this];exact s,B⟩
   rw[qd8 b] at a;obtain⟨z,m,C⟩:=W.o.ord i x f a p;by_cases e2:prev n i=r
   . rw[e2,q] at m;cases m
   exact⟨z,by rw[qd8 e2];exact m,C⟩
 . have s:=W.o.home x
   by_cases b:next n r=r
   . have:=nor n r
     have:=W.hr
     lia
   rw[qd8 b] at u;by_cases p:0 < dist n (R x) (next n r)
   . obtain⟨z,m,_⟩:=W.o.ord _ x h u p
     rw[qak0 W.hr,q] at m;cases m
   exact((qb5 s h).mp (by lia)).symm
 . rw[W.all x]
   constructor
   . rintro (z | ⟨i,f,a⟩)
     . exact⟨r,W.hr,by rw[z];exact qc2⟩
     exact⟨i,f,by rw[qd8 (λ z=>by rw[z,q] at a;cases a)];exact a⟩
   rintro⟨i,f,a⟩;by_cases b:i=r
   . rw[b,qc2] at a
     exact .inl (Nc a).symm
   rw[qd8 b] at a;exact .inr ⟨i,f,a⟩
 obtain⟨E,F,D⟩:=W.ln y;intro i x f a;by_cases b:i=r
 . rw[b,qc2] at a
   cases a;lia
 rw[qd8 b] at a;exact D i x f a
def Gk(n:Nat)(wr:Bool)(R:Int->Nat)(g:Nat->Option Int)(k:Int)(e:Nat):Prop:=e < n/\g e=none/\(wr=false->R k<=e)
theorem Kept.start{S:List Int}(K:Kept n wr R g S)(c:¬ k∈S)(F:Gk n wr R g k e):Walk n wr R (S++[k]) k e g k (R k):=by
 have a:=K.o.home k;have z:=(qb5 a a).mpr rfl;refine⟨K.o,λ i d f=>c ((K.h.2 k).mpr ⟨i,d,f⟩),a,λ j _ l=>by lia,F.1,F.2.1,by lia,λ x=>?_,λ b=>⟨F.2.2 b,zA4 _,K.ln b⟩⟩;rw[zAj,zAg,K.h.2 x];exact⟨Or.symm,Or.symm⟩
def Crowd(n:Nat)(wr:Bool)(R:Int->Nat)(T:List Int)(q:Nat):Prop:=q < n/\if wr=true then q=0/\n < T.length else n - q < (T.filter (λ k=>decide (q<=R k))).length
theorem qJ3(h:i∈(Kz (n - q)).map (q + ·)):q<=i/\i < n:=by
 obtain⟨j,a,rfl⟩:=zAt.mp h
 have:=zA9.mp a
 lia
theorem qaA0(h:q<=i)(h':i < n):i∈(Kz (n - q)).map (q + ·):=zAt.mpr ⟨i - q,zA9.mpr (by lia),by lia⟩
theorem qX3{m:Nat}:((Kz m).map (q + ·)).Nodup:=by
 rw[List.nodup_iff_pairwise_ne,zCf];exact(List.nodup_iff_pairwise_ne.mp K7).imp λ h=>by lia
theorem Kept.no_crowd{S:List Int}(K:Kept n wr R g S)(q:Nat):¬ Crowd n wr R S q:=by
 rintro⟨d,h⟩;cases wr with
 | true =>
   rw[if_pos rfl] at h
   have:=qv8 (g:=g) (Kz n) S K.h.1 λ k a=>by
     obtain⟨i,b,c⟩:=(K.h.2 k).mp a;exact⟨i,zA9.mpr b,c⟩
   rw[zAv] at this;lia
 | false =>
   rw[if_neg (by decide)] at h
   have:=qv8 (g:=g) ((Kz (n - q)).map (q + ·)) (S.filter (λ k=>decide (q<=R k))) (K.h.1.filter _) λ k a=>by
     obtain⟨a,d⟩:=zB5.mp a;obtain⟨i,b,c⟩:=(K.h.2 k).mp a
     have:=K.ln rfl i k b c
     have d:=zAc d;exact⟨i,qaA0 (by lia) b,c⟩
   rw[zA8,zAv] at this;lia
theorem Kept.crowd{S:List Int}(K:Kept n wr R g S)(u:∀ e,¬ Gk n wr R g k e):∃ q,Crowd n wr R (S++[k]) q:=by
 have v:=K.o.home k;have full:∀ e,e < n->(wr=false->R k<=e)->∃ x,g e=some x:=λ e f s=>by
   cases h:g e with
   | some x=>exact⟨x,rfl⟩
   | none=>exact absurd ⟨f,h,s⟩ (u e)
 cases wr with
 | true =>
   refine⟨0,by lia,?_⟩;rw[if_pos rfl];refine⟨rfl,?_⟩
   have:=qA0 (g:=g) (Kz n) S K7 (λ i b=>by
     obtain⟨x,c⟩:=full i (zA9.mp b) (λ z=>by cases z);exact⟨x,(K.h.2 x).mpr ⟨i,zA9.mp b,c⟩,c⟩) λ i b j p x=>K.o.inj i j x (zA9.mp b) (zA9.mp p)
   rw[zAv] at this;rw[zAk];simp only[zAf,zBv];lia
 | false =>
   have w:∀ m,m<=R k->(∀ e,m<=e->e < n->∃ x,g e=some x)->∃ q,q<=R k/\(∀ e,q<=e->e < n->∃ x,g e=some x)/\(q=0∨g (q - 1)=none):=by
     intro m
     induction m with
     | zero=>exact λ d a=>⟨0,d,a,.inl rfl⟩
     | succ m A =>
       intro d a;cases h:g m with
       | none=>exact⟨m+1,d,a,.inr h⟩
       | some x =>
         refine A (by lia) λ e f r=>?_
         by_cases q:e=m
         . rw[q];exact⟨x,h⟩
         exact a e (by lia) r
   obtain⟨q,B,C,l⟩:=w (R k) (zA4 _) λ e f r=>full e r λ _=>f
   refine⟨q,by lia,?_⟩;rw[if_neg (by decide)]
   have:=qA0 (g:=g) ((Kz (n - q)).map (q + ·)) (S.filter (λ k=>decide (q<=R k))) qX3 (λ i b=>by
     obtain⟨d,a⟩:=qJ3 b;obtain⟨x,c⟩:=C i d a;refine⟨x,zB5.mpr ⟨(K.h.2 x).mpr ⟨i,a,c⟩,zAb ?_⟩,c⟩;have D:=K.o.home x;have s:=K.ln rfl i x a c;refine Nat.le_of_not_lt λ E=>?_
     rcases l with l | l
     . lia
     obtain⟨y,t,_⟩:=K.o.path' (i:=q - 1) a (by lia) c (by
       have G:=dor n (R x) (q - 1);have H:=dor n (R x) i
       lia)
     rw[l] at t;cases t) λ i b j p x=>K.o.inj i j x (qJ3 b).2 (qJ3 p).2
   rw[zA8,zAv] at this;have F:([k].filter (λ k=>decide (q<=R k))).length=1:=by simp[B]
   rw[Mf,zAk,F];lia
theorem Crowd.mono{S T:List Int}(h:Crowd n wr R S q)(hs:S.Sublist T):Crowd n wr R T q:=by
 obtain⟨a,h⟩:=h;refine⟨a,?_⟩;cases wr with
 | true =>
   rw[if_pos rfl] at h ⊢
   have:=hs.length_le
   exact⟨h.1,by lia⟩
 | false =>
   rw[if_neg (by decide)] at h ⊢
   have:=(hs.filter (λ k=>decide (q<=R k))).length_le
   lia
theorem Crowd.perm{S T:List Int}(h:Crowd n wr R S q)(hs:S.Perm T):Crowd n wr R T q:=by
 obtain⟨a,h⟩:=h;refine⟨a,?_⟩;rw[<- hs.length_eq,<- (hs.filter _).length_eq];exact h
theorem Kept.none(a:0 < n)(b:∀ k,R k < n):Kept n wr R (λ _=>none) [] :=
 ⟨⟨b,(λ _ _ _ _ _ h=>by cases h),λ _ _ _ h=>by cases h⟩,⟨0,a,λ _ h=>by cases h⟩,⟨Lz,λ k=>⟨λ h=>by simp at h,λ ⟨_,_,h⟩=>by cases h⟩⟩,λ _ _ _ _ h=>by cases h⟩
end
def Er(n:Nat)(hm:Int->Nat)(g:Nat->Option Int)(r i:Nat):Bool:=match g i with
 | some k=>decide (dist n (hm k) r < dist n (hm k) i)
 | none=>false
noncomputable def Gm(hm:Int->Nat)(g:Nat->Option Int)(r i:Nat):Bool:=match g i with
 | some k=>decide (hm k=r)
 | none=>false
def Bn(n:Nat)(hm:Int->Nat)(g:Nat->Option Int)(r:Nat):Nat:=(Kz n).countP (Er n hm g r)
theorem qB2{α:Type}{A B C D:α->Bool}:∀(L:List α),(∀ i∈L,(A i).toNat+(B i).toNat=(C i).toNat+(D i).toNat)->L.countP A+L.countP B=L.countP C+L.countP D
 | [],_=>rfl
 | x::L,h=>by
   have a:=h x zA7;have c:=qB2 L λ i b=>h i (zA3 _ b)
   rw[zBo,zBo,zBo,zBo]
   revert a
   cases A x<;>cases B x<;>cases C x<;>cases D x<;>simp<;>lia
theorem qaf8{n r:Nat}{b:Bool}(a:r < n):(Kz n).countP (λ i=>decide (i=r)&&b)=b.toNat:=by
 cases b with
 | false=>rw[List.countP_eq_zero.mpr (λ i _=>by simp)];rfl
 | true =>
   have:(λ i=>decide (i=r)&&true)=λ i=>i == r:=by funext i;simp;rfl
   rw[this];show (Kz n).count r=1;rw[List.Nodup.count K7,if_pos (zA9.mpr a)]
theorem flow{n:Nat}{hm:Int->Nat}{g:Nat->Option Int}(m:∀ k,hm k < n){r:Nat}(a:r < n):Bn n hm g (prev n r)+(Kz n).countP (Gm hm g r)=Bn n hm g r+(g r).isSome.toNat:=by
 have:=qB2 (A:=Er n hm g (prev n r)) (B:=Gm hm g r) (C:=Er n hm g r) (D:=λ i=>decide (i=r)&&(g r).isSome) (Kz n) (λ i c=>by
   have c:=zA9.mp c;unfold Er Gm;cases h:g i with
   | none =>
     show 0=0+_;by_cases e:i=r
     . subst e;rw[h];simp
     simp[e]
   | some k =>
     have o:=qi4 a;have b:=m k;have d:(decide (i=r)&&(g r).isSome)=decide (i=r):=by
       by_cases e:i=r
       . subst e;rw[h];simp
       simp[e]
     rw[d];show (decide _).toNat+(decide _).toNat=(decide _).toNat+(decide _).toNat;by_cases e:hm k=r
     . have f:=qaW6 o
       rw[qal0 a] at f;have j:=qe0 c b;have l:=(qb5 b a).mpr e.symm;have s:=qb5 b c;rw[e] at j l s ⊢;rw[zAl (p:=dist n r (prev n r) < dist n r i) (by lia),zAb (p:=r=r) rfl];by_cases z:i=r
       . rw[zAl (by lia),zAb z]
       rw[zAb (by lia),zAl z];rfl
     have f:0 < dist n (hm k) r:=by
       have:=qb5 b a
       lia
     have j:=qe8 b a f;rw[zAl e];by_cases z:i=r
     . subst z
       rw[zAb (by lia),zAl (zBj _),zAb rfl];rfl
     have l:dist n (hm k) i≠dist n (hm k) r:=λ q=>z (qh8 b c a q)
     rw[zAl z];by_cases y:dist n (hm k) r < dist n (hm k) i
     . rw[zAb y,zAb (by lia)]
     rw[zAl y,zAl (by lia)])
 rw[qaf8 a] at this;exact this
theorem qQ4{n:Nat}{hm:Int->Nat}{g:Nat->Option Int}{S:List Int}(e:Holds n g S)(inj:∀ i j k,i < n->j < n->g i=some k->g j=some k->i=j)(r:Nat):(Kz n).countP (Gm hm g r)=(S.filter λ k=>decide (hm k=r)).length:=by
 rw[List.countP_eq_length_filter];have f:∀{i},i∈(Kz n).filter (Gm hm g r)->i < n/\∃ k,g i=some k/\hm k=r:=λ{i} h=>by
   obtain⟨b,a⟩:=zB5.mp h;refine⟨zA9.mp b,?_⟩;unfold Gm at a;cases c:g i with
   | none=>rw[c] at a;cases a
   | some k=>rw[c] at a;exact⟨k,rfl,zAc a⟩
 refine Nat.le_antisymm ?_ ?_
 . refine qA0 (g:=g) _ _ (List.nodup_range.filter _) (λ i d=>?_) (λ i d j l k b a=>inj i j k (f d).1 (f l).1 b a)
   obtain⟨b,k,a,m⟩:=f d;exact⟨k,zB5.mpr ⟨(e.2 k).mpr ⟨i,b,a⟩,zAb m⟩,a⟩
 refine qv8 (g:=g) _ _ (e.1.filter _) λ k o=>?_
 obtain⟨b,a⟩:=zB5.mp o;obtain⟨i,d,c⟩:=(e.2 k).mp b;refine⟨i,zB5.mpr ⟨zA9.mpr d,?_⟩,c⟩;unfold Gm;rw[c];exact a
theorem qaa0{n:Nat}{hm:Int->Nat}{g:Nat->Option Int}{r:Nat}(h:0 < Bn n hm g r):∃ i k,i < n/\g i=some k/\dist n (hm k) r < dist n (hm k) i:=by
 obtain⟨i,c,a⟩:=List.countP_pos_iff.mp h;unfold Er at a;cases b:g i with
 | none=>rw[b] at a;cases a
 | some k=>rw[b] at a;exact⟨i,k,zA9.mp c,b,zAc a⟩
theorem qac4{n:Nat}{hm:Int->Nat}{g g':Nat->Option Int}{S:List Int}(O:Ord n hm g)(C:Hj n hm g)(q:Holds n g S)(b:Holds n g' S)(inj':∀ i j k,i < n->j < n->g' i=some k->g' j=some k->i=j):∀ r,r < n->Bn n hm g r<=Bn n hm g' r:=by
 have l:∀ k,hm k < n:=O.home;have step:∀ r,r < n->Bn n hm g (prev n r)<=Bn n hm g' (prev n r)->Bn n hm g r<=Bn n hm g' r:=λ r a h=>by
   have f:=flow (g:=g) l a;have t:=flow (g:=g') l a;rw[qQ4 q O.inj r] at f;rw[qQ4 b inj' r] at t;by_cases z:Bn n hm g r=0
   . lia
   obtain⟨i,k,c,d,o⟩:=qaa0 (Nat.pos_of_ne_zero z);obtain⟨x,u,_⟩:=O.path' c a d o;rw[u] at f
   have:(g' r).isSome.toNat<=1:=by cases (g' r).isSome<;>decide
   have:(some x).isSome.toNat=1:=rfl
   lia
 obtain⟨s,p,Z⟩:=O.zero C;have v:Bn n hm g s=0:=by
   by_cases z:Bn n hm g s=0
   . exact z
   obtain⟨i,k,c,d,o⟩:=qaa0 (Nat.pos_of_ne_zero z)
   have:=Z i k c d
   lia
 have all:∀ m r,r < n->dist n s r=m->Bn n hm g r<=Bn n hm g' r:=λ m=>by
   induction m with
   | zero=>intro r a e;rw[(qb5 p a).mp e,v];exact zBi _
   | succ m w =>
     intro r a e;exact step r a (w _ (qi4 a) (by rw[qe8 p a (by lia)];lia))
 exact λ r a=>all _ r a rfl
theorem qS0{α:Type}{A B C:α->Bool}:∀(L:List α),(∀ i∈L,(A i).toNat=(B i).toNat+(C i).toNat)->L.countP A=L.countP B+L.countP C
 | [],_=>rfl
 | x::L,h=>by
   have a:=h x zA7;have c:=qS0 L λ i b=>h i (zA3 _ b)
   rw[zBo,zBo,zBo]
   revert a
   cases A x<;>cases B x<;>cases C x<;>simp<;>lia
theorem qaO6{n m:Nat}(b:a < n)(hm:m < n):∃ r,r < n/\dist n a r=m:=by
 by_cases h:a+m < n
 . exact⟨a+m,h,by unfold dist;rw[if_pos (by lia)];lia⟩
 exact⟨a+m - n,by lia,by unfold dist;rw[if_neg (by lia)];lia⟩
theorem qI0{n a:Nat}(b:a < n):∀ m,m<=n->(Kz n).countP (λ r=>decide (dist n a r < m))=m
 | 0,_=>List.countP_eq_zero.mpr λ r _=>by simp
 | m+1,h=>by
   obtain⟨s,d,e⟩:=qaO6 b (show m < n by lia);rw[qS0 (B:=λ r=>decide (dist n a r < m)) (C:=λ r=>decide (r=s)&&true) _ λ r c=>?_,qI0 b m (by lia),qaf8 d]
   . rfl
   have c:=zA9.mp c;by_cases z:r=s
   . subst z
     rw[zAb (by lia),zAl (by lia),zAb rfl];rfl
   have:dist n a r≠m:=λ q=>z (qh8 b c d (q.trans e.symm))
   rw[zAl (p:=r=s) z];by_cases y:dist n a r < m
   . rw[zAb (by lia),zAb y];rfl
   rw[zAl (by lia),zAl y];rfl
def Es(n:Nat)(hm:Int->Nat)(g:Nat->Option Int)(i:Nat):Nat:=match g i with
 | some k=>dist n (hm k) i
 | none=>0
theorem qX6{α β:Type}{p:α->β->Bool}(R:List β):∀(L:List α),(R.map λ r=>L.countP λ i=>p i r).sum=(L.map λ i=>R.countP λ r=>p i r).sum
 | []=>by
   show (R.map λ r=>0).sum=0
   induction R with
   | nil=>rfl
   | cons x R a=>rw[zAo,zCc,a];rfl
 | x::L=>by
   rw[zAo,zCc,<- qX6 R L]
   have:∀(R:List β),(R.map λ r=>(x::L).countP λ i=>p i r).sum=(R.countP λ r=>p x r)+(R.map λ r=>L.countP λ i=>p i r).sum:=λ R=>by
     induction R with
     | nil=>rfl
     | cons y R a =>
       rw[zAo,zCc,a,zAo,zCc,zBo,zBo];lia
   exact this R
theorem qX7{n:Nat}{hm:Int->Nat}{g:Nat->Option Int}(b:∀ k,hm k < n):((Kz n).map (Bn n hm g)).sum=((Kz n).map (Es n hm g)).sum:=by
 have:=qX6 (p:=λ i r=>Er n hm g r i) (Kz n) (Kz n)
 refine this.trans (congrArg Mv (Mb λ i a=>?_));have a:=zA9.mp a;unfold Er Es;cases c:g i with
 | none=>exact List.countP_eq_zero.mpr λ r _=>by simp
 | some k=>exact qI0 (b k) _ (zBf (qe0 a (b k)))
noncomputable def rot(n s t:Nat):Nat:=if s+t < n then s+t else s+t - n
theorem qaj5{n s t:Nat}(hs:s < n)(a:t < n):rot n s t < n:=by unfold rot;split<;>lia
theorem qx4{n s t:Nat}(hs:s < n)(a:t < n):dist n s (rot n s t)=t:=by
 have d:=dor n s (rot n s t);unfold rot at d ⊢;split at d<;>split<;>lia
theorem qC7{n s:Nat}(hs:s < n)(hi:i < n):rot n s (dist n s i)=i:=by
 have d:=dor n s i;unfold rot
 split<;>lia
theorem qaG6{n s t:Nat}(hs:s < n)(a:t < n):(s+t) % n=rot n s t:=by
 unfold rot;split
 . exact Nat.mod_eq_of_lt (by assumption)
 rw[Nat.mod_eq_sub_mod (by lia)];exact Nat.mod_eq_of_lt (by lia)
structure Arc(n:Nat)(hm:Int->Nat)(g:Nat->Option Int)(r f h s:Nat):Prop where
 hs:s < n
 oc:∀ i,i < n->dist n s i<=dist n s r->∃ x,g i=some x/\f<=dist n (hm x) i+dist n i r
 ps:∀ i x,i < n->dist n s i<=dist n s r->i≠s->g i=some x->0 < dist n (hm x) i
 hh:dist n s h+f=dist n s r
section
variable{n:Nat}{X:Int->Nat}{g:Nat->Option Int}{r:Nat}{k:Int}
theorem Arc.start(O:Ord n X g)(j:r < n)(l:g r=some k):Arc n X g r (dist n (X k) r) (X k) (X k):=by
 have b:=O.home k;have c:∀ i,i < n->dist n (X k) i<=dist n (X k) r->∃ x,g i=some x/\dist n (X k) i<=dist n (X x) i:=λ i a d=>by
   by_cases e:dist n (X k) i=dist n (X k) r
   . have:=qh8 b a j e
     subst this;exact⟨k,l,zA4 _⟩
   obtain⟨x,f,o⟩:=O.path' j a l (by lia);exact⟨x,f,by unfold ahead at o;lia⟩
 refine⟨b,λ i a d=>?_,λ i x a d p f=>?_,?_⟩
 . obtain⟨x,f,h⟩:=c i a d
   exact⟨x,f,by have:=G3 b a j d;lia⟩
 . obtain⟨y,m,h⟩:=c i a d
   rw[f] at m;cases m
   have:dist n (X k) i≠0:=λ z=>p ((qb5 b a).mp z)
   lia
 rw[(qb5 b b).mpr rfl,zAi]
theorem qx5{s:Nat}(hs:s < n)(hi:i < n)(h:dist n s i+1 < n):dist n (prev n s) i=dist n s i+1:=by
 have a:=dor n s i;have b:=dor n (prev n s) i;have p:=por n s;lia
theorem qN1{s:Nat}(hs:s < n)(hi:i < n)(h:dist n s i+1=n):i=prev n s:=by
 have a:=dor n s i;have p:=por n s;lia
theorem Arc.back{f h s:Nat}(A:Arc n X g r f h s)(O:Ord n X g)(C:Hj n X g)(p:r < n)(q:h < n)(k:g s=some x)(l:0 < dist n (X x) s):Arc n X g r f h (prev n s)/\dist n (prev n s) r=dist n s r+1/\dist n (prev n s) h=dist n s h+1:=by
 have b:=A.hs;have t:=qi4 b;have u:dist n s r+1 < n:=by
   have G:=qe0 p b;by_cases e:dist n s r+1=n
   . obtain⟨i,a,v⟩:=C
     have w:=qe0 a b;obtain⟨y,d,_⟩:=A.oc i a (by lia);have H:dist n (X y) i=0:=(qb5 (O.home y) a).mpr (v y d).symm;by_cases z:i=s
     . subst z
       rw[k] at d;cases d;lia
     have:=A.ps i y a (by lia) z d
     lia
   lia
 have B:=qx5 b p u;have I:=A.hh;have D:=qx5 (i:=h) b q (by lia);obtain⟨y,d,E⟩:=O.ord s x b k l;have F:dist n (X x) s<=dist n (X y) (prev n s)+1:=by
   have:=qe8 (O.home x) b l
   unfold ahead at E;lia
 have pos:∀ i,i < n->dist n (prev n s) i<=dist n (prev n s) r->i≠prev n s->dist n s i<=dist n s r:=λ i a l m=>by
   by_cases z:dist n s i+1 < n
   . have:=qx5 b a z
     lia
   have:=qe0 a b
   exact absurd (qN1 b a (by lia)) m
 refine⟨⟨t,λ i a c=>?_,λ i z a c m o=>?_,by lia⟩,B,D⟩
 . by_cases e:i=prev n s
   . subst e
     refine⟨y,d,?_⟩;obtain⟨J,j,K⟩:=A.oc s b (by rw[(qb5 b b).mpr rfl];lia);rw[k] at j;cases j;lia
   exact A.oc i a (pos i a c e)
 by_cases e:i=s
 . subst e
   rw[k] at o;cases o;exact l
 exact A.ps i z a (pos i a c m) e o
theorem Arc.done{f h s:Nat}{S:List Int}(A:Arc n X g r f h s)(O:Ord n X g)(q:r < n)(v:∀ i x,i < n->g i=some x->x∈S)(w:g s=some x)(B:X x=s):dist n s h+1+f<=(S.filter λ y=>decide (dist n s (X y)<=dist n s h)).length:=by
 have d:=A.hs;have I:=qe0 q d;have C:∀ t i,i < n->dist n s i=t->t<=dist n s r->∀ y,g i=some y->dist n (X y) i<=t:=by
   intro t
   induction t with
   | zero =>
     intro i c k _ y l
     have:=(qb5 d c).mp k
     subst this;rw[w] at l;cases l;rw[B,(qb5 d d).mpr rfl];exact zA4 _
   | succ t D =>
     intro i c k J y l;by_cases K:dist n (X y) i=0
     . lia
     obtain⟨z,p,o⟩:=O.ord i y c l (by lia);have L:=qe8 d c (by lia);have e2:=qe8 (O.home y) c (by lia)
     have:=D (prev n i) (qi4 c) (by lia) (by lia) z p
     unfold ahead at o;lia
 have E:((Kz (dist n s r+1)).map (rot n s)).Nodup:=by
   refine zCf.mpr (List.Pairwise.imp_of_mem (R:=(·≠·)) (λ{a b} o u F e=>F ?_) K7);have o:=zA9.mp o;have u:=zA9.mp u;have e2:=congrArg (dist n s) e;rwa[qx4 d (by lia),qx4 d (by lia)] at e2
 have:=qA0 (g:=g) ((Kz (dist n s r+1)).map (rot n s)) (S.filter λ y=>decide (dist n s (X y)<=dist n s h)) E (λ i c=>?_) (λ i c j G y=>?_)
 . rw[zA8,zAv] at this
   have:=A.hh
   lia
 . obtain⟨t,k,rfl⟩:=zAt.mp c
   have k:=zA9.mp k;have c:=qaj5 d (show t < n by lia);have H:=qx4 d (show t < n by lia);obtain⟨y,l,M⟩:=A.oc (rot n s t) c (by lia);refine⟨y,zB5.mpr ⟨v _ y c l,zAb ?_⟩,l⟩;have N:=C t (rot n s t) c H (by lia) y l;have P:=G3 d c q (by lia);have Q:=A.hh;have T:=dor n s (X y);have U:=dor n (X y) (rot n s t);have V:=dor n s (rot n s t)
   have:=O.home y
   lia
 obtain⟨t,k,rfl⟩:=zAt.mp c;obtain⟨W,m,rfl⟩:=zAt.mp G;have k:=zA9.mp k;have m:=zA9.mp m;exact O.inj _ _ y (qaj5 d (by lia)) (qaj5 d (by lia))
end
section
variable{n:Nat}{c:Int->Nat}{g:Nat->Option Int}{S:List Int}{k:Int}
theorem Kept.len{wr:Bool}(KP:Kept n wr c g S):S.length<=n:=by
 have:=qv8 (g:=g) (Kz n) S KP.h.1 λ k a=>by
   obtain⟨i,b,e⟩:=(KP.h.2 k).mp a;exact⟨i,zA9.mpr b,e⟩
 rwa[zAv] at this
end
section
variable{n:Nat}{u:Int->Nat}{g g':Nat->Option Int}{S:List Int}{k:Int}{r s t f:Nat}
theorem qaP6(O:Ord n u g)(C:Hj n u g)(a:r < n)(d:g r=some k)(f:∀ i x,i < n->g i=some x->x∈S):∃ s,s < n/\dist n s (u k)+1+dist n (u k) r<=(S.filter λ y=>decide (dist n s (u y)<=dist n s (u k))).length:=by
 have h:∀ m s,m+dist n s r=n->Arc n u g r (dist n (u k) r) (u k) s->∃ s,s < n/\dist n s (u k)+1+dist n (u k) r<=(S.filter λ y=>decide (dist n s (u y)<=dist n s (u k))).length:=by
   intro m
   induction m with
   | zero=>intro s e A;have:=qe0 a A.hs;lia
   | succ m j =>
     intro s e A;have b:=A.hs;obtain⟨x,c,_⟩:=A.oc s b (by rw[(qb5 b b).mpr rfl];lia);by_cases l:0 < dist n (u x) s
     . obtain⟨A',o,_⟩:=A.back O C a (O.home k) c l
       exact j (prev n s) (by lia) A'
     exact⟨s,b,A.done O a f c ((qb5 (O.home x) b).mp (by lia)).symm⟩
 have p:=qe0 a (O.home k);exact h (n - dist n (u k) r) (u k) (by lia) (Arc.start O a d)
theorem qap4(c:∀ k,u k < n)(hs:s < n)(H:Holds n g' S)(j:t+1+f<=(S.filter λ y=>decide (dist n s (u y)<=t)).length):∃ k i,k∈S.filter (λ y=>decide (dist n s (u y)<=t))/\i < n/\g' i=some k/\f<=dist n (u k) i:=by
 refine Classical.byContradiction λ d=>?_
 have h:(S.filter λ y=>decide (dist n s (u y)<=t)).Nodup:=H.1.sublist List.filter_sublist
 have:=qv8 (g:=g') ((Kz (t+f)).map (rot n s)) _ h λ k a=>by
   obtain⟨i,b,e⟩:=(H.2 k).mp (zB5.mp a).1;have l:dist n s (u k)<=t:=zAc (zB5.mp a).2;have m:dist n (u k) i < f:=Nat.lt_of_not_le λ z=>d ⟨k,i,a,b,e,z⟩
   have o:=dor n s i;have p:=dor n s (u k);have q:=dor n (u k) i;have r:=c k;exact⟨i,zAt.mpr ⟨dist n s i,zA9.mpr (by lia),qC7 hs b⟩,e⟩
 rw[zA8,zAv] at this;lia
theorem qaF8{f g:Nat->Nat}:∀ l:List Nat,(∀ i∈l,f i<=g i)->(l.map f).sum<=(l.map g).sum
 | [],_=>zA4 _
 | a::l,h=>by
   rw[zAo,zAo,zCc,zCc];have c:=h a zA7;have d:=qaF8 l λ i b=>h i (zA3 _ b)
   lia
theorem qam0(O:Ord n u g)(C:Hj n u g)(b:Holds n g S)(a:Holds n g' S)(inj':∀ i j k,i < n->j < n->g' i=some k->g' j=some k->i=j):((Kz n).map (Es n u g)).sum<=((Kz n).map (Es n u g')).sum:=by
 rw[<- qX7 O.home,<- qX7 O.home];exact qaF8 _ λ i c=>qac4 O C b a inj' i (zA9.mp c)
end
end Row
namespace My
open PySem L2
noncomputable def bagL(x y z:Int)(L:γ):HO:=.l [.int x,.int y,.int z,.ref L]
structure BagAt(H:Hp)(p:γ)(x y z:Int)(L:γ)(ns:List Int):Prop where
 at_:H p=some (bagL x y z L)
 li:H L=some (.l (ns.map V.int))
 x0:0<=x
 y0:0<=y
 y1:y < 2147483647
 z0:0<=z
 nn:∀ n∈ns,0<=n
def Bag(H:Hp)(p L:γ):Prop:=∃ x y z ns,BagAt H p x y z L ns
theorem qaX2{L:γ}{x y z:Int}{ns:List Int}:HO.l (ns.map V.int)≠bagL x y z L:=by
 intro e;have e:ns.map V.int=[.int x,.int y,.int z,.ref L]:=by injection e
 have e:=congrArg (·[3]?) e;rw[zAy] at e;cases h:ns[3]? <;> rw[h] at e<;>cases e
theorem BagAt.ne{H:Hp}{p L:γ}{x y z:Int}{ns:List Int}(B:BagAt H p x y z L ns):L≠p:=ne_of B.li B.at_ qaX2
def qaQ9(K:Nf):Sp:=λ vs H Q _=>∃(l:γ)(ns:List Int),vs=[.ref l]/\SqL K H l (ns.map V.int)/\ns.length<=63 /\
 ∀ p L H',H p=none->H L=none->Same H H'->Bag H' p L->Q (.ref p) H'
def G4(K:Nf):Sp:=λ vs H Q _=>∃(l:γ)(ns:List Int),vs=[.ref l]/\SqL K H l (ns.map V.int)/\ns.length<=63/\∀ H',Q (.bl true) H'
abbrev Pr:=List (Int×Int)
def Aq(n:Int):Prop:=0<=n/\n<=1000000000000000000
structure Ik(ps:Pr):Prop where
 len:ps.length<=64
 nd:(ps.map (·.1)).Nodup
 nums:∀ p∈ps,Aq p.1/\Aq p.2
noncomputable def qb7(n:Int)(ps:Pr)(k:Int):Int:=((ps.lookup k).getD k) % n
def An(n:Int)(wr:Bool)(ps:Pr)(k r:Int):Option Int :=
 if wr then some ((r - qb7 n ps k) % n) else if 0<=r - qb7 n ps k then some (r - qb7 n ps k) else none
def qe3(n:Int)(wr:Bool)(ps:Pr)(r a other:Int):Bool :=
 match An n wr ps a r,An n wr ps other r with
 | none,_=>false
 | some _,none=>true
 | some x,some y=>decide (y < x)||(decide (x=y)&&decide (a < other))
theorem qad9{n:Int}(h:1<=n)(ps:Pr)(k:Int):0<=qb7 n ps k/\qb7 n ps k < n:=⟨zC4 _ (by lia),zBy _ (by lia)⟩
def qs0(k:Int):Prop:=(0<=k/\k<=70000000000000000)∨(999999999999999000<=k/\k<=1000000000000000000)
theorem qs0.num{k:Int}(h:qs0 k):Aq k:=by rcases h with h | h<;>exact⟨by lia,by lia⟩
theorem qad5(k:Int)(ks:List Int):inV (.int k) (ks.map V.int)=decide (k∈ks):=by
 unfold inV;rw[Mw,Bool.eq_iff_iff,Mn,zC2];constructor
 . rintro⟨x,a,e⟩
   have e:(x == k)=true:=e;rw[<- zBx.mp e];exact a
 intro h;exact⟨k,h,zB9 k⟩
structure Drawn(ks:List Int)(ps:Pr):Prop where
 len:ps.length<=14
 nd:(ps.map (·.1)).Nodup
 key:∀ q∈ps,q.1∈ks∨(300000000000000000<=q.1/\q.1<=300000000000000200)
 num:∀ q∈ps,qs0 q.2
theorem Drawn.good{ks:List Int}{ps:Pr}(D:Drawn ks ps)(h:∀ k∈ks,qs0 k):Ik ps:=by
 refine⟨by have:=D.len;lia,D.nd,λ q a=>⟨?_,(D.num q a).num⟩⟩;rcases D.key q a with z | z
 . exact(h _ z).num
 exact⟨by lia,by lia⟩
end My
namespace My
open PySem L2
open Row
variable{n:Int}{ps:Pr}{r:Nat}
def N2(n:Int)(ps:Pr)(k:Int):Nat:=(qb7 n ps k).toNat
theorem Bk(h:1<=n)(k:Int):N2 n ps k < n.toNat:=by
 have:=qad9 h ps k
 unfold N2;lia
theorem ql0(h:1<=n)(k:Int):((N2 n ps k:Nat):Int)=qb7 n ps k:=by
 have:=qad9 h ps k
 unfold N2;lia
theorem qao0(a:1<=n){h:Nat}(b:h < n.toNat)(c:r < n.toNat):((r:Int) - (h:Int)) % n=(dist n.toNat h r:Nat):=by
 rcases dor n.toNat h r with⟨h1,h2⟩ | ⟨h1,h2⟩
 . rw[Int.emod_eq_of_lt (by lia) (by lia)];lia
 have e:((r:Int) - (h:Int)) % n=((r:Int) - (h:Int)+n) % n:=by rw[Int.add_emod_right]
 rw[e,Int.emod_eq_of_lt (by lia) (by lia)]
 have:=h2 (by lia)
 lia
theorem qp5{wr:Bool}{k:Int}(a:1<=n)(c:r < n.toNat)(d:wr=false->N2 n ps k<=r):An n wr ps k (r:Int)=some ((dist n.toNat (N2 n ps k) r:Nat):Int):=by
 have e:=Bk (ps:=ps) a k;have b:=ql0 (ps:=ps) a k;unfold An;cases wr with
 | true=>rw[if_pos rfl,<- b,qao0 a e c]
 | false =>
   have:=d rfl
   rw[if_neg (by decide),if_pos (by lia),<- b]
   have:=dor n.toNat (N2 n ps k) r
   congr 1;lia
theorem qp7{wr:Bool}{x y:Int}(a:1<=n)(b:r < n.toNat)(c:wr=false->N2 n ps x<=r)(d:wr=false->N2 n ps y<=r):qe3 n wr ps (r:Int) x y=true↔ahead n.toNat (N2 n ps) r x y:=by
 unfold qe3 ahead;rw[qp5 a b c,qp5 a b d];show (decide _||(decide _&&decide _))=true↔_;simp only[Bool.or_eq_true,zBm,zC2];lia
theorem qL9(a:1<=n)(b:r < n.toNat):((r:Int)+1) % n=(Row.next n.toNat r:Nat):=by
 rcases nor n.toNat r with⟨h,e⟩ | ⟨h,e⟩
 . rw[e,show ((r:Int)+1)=n by lia];simp
 rw[e,Int.emod_eq_of_lt (by lia) (by lia)];rfl
end My
namespace LV
open PySem L2
variable{Ao:List γ}{N:List Str}{P:List V'->Prop}{Q:VK}{base:Heap}{cd:Kl}{cm z:Bool}{i j n:Nat}{kvs:List (Key×V)}{lo:Int}{mg:Str->Option V'}{op:CmpOp}{p2 tpos:Pos}{v w:V}{vs:List V}{α:Type}{a':St}
inductive D where
 | non | bl (b:Bool) | int (i:Int) | str (x:Str) | ty (n:String) | adr (a:γ)
 | q (ds:List D) | l (z:Bool) (ds:List D) | dct (z:Bool) (kvs:List (Key×D)) | ins (z:Bool) (C:γ) (fs:List (Str×D))
 | scr (ns:List Int)
 | exn (C:γ) (fs:List (Str×D))
 | hole (v:V) | u
mutual
def D.imm:D->Bool
 | .q ds=>D.imms ds
 | .l z _=>z
 | .dct z _=>z
 | .ins z _ _=>z
 | _=>true
def D.imms:List D->Bool
 | []=>true
 | d::r=>d.imm&&D.imms r
end
mutual
def D.fz:D->D
 | .q ds=>.q (D.fzs ds)
 | .l _ ds=>.l true (D.fzs ds)
 | .dct _ kvs=>.dct true (D.fzk kvs)
 | .ins _ C fs=>.ins true C (D.fzf fs)
 | .exn C fs=>.exn C (D.fzf fs)
 | .non=>.non | .bl b=>.bl b | .int i=>.int i | .str x=>.str x | .ty n=>.ty n | .adr a=>.adr a | .scr ns=>.scr ns | .hole v=>.hole v | .u=>.u
def D.fzs:List D->List D
 | []=>[]
 | d::r=>d.fz::D.fzs r
def D.fzk:List (Key×D)->List (Key×D)
 | []=>[]
 | (k,d)::r=>(k,d.fz)::D.fzk r
def D.fzf:List (Str×D)->List (Str×D)
 | []=>[]
 | (k,d)::r=>(k,d.fz)::D.fzf r
end
mutual
inductive N9(F:γ->Prop)(H:Hp):V->D->List γ->Prop
 | non:N9 F H .non .non []
 | bl (b:Bool):N9 F H (.bl b) (.bl b) []
 | int (i:Int):N9 F H (.int i) (.int i) []
 | str (x:Str):N9 F H (.str x) (.str x) []
 | ty (n:String):N9 F H (.ty n) (.ty n) []
 | adr (a:γ):N9 F H (.ref a) (.adr a) []
 | q {a:γ} {vs:List V} {ds:List D} {A:List γ} (h:H a=some (.q vs)) (r:N3 F H vs ds A):N9 F H (.ref a) (.q ds) A
 | l {a:γ} {vs:List V} {ds:List D} {A:List γ} (h:H a=some (.l vs)) (r:N3 F H vs ds A):N9 F H (.ref a) (.l false ds) (a::A)
 | lstZ {a:γ} {vs:List V} {ds:List D} (h:H a=some (.l vs)) (f:F a) (r:N3 F H vs ds []):N9 F H (.ref a) (.l true ds) []
 | dct {a:γ} {kvs:List (Key×V)} {kds:List (Key×D)} {A:List γ} (h:H a=some (.dK kvs)) (e:kvs.map (·.1)=kds.map (·.1)) (r:N3 F H (kvs.map (·.2)) (kds.map (·.2)) A):N9 F H (.ref a) (.dct false kds) (a::A)
 | dctZ {a:γ} {kvs:List (Key×V)} {kds:List (Key×D)} (h:H a=some (.dK kvs)) (f:F a) (e:kvs.map (·.1)=kds.map (·.1)) (r:N3 F H (kvs.map (·.2)) (kds.map (·.2)) []):N9 F H (.ref a) (.dct true kds) []
 | ins {a C dx:γ} {fvs:List (Str×V)} {fds:List (Str×D)} {A:List γ} (h:H a=some (.ins C dx fvs)) (e:fvs.map (·.1)=fds.map (·.1)) (r:N3 F H (fvs.map (·.2)) (fds.map (·.2)) A):N9 F H (.ref a) (.ins false C fds) (a::A)
 | insZ {a C dx:γ} {fvs:List (Str×V)} {fds:List (Str×D)} (h:H a=some (.ins C dx fvs)) (f:F a) (e:fvs.map (·.1)=fds.map (·.1)) (r:N3 F H (fvs.map (·.2)) (fds.map (·.2)) []):N9 F H (.ref a) (.ins true C fds) []
 | scr {a:γ} {o:Obj} {ns:List Int} (h:H a=some (.frz o (.l (ns.map V.int)))):N9 F H (.ref a) (.scr ns) []
 | exn {a C dx:γ} {fvs:List (Str×V)} {fds:List (Str×D)} (h:H a=some (ExcO a C (some dx) false)) (g:H dx=some (XD dx fvs)) (e:fvs.map (·.1)=fds.map (·.1)) (r:N3 F H (fvs.map (·.2)) (fds.map (·.2)) []):N9 F H (.ref a) (.exn C fds) []
 | hole (v:V):N9 F H v (.hole v) []
 | u (v:V):N9 F H v .u []
inductive N3(F:γ->Prop)(H:Hp):List V->List D->List γ->Prop
 | nil:N3 F H [] [] []
 | cons {v:V} {d:D} {A:List γ} {vs:List V} {ds:List D} {B:List γ} (h:N9 F H v d A) (t:N3 F H vs ds B):N3 F H (v::vs) (d::ds) (A++B)
end
noncomputable def Ea:HO->Bool
 | .l _=>true
 | .dK _=>true
 | .ins _ _ _=>true
 | _=>false
section
variable{F F':γ->Prop}{H H':Hp}
def Cel(H:Hp)(A:List γ):Prop:=∀ b∈A,∃ o,H b=some o/\Ea o=true
theorem Cel.cons{A:List γ}{a:γ}{o:HO}(e:H a=some o)(m:Ea o=true)(h:Cel H A):Cel H (a::A):=λ b c=>(zAh.mp c).elim (λ q=>q ▸ ⟨_,e,m⟩) (h b)
theorem Cel.app{A B:List γ}(h:Cel H A)(g:Cel H B):Cel H (A++B):=λ b a=>(zAj.mp a).elim (h b) (g b)
theorem N9.cells{v:V}{d:D}{A:List γ}(r:N9 F H v d A):Cel H A:=by
 induction r using N9.rec (motive_2:=λ _ _ A _=>Cel H A) with
 | q e r i=>exact i
 | l e r i=>exact Cel.cons e rfl i
 | dct e _ r i=>exact Cel.cons e rfl i
 | ins e _ r i=>exact Cel.cons e rfl i
 | cons _ _ i j=>exact Cel.app i j
 | _=>nofun
theorem N3.cells{vs:List V}{ds:List D}{A:List γ}(r:N3 F H vs ds A):Cel H A:=by
 induction r using N3.rec (motive_1:=λ _ _ _ _=>True) with
 | cons h _ i j=>exact Cel.app h.cells j
 | nil=>nofun
 | _=>trivial
structure Kp(F:γ->Prop)(H:Hp)(W F':γ->Prop)(H':Hp):Prop where
 fr:∀ b o,H b=some o->¬ W b->H' b=some o
 wm:∀ b,W b->∃ o,H b=some o/\Ea o=true
 wf:∀ b,W b->¬ F b
 mF:∀ b,F b->F' b
theorem Kp.q{W:γ->Prop}(k:Kp F H W F' H'){a:γ}{vs:List V}(h:H a=some (.q vs)):H' a=some (.q vs):=by
 refine k.fr a _ h λ w=>?_
 obtain⟨o,e,m⟩:=k.wm a w;rw[h] at e;cases e;cases m
theorem Kp.imm{W:γ->Prop}(k:Kp F H W F' H'){a:γ}{o:HO}(h:H a=some o)(n:Ea o=false):H' a=some o:=by
 refine k.fr a _ h λ w=>?_
 obtain⟨o,e,m⟩:=k.wm a w;rw[h] at e;cases e;rw[n] at m;cases m
theorem Kp.frz{W:γ->Prop}(k:Kp F H W F' H'){a:γ}{o:Obj}{u:HO}(h:H a=some (.frz o u)):H' a=some (.frz o u):=by
 refine k.fr a _ h λ w=>?_
 obtain⟨o,e,m⟩:=k.wm a w;rw[h] at e;cases e;cases m
theorem N9.keep{W:γ->Prop}(k:Kp F H W F' H'){v:V}{d:D}{A:List γ}(r:N9 F H v d A):(∀ b∈A,¬ W b)->N9 F' H' v d A:=by
 induction r using N9.rec (motive_2:=λ a c A _=>(∀ b∈A,¬ W b)->N3 F' H' a c A) with
 | q e r i=>exact λ h=>.q (k.q e) (i h)
 | l e r i=>exact λ h=>.l (k.fr _ _ e (zB6.mp h).1) (i (zB6.mp h).2)
 | lstZ e f r i=>exact λ h=>.lstZ (k.fr _ _ e λ w=>k.wf _ w f) (k.mF _ f) (i h)
 | dct e q r i=>exact λ h=>.dct (k.fr _ _ e (zB6.mp h).1) q (i (zB6.mp h).2)
 | dctZ e f q r i=>exact λ h=>.dctZ (k.fr _ _ e λ w=>k.wf _ w f) (k.mF _ f) q (i h)
 | ins e q r i=>exact λ h=>.ins (k.fr _ _ e (zB6.mp h).1) q (i (zB6.mp h).2)
 | insZ e f q r i=>exact λ h=>.insZ (k.fr _ _ e λ w=>k.wf _ w f) (k.mF _ f) q (i h)
 | scr e=>exact λ _=>.scr (k.frz e)
 | exn e g q r i=>exact λ h=>.exn (k.imm e rfl) (k.imm g rfl) q (i h)
 | cons _ _ i j h=>exact N3.cons (i (zBq.mp h).1) (j (zBq.mp h).2)
 | nil=>constructor
 | _=>intro;constructor
theorem N3.keep{W:γ->Prop}(k:Kp F H W F' H'){vs:List V}{ds:List D}{A:List γ}(r:N3 F H vs ds A):(∀ b∈A,¬ W b)->N3 F' H' vs ds A:=by
 induction r using N3.rec (motive_1:=λ _ _ _ _=>True) with
 | nil=>exact λ _=>N3.nil
 | cons r _ i j=>exact λ h=>N3.cons (r.keep k (zBq.mp h).1) (j (zBq.mp h).2)
 | _=>trivial
theorem Kp.same(s:Same H H'):Kp F H (λ _=>False) F H':=⟨λ b o e _=>s b o e,λ _ w=>w.elim,λ _ w=>w.elim,λ _ f=>f⟩
theorem N9.same{d:D}{A:List γ}(r:N9 F H v d A)(s:Same H H'):N9 F H' v d A:=r.keep (Kp.same s) λ _ _=>id
theorem N3.same{ds:List D}{A:List γ}(r:N3 F H vs ds A)(s:Same H H'):N3 F H' vs ds A:=r.keep (Kp.same s) λ _ _=>id
theorem Kp.more(m:∀ b,F b->F' b):Kp F H (λ _=>False) F' H:=⟨λ b o e _=>e,λ _ w=>w.elim,λ _ w=>w.elim,m⟩
mutual
theorem N9.imm{v:V}{d:D}{A:List γ}(r:N9 F H v d A)(h:d.imm=true):A=[]:=by
 cases r with
 | q e r=>exact r.imms h
 | l=>cases h
 | dct=>cases h
 | ins=>cases h
 | _=>rfl
theorem N3.imms{vs:List V}{ds:List D}{A:List γ}(r:N3 F H vs ds A)(h:D.imms ds=true):A=[]:=by
 cases r with
 | nil=>rfl
 | cons r t =>
   have h:=zAn.mp h;rw[r.imm h.1,t.imms h.2];rfl
end
theorem qQ6(a:List (Key×D)):(D.fzk a).map (·.1)=a.map (·.1)/\(D.fzk a).map (·.2)=D.fzs (a.map (·.2)):=by
 induction a with
 | nil=>exact⟨rfl,rfl⟩
 | cons p r b=>obtain⟨k,d⟩:=p;simp only[D.fzk,D.fzs,zAo,b.1,b.2,and_self]
theorem qA9(a:List (Str×D)):(D.fzf a).map (·.1)=a.map (·.1)/\(D.fzf a).map (·.2)=D.fzs (a.map (·.2)):=by
 induction a with
 | nil=>exact⟨rfl,rfl⟩
 | cons p r b=>obtain⟨k,d⟩:=p;simp only[D.fzf,D.fzs,zAo,b.1,b.2,and_self]
theorem N9.fz{v:V}{d:D}{A:List γ}(r:N9 F H v d A)(m:∀ b,F b->F' b):(∀ b∈A,F' b)->N9 F' H v d.fz []:=by
 induction r using N9.rec (motive_2:=λ a c A _=>(∀ b∈A,F' b)->N3 F' H a (D.fzs c) []) with
 | q e r i=>exact λ h=>.q e (i h)
 | l e r i=>exact λ h=>.lstZ e (zB6.mp h).1 (i (zB6.mp h).2)
 | lstZ e f r i=>exact λ h=>.lstZ e (m _ f) (i h)
 | dct e q r i=>exact λ h=>.dctZ e (zB6.mp h).1 (q.trans (qQ6 _).1.symm) ((qQ6 _).2 ▸ i (zB6.mp h).2)
 | dctZ e f q r i=>exact λ h=>.dctZ e (m _ f) (q.trans (qQ6 _).1.symm) ((qQ6 _).2 ▸ i h)
 | ins e q r i=>exact λ h=>.insZ e (zB6.mp h).1 (q.trans (qA9 _).1.symm) ((qA9 _).2 ▸ i (zB6.mp h).2)
 | insZ e f q r i=>exact λ h=>.insZ e (m _ f) (q.trans (qA9 _).1.symm) ((qA9 _).2 ▸ i h)
 | scr e=>exact λ _=>.scr e
 | exn e g q r i=>exact λ h=>.exn e g (q.trans (qA9 _).1.symm) ((qA9 _).2 ▸ i h)
 | nil=>exact N3.nil
 | cons _ _ i j h=>exact N3.cons (A:=[]) (B:=[]) (i (zBq.mp h).1) (j (zBq.mp h).2)
 | _=>intro;constructor
end
theorem ec:∀{us:List V'},us.length=n+1->∃ a vs,us=a::vs/\vs.length=n
 | a::vs,h=>⟨a,vs,rfl,Nat.succ.inj h⟩
theorem ec0(h:P [])(us:List V')(e:us.length=0):P us:=List.length_eq_zero_iff.mp e ▸ h
theorem ec1(h:∀ x us,us.length=n->P (x::us))(us:List V')(e:us.length=n+1):P us:=by
 obtain⟨x,a,rfl,b⟩:=ec e;exact h x a b
theorem ec2(h:∀ us,us.length=n->P us)(us:List V')(e:us.length+1=n+1):P us:=h us (Nat.succ.inj e)
inductive Locs(F:γ->Prop)(H:Hp):List (Option V)->List D->List γ->Prop
 | nil:Locs F H [] [] []
 | no {a:List (Option V)} {ds:List D} {A:List γ} (t:Locs F H a ds A):Locs F H (none::a) (.u::ds) A
 | so {v:V} {d:D} {B:List γ} {a:List (Option V)} {ds:List D} {A:List γ} (h:N9 F H v d B) (t:Locs F H a ds A):Locs F H (some v::a) (d::ds) (B++A)
section
variable{F F':γ->Prop}{H H':Hp}
theorem Locs.cells{n:List (Option V)}{ds:List D}{A:List γ}(r:Locs F H n ds A):∀ b∈A,∃ o,H b=some o/\Ea o=true:=by
 induction r with
 | nil=>intro b h;cases h
 | no t c=>exact c
 | so h t c =>
   intro b a;rcases zAj.mp a with a | a
   . exact h.cells b a
   exact c b a
theorem Locs.keep{W:γ->Prop}(k:Kp F H W F' H'){n:List (Option V)}{ds:List D}{A:List γ}(r:Locs F H n ds A):(∀ b∈A,¬ W b)->Locs F' H' n ds A:=by
 induction r with
 | nil=>exact λ _=>.nil
 | no t a=>exact λ h=>.no (a h)
 | so h t a=>exact λ q=>.so (h.keep k λ b c=>q b (zAj.mpr (.inl c))) (a λ b c=>q b (zAj.mpr (.inr c)))
theorem Locs.same{n:List (Option V)}{ds:List D}{A:List γ}(r:Locs F H n ds A)(s:Same H H'):Locs F H' n ds A:=r.keep (Kp.same s) λ _ _=>id
theorem Locs.len{n:List (Option V)}{ds:List D}{A:List γ}(r:Locs F H n ds A):n.length=ds.length:=by
 induction r with
 | nil=>rfl
 | no t a=>simp[a]
 | so h t a=>simp[a]
theorem Locs.append{n p:List (Option V)}{ds es:List D}{A B:List γ}(r:Locs F H n ds A)(t:Locs F H p es B):Locs F H (n++p) (ds++es) (A++B):=by
 induction r with
 | nil=>exact t
 | no _ a=>exact .no a
 | so h _ a=>rw[zAw];exact .so h a
inductive G5(F:γ->Prop)(H:Hp):Option V->D->List γ->Prop
 | no:G5 F H none .u []
 | so {v:V} {d:D} {B:List γ} (h:N9 F H v d B):G5 F H (some v) d B
theorem Locs.cons{o:Option V}{d:D}{B:List γ}{n:List (Option V)}{ds:List D}{A:List γ}(h:G5 F H o d B)(t:Locs F H n ds A):Locs F H (o::n) (d::ds) (B++A):=by
 cases h with
 | no=>exact .no t
 | so h=>exact .so h t
theorem Locs.split:∀{ds:List D}{n:List (Option V)}{A:List γ}{i:Nat}{d:D},Locs F H n ds A->ds[i]? = some d ->
   ∃ σ1 o σ2 ds1 a A1 B A2,n=σ1++o::σ2/\ds=ds1++d::a/\σ1.length=i/\ds1.length=i/\A=A1++(B++A2)/\Locs F H σ1 ds1 A1/\G5 F H o d B/\Locs F H σ2 a A2:=by
 intro ds
 induction ds with
 | nil=>intro n A i d _ h;simp at h
 | cons e r m =>
   intro n A i d L h;cases i with
   | zero =>
     have:e=d:=by simpa using h
     subst this;cases L with
     | no t=>exact⟨[],none,_,[],_,[],[],_,rfl,rfl,rfl,rfl,rfl,.nil,.no,t⟩
     | so q t=>exact⟨[],some _,_,[],_,[],_,_,rfl,rfl,rfl,rfl,rfl,.nil,.so q,t⟩
   | succ i =>
     have h:r[i]? = some d:=by simpa using h
     cases L with
     | no t =>
       obtain⟨σ1,o,σ2,ds1,a,A1,B,A2,b,e2,c,f,g,j,k,l⟩:=m t h;exact⟨none::σ1,o,σ2,_::ds1,a,A1,B,A2,by rw[b];rfl,by rw[e2];rfl,by simp[c],by simp[f],g,.no j,k,l⟩
     | @so v _ B0 _ _ A0 q t =>
       obtain⟨σ1,o,σ2,ds1,a,A1,B,A2,b,e2,c,f,g,j,k,l⟩:=m t h;exact⟨some v::σ1,o,σ2,_::ds1,a,B0++A1,B,A2,by rw[b];rfl,by rw[e2];rfl,by simp[c],by simp[f],by rw[g,zAw],.so q j,k,l⟩
end
theorem qo2{a b:List α}{x y:α}(h:a.length=i):(a++x::b).set i y=a++y::b:=by
 subst h;rw[L5 _ _ (zA4 _),Nat.sub_self];rfl
theorem qA8{a b:List α}{x:α}(h:a.length=i):(a++x::b)[i]? = some x:=by
 subst h;simp
structure Ok(F:γ->Prop)(H:Hp)(A:List γ):Prop where
 sep:∀ b,A.count b<=1
 fro:∀ b,F b->A.count b=0
 ex:∀ b,F b->∃ o,H b=some o
structure Oa(F:γ->Prop)(H:Hp)(A:List γ)(F':γ->Prop)(H':Hp)(A':List γ):Prop where
 fr:∀ b o,H b=some o->A.count b=0->H' b=some o
 sub:∀ b o,H b=some o->A.count b=0->A'.count b=0
 mono:∀ b,F b->F' b
 fnew:∀ b o,H b=some o->A.count b=0->F' b->F b
section
variable{F j k:γ->Prop}{H i l:Hp}{A A1 A2 T:List γ}
theorem Oa.refl:Oa F H A F H A:=⟨λ _ _ e _=>e,λ _ _ _ e=>e,λ _ f=>f,λ _ _ _ _ f=>f⟩
theorem Oa.trans(s:Oa F H A j i A1)(t:Oa j i A1 k l A2):Oa F H A k l A2 :=
 ⟨λ b o e q=>t.fr b o (s.fr b o e q) (s.sub b o e q),λ b o e q=>t.sub b o (s.fr b o e q) (s.sub b o e q),λ b f=>t.mono b (s.mono b f),λ b o e q f=>s.fnew b o e q (t.fnew b o (s.fr b o e q) (s.sub b o e q) f)⟩
theorem Oa.same(s:Same H i):Oa F H A F i A:=⟨λ b o e _=>s b o e,λ _ _ _ e=>e,λ _ f=>f,λ _ _ _ _ f=>f⟩
theorem qb1{b:γ}{A:List γ}:b∈A↔A.count b≠0:=by
 rw[<- List.count_pos_iff];lia
theorem Oa.kp(s:Oa F H A j i A1)(o:Ok F H A)(c:∀ b∈A,∃ o,H b=some o/\Ea o=true):Kp F H (λ b=>A.count b≠0) j i :=
 ⟨λ b u e w=>s.fr b u e (by lia),λ b w=>c b (qb1.mpr w),λ b w f=>w (o.fro b f),s.mono⟩
theorem Ok.left(o:Ok F H (T++A)):Ok F H T:=⟨λ b=>by have:=o.sep b;rw[zA0] at this;lia,λ b f=>by have:=o.fro b f;rw[zA0] at this;lia,o.ex⟩
theorem Ok.right(o:Ok F H (T++A)):Ok F H A:=⟨λ b=>by have:=o.sep b;rw[zA0] at this;lia,λ b f=>by have:=o.fro b f;rw[zA0] at this;lia,o.ex⟩
theorem Ok.count(o:Ok F H A)(h:∀ b,A1.count b<=A.count b):Ok F H A1:=⟨λ b=>zAm (h b) (o.sep b),λ b f=>by have:=o.fro b f;have:=h b;lia,o.ex⟩
theorem Oa.frame(s:Oa F H A j i A1)(o:Ok F H (T++A))(c:∀ b∈T,∃ o,H b=some o/\Ea o=true)(d:Ok j i A1):Ok j i (T++A1)/\Oa F H (T++A) j i (T++A1):=by
 have a:∀ b,T.count b≠0->∃ u,H b=some u/\A.count b=0:=λ b h=>by
   obtain⟨u,e,_⟩:=c b (qb1.mpr h)
   have:=o.sep b
   rw[zA0] at this;exact⟨u,e,by lia⟩
 refine⟨⟨λ b=>?_,λ b f=>?_,d.ex⟩,λ b u e q=>?_,λ b u e q=>?_,s.mono,λ b u e q f=>?_⟩
 . rw[zA0]
   by_cases h:T.count b=0
   . have:=d.sep b;lia
   obtain⟨u,e,q⟩:=a b h;have g:=s.sub b u e q
   have:=o.sep b
   rw[zA0] at this;lia
 . rw[zA0,d.fro b f]
   by_cases h:T.count b=0
   . lia
   obtain⟨u,e,q⟩:=a b h
   have:=o.fro b (s.fnew b u e q f)
   rw[zA0] at this;lia
 . rw[zA0] at q;exact s.fr b u e (by lia)
 . rw[zA0] at q ⊢;have:=s.sub b u e (by lia);lia
 rw[zA0] at q;exact s.fnew b u e (by lia) f
theorem Oa.count(s:Oa F H A j i A1)(h:∀ b,A2.count b<=A1.count b):Oa F H A j i A2:=⟨s.fr,λ b o e q=>by have:=s.sub b o e q;have:=h b;lia,s.mono,s.fnew⟩
theorem Oa.pre(s:Oa F H A j i A1)(h:∀ b,A.count b=A2.count b):Oa F H A2 j i A1:=⟨λ b o e q=>s.fr b o e (by rw[h];exact q),λ b o e q=>s.sub b o e (by rw[h];exact q),s.mono,λ b o e q f=>s.fnew b o e (by rw[h];exact q) f⟩
end
structure New(H:Hp)(B:List γ):Prop where
 one:∀ b,B.count b<=1
 new:∀ b o,H b=some o->B.count b=0
section
variable{F:γ->Prop}{H H':Hp}{A B:List γ}
theorem New.nil:New H []:=⟨λ b=>by simp,λ b o _=>by simp⟩
theorem New.ok(n:New H B)(o:Ok F H A)(c:∀ b∈A,∃ o,H b=some o/\Ea o=true)(s:Same H H'):Ok F H' (B++A):=by
 refine⟨λ b=>?_,λ b f=>?_,λ b f=>?_⟩
 . rw[zA0]
   have a:=n.one b;have d:=o.sep b;by_cases h:A.count b=0
   . lia
   obtain⟨u,e,_⟩:=c b (qb1.mpr h)
   have:=n.new b u e
   lia
 . rw[zA0,o.fro b f]
   obtain⟨u,e⟩:=o.ex b f;rw[n.new b u e]
 obtain⟨u,e⟩:=o.ex b f;exact⟨u,s b u e⟩
theorem New.append{H1:Hp}{B1:List γ}(n:New H B)(s:Same H H1)(c:∀ b∈B,∃ o,H1 b=some o/\Ea o=true)(a:New H1 B1):New H (B++B1):=by
 refine⟨λ b=>?_,λ b o e=>?_⟩
 . rw[zA0]
   have d:=n.one b;have f:=a.one b;by_cases h:B.count b=0
   . lia
   obtain⟨u,e,_⟩:=c b (qb1.mpr h)
   have:=a.new b u e
   lia
 rw[zA0,n.new b o e,a.new b o (s b o e)]
theorem Ok.same(o:Ok F H A)(s:Same H H'):Ok F H' A:=⟨o.sep,o.fro,λ b f=>let ⟨u,e⟩:=o.ex b f;⟨u,s b u e⟩⟩
theorem New.stp(n:New H B)(s:Same H H'):Oa F H A F H' (B++A):=⟨λ b o e _=>s b o e,λ b o e q=>by rw[zA0,n.new b o e,q],λ _ f=>f,λ _ _ _ _ f=>f⟩
end
structure Exn where
 C:γ
 fs:List (Str×D)
def RepX(F:γ->Prop)(H:Hp)(e:γ)(x:Exn):Prop :=
 ∃ b,H e=some (ExcO e x.C b false)/\(x.fs=[]∨∃ dx a,b=some dx/\H dx=some (XD dx a)/\a.map (·.1)=x.fs.map (·.1)/\N3 F H (a.map (·.2)) (x.fs.map (·.2)) [])
abbrev Ds:=List D
abbrev DK:=D->Ds->Prop
abbrev XKd:=Exn->Ds->Prop
abbrev VT:=Ds->DK->XKd->Prop
abbrev VTT:=Ds->(Bool->Ds->Prop)->XKd->Prop
abbrev VTA:=Ds->(Ds->Ds->Prop)->XKd->Prop
abbrev FV:=Ds->Option D
structure Vc where
 E:St->XK
 W:Nat->Bool
 av:List (Option V)
 gv:List (Option V)
structure Ob(c:Vc)(F:γ->Prop)(H:Hp)(a:St)(ds:Ds)(A:List γ):Prop where
 loc:Locs F H (a++c.gv) ds A
 ok:Ok F H A
 len:c.av.length=(a++c.gv).length
 ag:∀ i,c.W i=true->(a++c.gv)[i]? = c.av[i]?
theorem Ob.same{c:Vc}{F:γ->Prop}{H H':Hp}{a:St}{ds:Ds}{A:List γ}(S:Ob c F H a ds A)(s:Same H H'):Ob c F H' a ds A:=⟨S.loc.same s,S.ok.same s,S.len,S.ag⟩
def Xc(c:Vc)(xe:XKd)(F:γ->Prop)(H:Hp)(A:List γ):Prop :=
 ∀ x a b' e H' F' A',xe x a->RepX F' H' e x->Ob c F' H' b' a A'->Oa F H A F' H' A'->c.E b' (.ref e) none H'
theorem Xc.step{c:Vc}{xe:XKd}{F F1:γ->Prop}{H H1:Hp}{A A1:List γ}(x:Xc c xe F H A)(s:Oa F H A F1 H1 A1):Xc c xe F1 H1 A1:=λ y a b' e H' F' A' h r S t=>x y a b' e H' F' A' h r S (s.trans t)
def kE(c:Vc)(b:St)(F:γ->Prop)(H:Hp)(A:List γ)(Q:VK):DK:=λ d a=>∀ v H' F' T A',N9 F' H' v d T->Ob c F' H' b a A'->Ok F' H' (T++A')->Oa F H A F' H' (T++A')->Q v H'
inductive LiftE(c:Vc)(t:VT)(a:St)(H:Hp)(Q:VK):Prop
 | mk (F:γ->Prop) (ds:Ds) (A:List γ) (xe:XKd) (S:Ob c F H a ds A) (x:Xc c xe F H A) (q:t ds (kE c a F H A Q) xe):LiftE c t a H Q
def Bd(c:Vc)(t:VT):TE:=LiftE c t
inductive LiftV(c:Vc)(own:Bool)(f:FV)(a:St)(H:Hp)(Q:VK):Prop
 | mk (F:γ->Prop) (ds:Ds) (A:List γ) (d:D) (S:Ob c F H a ds A) (e:f ds=some d) (q:∀ v H' B,N9 F H' v d B->Same H H'->(own=true->New H B)->Q v H'):LiftV c own f a H Q
def liftV(c:Vc)(own:Bool)(f:FV):TE:=LiftV c own f
inductive qaQ1(c:Vc)(own:Bool)(f:Ds->Option Ds)(a:St)(H:Hp)(Q:List V->Hp->Prop):Prop
 | mk (F:γ->Prop) (ds:Ds) (A:List γ) (xs:Ds) (S:Ob c F H a ds A) (e:f ds=some xs) (q:∀ vs H' B,N3 F H' vs xs B->Same H H'->(own=true->New H B)->Q vs H'):qaQ1 c own f a H Q
def qaL2(c:Vc)(own:Bool)(f:Ds->Option Ds):TA:=qaQ1 c own f
inductive qaQ3(c:Vc)(t:VTA)(a:St)(H:Hp)(Q:List V->Hp->Prop):Prop
 | mk (F:γ->Prop) (ds:Ds) (A:List γ) (xe:XKd) (S:Ob c F H a ds A) (x:Xc c xe F H A) (q:t ds (λ xs ds'=>∀ vs H' F' T A',N3 F' H' vs xs T->Ob c F' H' a ds' A'->Oa F H A F' H' A'->Q vs H') xe):qaQ3 c t a H Q
def qaA4(c:Vc)(t:VTA):TA:=qaQ3 c t
inductive LiftT(c:Vc)(t:VTT)(a:St)(H:Hp)(Q:Bool->Hp->Prop):Prop
 | mk (F:γ->Prop) (ds:Ds) (A:List γ) (xe:XKd) (S:Ob c F H a ds A) (x:Xc c xe F H A) (q:t ds (λ b ds'=>∀ H' F' A',Ob c F' H' a ds' A'->Oa F H A F' H' A'->Q b H') xe):LiftT c t a H Q
def Dx(c:Vc)(t:VTT):TT:=LiftT c t
structure VE(c:Vc)(X:Cx)(e:Kl)(t:VT):Prop where
 h:PE X e (Bd c t)
 m:∀ ds (Q Q':DK) (xe xe':XKd),(∀ d ds',Q d ds'->Q' d ds')->(∀ x ds',xe x ds'->xe' x ds')->t ds Q xe->t ds Q' xe'
structure VV(c:Vc)(X:Cx)(e:Kl)(own:Bool)(f:FV):Prop where
 h:PE X e (liftV c own f)
structure VVs(c:Vc)(X:Cx)(es:List Kl)(own:Bool)(f:Ds->Option Ds):Prop where
 h:PA X es (qaL2 c own f)
structure VOs(c:Vc)(X:Cx)(es:List Kl)(t:VTA):Prop where
 h:PA X es (qaA4 c t)
 m:∀ ds (Q Q':Ds->Ds->Prop) (xe xe':XKd),(∀ d ds',Q d ds'->Q' d ds')->(∀ x ds',xe x ds'->xe' x ds')->t ds Q xe->t ds Q' xe'
structure VTe(c:Vc)(X:Cx)(e:Kl)(t:VTT):Prop where
 h:PT X e (Dx c t)
 m:∀ ds (Q Q':Bool->Ds->Prop) (xe xe':XKd),(∀ d ds',Q d ds'->Q' d ds')->(∀ x ds',xe x ds'->xe' x ds')->t ds Q xe->t ds Q' xe'
theorem PE.mono{X:Cx}{e:Kl}{t t':TE}(h:PE X e t)(i:∀ a H Q,t' a H Q->t a H Q):PE X e t':=λ D8 s a H Q I q=>h D8 s a H Q I (i a H Q q)
theorem PT.mono{X:Cx}{e:Kl}{t t':TT}(h:PT X e t)(i:∀ a H Q,t' a H Q->t a H Q):PT X e t':=λ D8 s a H Q I q=>h D8 s a H Q I (i a H Q q)
theorem PW.mono{X:Cx}{e:Kl}{t t':TT}(h:PW X e t)(i:∀ a H Q,t' a H Q->t a H Q):PW X e t':=λ w D8 s a H Q I q=>h w D8 s a H Q I (i a H Q q)
theorem PA.mono{X:Cx}{es:List Kl}{t t':TA}(h:PA X es t)(i:∀ a H Q,t' a H Q->t a H Q):PA X es t':=λ p D8 s a H Q I q=>h p D8 s a H Q I (i a H Q q)
theorem PS.mono{X:Cx}{st:Km}{t t':TS}(h:PS X st t)(i:∀ D a H,t' D a H->t D a H):PS X st t':=λ D8 s a H D I q=>h D8 s a H D I (i D a H q)
theorem PSs.mono{X:Cx}{st:List Km}{t t':TS}(h:PSs X st t)(i:∀ D a H,t' D a H->t D a H):PSs X st t':=λ D8 s a H D I q=>h D8 s a H D I (i D a H q)
def orF{α:Type}(o:Option α)(k:α->Prop):Prop:=match o with | some a=>k a | none=>False
theorem qa4{o:Option α}{k b:α->Prop}(h:∀ a,k a->b a):orF o k->orF o b:=by
 cases o with
 | none=>exact id
 | some a=>exact h a
theorem qa6{o:Option α}{k:α->Prop}:orF o k↔∃ a,o=some a/\k a:=by
 cases o with
 | none=>exact⟨λ h=>h.elim,λ ⟨_,e,_⟩=>by cases e⟩
 | some a=>exact⟨λ h=>⟨a,rfl,h⟩,λ ⟨b,e,h⟩=>by cases e;exact h⟩
section
variable{c:Vc}{X:Cx}{e:Kl}{F:γ->Prop}{H H':Hp}{t:St}{ds:Ds}{A:List γ}
theorem Ob.new{B:List γ}(S:Ob c F H t ds A)(n:New H B)(s:Same H H'):Ok F H' (B++A):=n.ok S.ok S.loc.cells s
def Dc(f:FV):VT:=λ ds Q _=>orF (f ds) λ d=>Q d ds
def Bq(f:FV):VT:=λ ds Q _=>orF (f ds) λ d=>d.imm=true/\Q d ds
theorem qa5{f:FV}(h:VV c X e true f):VE c X e (Dc f):=by
 refine⟨PE.mono h.h λ t H Q a=>?_,λ b Q Q' g i j _=>qa4 λ d=>j d b⟩;obtain⟨F,b,A,g,S,x,q⟩:=a;obtain⟨d,e,q⟩:=qa6.mp q;exact⟨F,b,A,d,S,e,λ v H' B r s n=>q v H' F B A r (S.same s) (S.new (n rfl) s) ((n rfl).stp s)⟩
theorem qb4{own:Bool}{f:FV}(h:VV c X e own f):VE c X e (Bq f):=by
 refine⟨PE.mono h.h λ t H Q a=>?_,λ b Q Q' g i j _=>qa4 λ d=>Nb (j d b)⟩;obtain⟨F,b,A,g,S,x,q⟩:=a;obtain⟨d,e,k,q⟩:=qa6.mp q;refine⟨F,b,A,d,S,e,λ v H' B r s _=>?_⟩
 have:=r.imm k
 subst this;exact q v H' F [] A r (S.same s) (S.ok.same s) (.same s)
theorem Fw{d:D}(h:PE X e (tC v))(r:∀ F H,N9 F H v d []):VV c X e true (λ _=>some d) :=
 ⟨PE.mono h λ t H Q ⟨F,a,A,b,S,e,q⟩=>by cases e;exact q v H [] (r F H) (λ _ _ z=>z) λ _=>New.nil⟩
noncomputable def D.known:D->Bool
 | .u=>false
 | .hole _=>false
 | _=>true
def rdN(i:Nat):FV:=λ ds=>match ds[i]? with
 | some d=>if d.known=true then some d else none
 | none=>none
theorem qm5{d:D}:rdN i ds=some d↔ds[i]? = some d/\d.known=true:=by
 unfold rdN;cases h:ds[i]? with
 | none=>simp
 | some x =>
   dsimp only;split
   . rename_i hk;constructor
     . intro e;cases e;exact⟨rfl,hk⟩
     rintro⟨e,_⟩;exact e
   rename_i hk;constructor
   . intro e;cases e
   rintro⟨e,a⟩;cases e;exact absurd a hk
theorem Ob.at{d:D}(S:Ob c F H t ds A)(hi:i < t.length)(h:ds[i]? = some d)(a:d.known=true):∃ v B,t[i]? = some (some v)/\N9 F H v d B/\∀ b,B.count b<=A.count b:=by
 obtain⟨σ1,o,σ2,e,f,A1,B,A2,g,e2,j,m,k,n,l,p⟩:=S.loc.split h;cases l with
 | no=>cases a
 | @so v _ _ r =>
   refine⟨v,B,?_,r,λ b=>by rw[k];simp only[zA0];lia⟩
   have:(t++c.gv)[i]? = some (some v):=by rw[g];exact qA8 j
   rwa[zB2 hi] at this
theorem qaE5{x:Str}{pos:Pos}(h:PE X (.Name x pos) (E9 i))(hi:∀ D8 t H s,Inv X D8 t H s->i < t.length):VV c X (.Name x pos) false (rdN i):=by
 refine⟨λ D8 s t H Q I a=>?_⟩;obtain⟨F,g,A,d,S,e,q⟩:=a;refine h D8 s t H Q I ?_;obtain⟨e,b⟩:=qm5.mp e;obtain⟨v,B,f,r,_⟩:=S.at (hi D8 t H s I) e b;exact⟨v,f,q v H B r (λ _ _ z=>z) λ z=>by cases z⟩
theorem qr8{X:Cx}{x:Str}(a:X.N[i]? = some x):∀ D8 t H s,Inv X D8 t H s->i < t.length:=λ D8 t H s I=>by
 rw[I.len];exact(zA5.mp a).1
end
def Sub(H:Hp)(B B':List γ):Prop:=∀ b,B'.count b<=B.count b∨(B'.count b<=1/\H b=none)
theorem Sub.new{H H1:Hp}{B B':List γ}(s:Sub H1 B B')(n:New H B)(q:Same H H1):New H B':=by
 refine⟨λ b=>?_,λ b o e=>?_⟩
 . rcases s b with h | ⟨h,_⟩
   . have:=n.one b;lia
   exact h
 rcases s b with h | ⟨_,h⟩
 . have:=n.new b o e;lia
 rw[q b o e] at h;cases h
def OpS(nw:Bool)(r:List V->Hp->VK->Prop)(g:Ds->Option D):Prop:=∀ F H vs xs B d (Q:VK),N3 F H vs xs B->g xs=some d ->
 (∀ v H' B',N9 F H' v d B'->Same H H'->(if nw=true then New H B' else Sub H B B')->Q v H')->r vs H Q
def Bb(nw:Bool)(r:R2)(g:D->D->Option D):Prop:=∀ F H v w x y B d (Q:VK),N3 F H [v,w] [x,y] B->g x y=some d ->
 (∀ v H' B',N9 F H' v d B'->Same H H'->(if nw=true then New H B' else Sub H B B')->Q v H')->r v w H Q
noncomputable def f2(g:D->D->Option D)(fa fb:FV):FV:=λ ds=>(fa ds).bind λ x=>(fb ds).bind λ y=>g x y
theorem qaC5{g:D->D->Option D}{fa fb:FV}{ds:Ds}{d:D}:f2 g fa fb ds=some d↔∃ x y,fa ds=some x/\fb ds=some y/\g x y=some d:=by
 unfold f2;cases a:fa ds with
 | none=>simp
 | some x=>cases b:fb ds with
   | none=>simp
   | some y=>simp
noncomputable def f1(g:D->Option D)(fa:FV):FV:=λ ds=>(fa ds).bind g
theorem qaC6{g:D->Option D}{fa:FV}{ds:Ds}{d:D}:f1 g fa ds=some d↔∃ x,fa ds=some x/\g x=some d:=by
 unfold f1;cases a:fa ds with
 | none=>simp
 | some x=>simp
theorem Fp{F:γ->Prop}{H:Hp}{d e:D}{A B:List γ}(r:N9 F H v d A)(s:N9 F H w e B):N3 F H [v,w] [d,e] (A++(B++[])):=.cons r (.cons s .nil)
section
variable{c:Vc}{X:Cx}{a b:Kl}{Z ob nw:Bool}{Y U:FV}{r:R2}{g:D->D->Option D}{O R:VT}
theorem op_vv(h:Bb nw r g):∀ N H Q,liftV c (nw||(Z&&ob)) (f2 g Y U) N H Q->tOp r (liftV c Z Y) (liftV c ob U) N H Q:=by
 rintro N H Q ⟨F,k,A,d,S,e,q⟩;obtain⟨x,y,m,n,p⟩:=qaC5.mp e;refine⟨F,k,A,x,S,m,λ v H1 B1 l a s=>⟨F,k,A,y,S.same a,n,λ w H2 B2 t i z=>?_⟩⟩;refine h F H2 v w x y _ d Q (Fp (l.same i) t) p λ u H3 B3 B C f=>?_
 refine q u H3 B3 B ((a.trans i).trans C) λ j=>?_
 cases nw with
 | true=>rw[if_pos rfl] at f;exact⟨f.one,λ b o e=>f.new b o (i b o (a b o e))⟩
 | false =>
   rw[if_neg (by decide)] at f;have j:=zAn.mp j
   have:=(s j.1).append a l.cells (z j.2)
   exact f.new (by rw[zAe];exact this) (a.trans i)
def t2(g:D->D->Option D)(O R:VT):VT:=λ ds Q xe=>O ds (λ x ds1=>R ds1 (λ y a=>orF (g x y) λ d=>Q d a) xe) xe
theorem qaF6(j:VE c X a O)(k:VE c X b R):∀ ds (Q Q':DK) (xe f:XKd),(∀ d e,Q d e->Q' d e)->(∀ x e,xe x e->f x e)->t2 g O R ds Q xe->t2 g O R ds Q' f :=
 λ ds Q Q' xe f l i=>j.m _ _ _ _ _ (λ d n=>k.m _ _ _ _ _ (λ d h=>qa4 λ z=>l z h) i) i
theorem op_ee(s:VE c X a O)(i:VE c X b R)(h:Bb true r g):∀ N H Q,Bd c (t2 g O R) N H Q->tOp r (Bd c O) (Bd c R) N H Q:=by
 rintro N H Q ⟨F,t,A,o,S,x,q⟩;refine⟨F,t,A,o,S,x,s.m _ _ _ _ _ (λ p j q v H1 F1 T A1 y S1 B C=>?_) (λ _ _ z=>z) q⟩;have e:Oa F H A F1 H1 A1:=C.count λ b=>by rw[zA0];lia
 refine⟨F1,j,A1,o,S1,x.step e,i.m _ _ _ _ _ (λ D E q w H2 F2 T2 A2 G S2 L I=>?_) (λ _ _ z=>z) q⟩;obtain⟨d,J,q⟩:=qa6.mp q;have f:Oa F1 H1 A1 F2 H2 A2:=I.count λ b=>by rw[zA0];lia
 have k:N9 F2 H2 v p T:=y.keep (f.kp S1.ok S1.loc.cells) λ b i M=>by
   have:=B.sep b
   rw[zA0] at this
   have:=qb1.mp i
   lia
 refine h F2 H2 v w p D _ d Q (Fp k G) J λ u H3 B3 K l n=>?_
 rw[if_pos rfl] at n;exact q u H3 F2 B3 A2 K (S2.same l) (S2.new n l) ((e.trans f).trans (n.stp l))
def t2v(g:D->D->Option D)(O:VT)(U:FV):VT:=λ ds Q xe=>O ds (λ x ds1=>orF ((U ds1).bind (g x)) λ d=>Q d ds1) xe
theorem qav4(h:VE c X a O):∀ ds (Q Q':DK) (xe e:XKd),(∀ d b,Q d b->Q' d b)->(∀ x b,xe x b->e x b)->t2v g O U ds Q xe->t2v g O U ds Q' e :=
 λ ds Q Q' xe e i j=>h.m _ _ _ _ _ (λ d f=>qa4 λ z=>i z f) j
theorem op_ev(s:VE c X a O)(h:Bb true r g):∀ N H Q,Bd c (t2v g O U) N H Q->tOp r (Bd c O) (liftV c ob U) N H Q:=by
 rintro N H Q ⟨F,t,A,B,S,x,q⟩;refine⟨F,t,A,B,S,x,s.m _ _ _ _ _ (λ C j q v H1 F1 T A1 D S1 L E=>?_) (λ _ _ z=>z) q⟩;have k:Oa F H A F1 H1 A1:=E.count λ b=>by rw[zA0];lia
 obtain⟨d,l,q⟩:=qa6.mp q;obtain⟨y,G,l⟩:=zA1.mp l;refine⟨F1,j,A1,y,S1,G,λ w H2 B2 I n _=>?_⟩;refine h F1 H2 v w C y _ d Q (Fp (D.same n) I) l λ u H3 B3 J K p=>?_
 rw[if_pos rfl] at p;have f:=n.trans K;have i:New H1 B3:=⟨p.one,λ b o e=>p.new b o (n b o e)⟩
 exact q u H3 F1 B3 A1 J (S1.same f) (S1.new i f) (k.trans (i.stp f))
def OpS1(nw:Bool)(r:V->Hp->VK->Prop)(g:D->Option D):Prop:=∀ F H v x B d (Q:VK),N9 F H v x B->g x=some d ->
 (∀ v H' B',N9 F H' v d B'->Same H H'->(if nw=true then New H B' else Sub H B B')->Q v H')->r v H Q
def t1(g:D->Option D)(O:VT):VT:=λ ds Q xe=>O ds (λ x ds1=>orF (g x) λ d=>Q d ds1) xe
theorem qaF7{g:D->Option D}(h:VE c X a O):∀ ds (Q Q':DK) (xe e:XKd),(∀ d b,Q d b->Q' d b)->(∀ x b,xe x b->e x b)->t1 g O ds Q xe->t1 g O ds Q' e :=
 λ ds Q Q' xe e i j=>h.m _ _ _ _ _ (λ d f=>qa4 λ z=>i z f) j
variable{W:V->Hp->VK->Prop}{g1:D->Option D}
theorem op_v(h:OpS1 nw W g1):∀ N H Q,liftV c (nw||Z) (f1 g1 Y) N H Q->liftV c Z Y N H (λ x H1=>W x H1 Q):=by
 rintro N H Q ⟨F,g,A,d,S,e,q⟩;obtain⟨x,i,j⟩:=qaC6.mp e;refine⟨F,g,A,x,S,i,λ v H1 B1 W f k=>?_⟩;refine h F H1 v x _ d Q W j λ u H3 B3 l m a=>?_
 refine q u H3 B3 l (f.trans m) λ n=>?_
 cases nw with
 | true=>rw[if_pos rfl] at a;exact⟨a.one,λ b o e=>a.new b o (f b o e)⟩
 | false=>rw[if_neg (by decide)] at a;exact a.new (k n) f
end
theorem qam4{F F1:γ->Prop}{H H1 H3:Hp}{A A1 T B:List γ}(d:Ok F1 H1 (T++A1))(c:Oa F H A F1 H1 (T++A1))(j:∀ b∈A1,∃ o,H1 b=some o/\Ea o=true)(i:Same H1 H3)(g:Sub H1 T B):Ok F1 H3 (B++A1)/\Oa F H A F1 H3 (B++A1):=by
 refine⟨⟨λ b=>?_,λ b f=>?_,λ b f=>let ⟨u,e⟩:=d.ex b f;⟨u,i b u e⟩⟩,λ b o e q=>i b o (c.fr b o e q),λ b o e q=>?_,c.mono,c.fnew⟩
 . have:=d.sep b
   rw[zA0] at this ⊢;rcases g b with h | ⟨h,a⟩
   . lia
   by_cases k:A1.count b=0
   . lia
   obtain⟨o,e,_⟩:=j b (qb1.mpr k);rw[e] at a;cases a
 . have:=d.fro b f
   rw[zA0] at this ⊢;rcases g b with h | ⟨h,a⟩
   . lia
   obtain⟨o,e⟩:=d.ex b f;rw[e] at a;cases a
 have:=c.sub b o e q
 rw[zA0] at this ⊢;rcases g b with h | ⟨h,a⟩
 . lia
 rw[c.fr b o e q] at a;cases a
section
variable{c:Vc}{X:Cx}{a b:Kl}{oa ob nw:Bool}{W Z:FV}{r:R2}{g:D->D->Option D}{U:VT}
def Il(g:D->D->Option D)(U:VT)(Z:FV):VT:=λ ds Q xe=>U ds (λ x ds1=>orF (Z ds1) λ y=>y.imm=true/\orF (g x y) λ d=>Q d ds1) xe
theorem qai5(h:VE c X a U):∀ ds (Q Q':DK) (xe e:XKd),(∀ d b,Q d b->Q' d b)->(∀ x b,xe x b->e x b)->Il g U Z ds Q xe->Il g U Z ds Q' e :=
 λ ds Q Q' xe e i j=>h.m _ _ _ _ _ (λ d f=>qa4 λ y=>Nb (qa4 λ z=>i z f)) j
theorem qaT5(p:VE c X a U)(h:Bb false r g):∀ R H Q,Bd c (Il g U Z) R H Q->tOp r (Bd c U) (liftV c ob Z) R H Q:=by
 rintro R H Q ⟨F,s,A,t,S,x,q⟩;refine⟨F,s,A,t,S,x,p.m _ _ _ _ _ (λ B i q v H1 F1 T A1 C S1 D E=>?_) (λ _ _ z=>z) q⟩;obtain⟨y,G,I,q⟩:=qa6.mp q;obtain⟨d,J,q⟩:=qa6.mp q;refine⟨F1,i,A1,y,S1,G,λ w H2 B2 k j _=>?_⟩
 have:=k.imm I
 subst this;refine h F1 H2 v w B y _ d Q (Fp (C.same j) k) J λ u H3 B3 K L l=>?_
 rw[if_neg (by decide),zAe,zAe] at l;have f:=j.trans L;have M:Sub H1 T B3:=λ b=>(l b).imp id λ ⟨N,n⟩=>⟨N,by
   cases e:H1 b with
   | none=>rfl
   | some o=>rw[j b o e] at n;cases n⟩
 obtain⟨O,P⟩:=qam4 D E S1.loc.cells f M;exact q u H3 F1 B3 A1 K (S1.same f) O P
theorem qa7:VVs c X [] true (λ _=>some []):=⟨PA.mono qy7 λ R H Q ⟨F,a,A,b,S,e,q⟩=>by cases e;exact q [] H [] .nil (λ _ _ z=>z) λ _=>New.nil⟩
noncomputable def Ax(W:FV)(a:Ds->Option Ds):Ds->Option Ds:=λ ds=>(W ds).bind λ x=>(a ds).bind λ xs=>some (x::xs)
theorem qan8{W:FV}{a:Ds->Option Ds}{ds xs:Ds}:Ax W a ds=some xs↔∃ x r,W ds=some x/\a ds=some r/\xs=x::r:=by
 unfold Ax;cases b:W ds with
 | none=>simp
 | some x=>cases c:a ds with
   | none=>simp
   | some y=>simp[eq_comm]
theorem qa2{e:Kl}{es:List Kl}{own:Bool}{f:Ds->Option Ds}(k:VV c X e oa W)(l:VVs c X es own f)(hs:Js (e::es) X.env=(false,eval e X.env)::Js es X.env):VVs c X (e::es) (oa&&own) (Ax W f):=by
 refine⟨PA.mono (qg5 k.h l.h hs) λ R H Q b=>?_⟩;obtain⟨F,g,A,t,S,e,q⟩:=b;obtain⟨x,r,m,e2,rfl⟩:=qan8.mp e;refine⟨F,g,A,x,S,m,λ v H1 B1 i d n=>⟨F,g,A,r,S.same d,e2,λ o H2 B2 p j s=>?_⟩⟩;refine q (v::o) H2 (B1++B2) (.cons (i.same j) p) (d.trans j) λ a=>?_
 have a:=zAn.mp a;exact(n a.1).append d i.cells (s a.2)
variable{rc:List V->Hp->VK->Prop}{Y:Ds->Option D}
theorem qaJ6{own:Bool}{f:Ds->Option Ds}(h:OpS nw rc Y):∀ R H Q,liftV c (nw||own) (λ ds=>(f ds).bind Y) R H Q->tCB rc (qaL2 c own f) R H Q:=by
 rintro R H Q ⟨F,ds,A,d,S,e,q⟩;obtain⟨i,j,e2⟩:=zA1.mp e;refine⟨F,ds,A,i,S,j,λ k H1 B1 l g m=>h F H1 k i B1 d Q l e2 λ u H3 B3 n p a=>q u H3 B3 n (g.trans p) λ r=>?_⟩;cases nw with
 | true=>rw[if_pos rfl] at a;exact⟨a.one,λ b o e=>a.new b o (g b o e)⟩
 | false=>rw[if_neg (by decide)] at a;exact a.new (m r) g
def tcO(Y:Ds->Option D)(t:VTA):VT:=λ ds Q xe=>t ds (λ xs ds1=>orF (Y xs) λ d=>Q d ds1) xe
theorem qav1{es:List Kl}{t:VTA}(f:VOs c X es t):∀ ds (Q Q':DK) (xe b:XKd),(∀ d a,Q d a->Q' d a)->(∀ x a,xe x a->b x a)->tcO Y t ds Q xe->tcO Y t ds Q' b :=
 λ ds Q Q' xe b g h=>f.m _ _ _ _ _ (λ d e=>qa4 λ z=>g z e) h
theorem opc_o{es:List Kl}{t:VTA}(e:VOs c X es t)(h:OpS true rc Y):∀ R H Q,Bd c (tcO Y t) R H Q->tCB rc (qaA4 c t) R H Q:=by
 rintro R H Q ⟨F,f,A,g,S,x,q⟩;refine⟨F,f,A,g,S,x,e.m _ _ _ _ _ (λ i j q k H1 F1 T A1 l S1 n=>?_) (λ _ _ z=>z) q⟩;obtain⟨d,o,q⟩:=qa6.mp q;refine h F1 H1 k i T d Q l o λ u H3 B3 p a b=>?_
 rw[if_pos rfl] at b;exact q u H3 F1 B3 A1 p (S1.same a) (S1.new b a) (n.trans (b.stp a))
end
def D.kids:D->List D
 | .q ds=>ds
 | .l false ds=>ds
 | .dct false kvs=>kvs.map (·.2)
 | .ins false _ fs=>fs.map (·.2)
 | _=>[]
noncomputable def Hk{a:Type}:List (a×D)->Nat->D->List (a×D)
 | [],_,_=>[]
 | (k,_)::r,0,x=>(k,x)::r
 | p::r,n+1,x=>p::Hk r n x
theorem qK2{c:Type}:∀(l:List (c×D))(n:Nat)(x:D),(Hk l n x).map (·.1)=l.map (·.1)/\(Hk l n x).map (·.2)=(l.map (·.2)).set n x
 | [],_,_=>⟨rfl,rfl⟩
 | (k,_)::r,0,x=>⟨rfl,rfl⟩
 | p::r,n+1,x=>by
   obtain⟨a,b⟩:=qK2 r n x;simp only[Hk,zAo,a,b,List.set_cons_succ,and_self]
def D.setK:D->Nat->D->D
 | .q ds,n,x=>.q (ds.set n x)
 | .l z ds,n,x=>.l z (ds.set n x)
 | .dct z kvs,n,x=>.dct z (Hk kvs n x)
 | .ins z C fs,n,x=>.ins z C (Hk fs n x)
 | d,_,_=>d
def Lnk(H:Hp)(u:V)(n:Nat)(w:V):Prop:=∃ a,u=.ref a /\
 ((∃ vs,H a=some (.q vs)/\vs[n]? = some w)∨(∃ vs,H a=some (.l vs)/\vs[n]? = some w)∨(∃ kvs,H a=some (.dK kvs)/\(kvs.map (·.2))[n]? = some w)∨∃ C dx fs,H a=some (.ins C dx fs)/\(fs.map (·.2))[n]? = some w)
section
variable{F F':γ->Prop}{H H':Hp}
theorem N3.split:∀{ds:List D}{vs:List V}{A:List γ}{i:Nat}{d:D},N3 F H vs ds A->ds[i]? = some d ->
   ∃ b v c ds1 a A1 B A2,vs=b++v::c/\ds=ds1++d::a/\b.length=i/\ds1.length=i/\A=A1++(B++A2)/\N3 F H b ds1 A1/\N9 F H v d B/\N3 F H c a A2:=by
 intro ds
 induction ds with
 | nil=>intro K A i d _ h;simp at h
 | cons e r f =>
   intro K A i d L h;cases i with
   | zero =>
     have:e=d:=by simpa using h
     subst this;cases L with
     | cons q t=>exact⟨[],_,_,[],_,[],_,_,rfl,rfl,rfl,rfl,rfl,.nil,q,t⟩
   | succ i =>
     have h:r[i]? = some d:=by simpa using h
     cases L with
     | @cons v _ B0 _ _ A0 q t =>
       obtain⟨σ1,o,σ2,ds1,a,A1,B,A2,g,e2,j,k,l,m,n,p⟩:=f t h;exact⟨v::σ1,o,σ2,_::ds1,a,B0++A1,B,A2,by rw[g];rfl,by rw[e2];rfl,by simp[j],by simp[k],by rw[l,zAw],.cons q m,n,p⟩
theorem N3.append{a:List V}{ds es:List D}{A B:List γ}(r:N3 F H vs ds A)(t:N3 F H a es B):N3 F H (vs++a) (ds++es) (A++B):=by
 induction vs generalizing ds A with
 | nil=>cases r;exact t
 | cons v vs b =>
   cases r with
   | cons h c=>rw[zAw];exact .cons h (b c)
theorem N3.kid{ds:List D}{A:List γ}{d:D}(r:N3 F H vs ds A)(h:ds[n]? = some d):∃(w:V)(B C:List γ),vs[n]? = some w/\N9 F H w d B/\(∀ b,A.count b=B.count b+C.count b) /\
   ∀{F':γ->Prop}{H':Hp}{W:γ->Prop}(d':D)(B':List γ),Kp F H W F' H'->(∀ b∈C,¬ W b)->N9 F' H' w d' B'->∃ A':List γ,N3 F' H' vs (ds.set n d') A'/\∀ b,A'.count b=B'.count b+C.count b:=by
 obtain⟨f,v,g,i,j,A1,B,A2,c,e2,l,m,o,p,q,s⟩:=r.split h;refine⟨v,B,A1++A2,by rw[c];exact qA8 l,q,λ b=>by rw[o];simp only[zA0];lia,λ{F' H' W} d' B' k e t=>⟨A1++(B'++A2),?_,λ b=>by simp only[zA0];lia⟩⟩;rw[c,e2,qo2 m];exact(p.keep k λ b a=>e b (zAj.mpr (.inl a))).append (.cons t (s.keep k λ b a=>e b (zAj.mpr (.inr a))))
theorem N9.kid{p:V}{d0 d:D}{A:List γ}(r:N9 F H p d0 A)(h:d0.kids[n]? = some d):∃(w:V)(B C:List γ),Lnk H p n w/\N9 F H w d B/\(∀ b,A.count b=B.count b+C.count b) /\
   ∀{F':γ->Prop}{H':Hp}{W:γ->Prop}(d':D)(B':List γ),Kp F H W F' H'->(∀ b∈C,¬ W b)->N9 F' H' w d' B'->∃ A':List γ,N9 F' H' p (d0.setK n d') A'/\∀ b,A'.count b=B'.count b+C.count b:=by
 cases r with
 | @q a vs ds _ e r =>
   obtain⟨w,B,C,f,g,i,j⟩:=r.kid (n:=n) h;refine⟨w,B,C,⟨a,rfl,.inl ⟨vs,e,f⟩⟩,g,i,λ{F' H' W} d' B' k c l=>?_⟩;obtain⟨A',m,q2⟩:=j d' B' k c l;exact⟨A',.q (k.q e) m,q2⟩
 | @l a vs ds A e r =>
   obtain⟨w,B,C,f,g,i,j⟩:=r.kid (n:=n) h;refine⟨w,B,a::C,⟨a,rfl,.inr (.inl ⟨vs,e,f⟩)⟩,g,λ b=>by rw[zAu,zAu,i];lia,λ{F' H' W} d' B' k c l=>?_⟩;obtain⟨A',m,q2⟩:=j d' B' k (λ b o=>c b (zA3 _ o)) l;exact⟨a::A',.l (k.fr a _ e (c a zA7)) m,λ b=>by rw[zAu,zAu,q2];lia⟩
 | @dct a kvs kds A e q r =>
   obtain⟨w,B,C,f,g,i,j⟩:=r.kid (n:=n) h;refine⟨w,B,a::C,⟨a,rfl,.inr (.inr (.inl ⟨kvs,e,f⟩))⟩,g,λ b=>by rw[zAu,zAu,i];lia,λ{F' H' W} d' B' k c l=>?_⟩;obtain⟨A',m,q2⟩:=j d' B' k (λ b o=>c b (zA3 _ o)) l;obtain⟨s,t⟩:=qK2 kds n d';exact⟨a::A',.dct (k.fr a _ e (c a zA7)) (q.trans s.symm) (by rw[t];exact m),λ b=>by rw[zAu,zAu,q2];lia⟩
 | @ins a C0 dx fvs fds A e q r =>
   obtain⟨w,B,C,f,g,i,j⟩:=r.kid (n:=n) h;refine⟨w,B,a::C,⟨a,rfl,.inr (.inr (.inr ⟨C0,dx,fvs,e,f⟩))⟩,g,λ b=>by rw[zAu,zAu,i];lia,λ{F' H' W} d' B' k c l=>?_⟩;obtain⟨A',m,q2⟩:=j d' B' k (λ b o=>c b (zA3 _ o)) l;obtain⟨s,t⟩:=qK2 fds n d';exact⟨a::A',.ins (k.fr a _ e (c a zA7)) (q.trans s.symm) (by rw[t];exact m),λ b=>by rw[zAu,zAu,q2];lia⟩
 | _=>cases (show (none:Option D)=some _ from h)
def D.getP:D->List Nat->Option D
 | d,[]=>some d
 | d,n::p=>match d.kids[n]? with
   | some e=>e.getP p
   | none=>none
def D.setP:D->List Nat->D->D
 | _,[],x=>x
 | d,n::p,x=>match d.kids[n]? with
   | some e=>d.setK n (e.setP p x)
   | none=>d
def Walk(H:Hp):V->List Nat->V->Prop
 | u,[],w=>u=w
 | u,n::p,w=>∃ v,Lnk H u n v/\Walk H v p w
theorem N9.path:∀{p:List Nat}{a:V}{d0 d:D}{A:List γ},N9 F H a d0 A->d0.getP p=some d->∃(w:V)(B C:List γ),Walk H a p w/\N9 F H w d B/\(∀ b,A.count b=B.count b+C.count b) /\
   ∀{F':γ->Prop}{H':Hp}{W:γ->Prop}(d':D)(B':List γ),Kp F H W F' H'->(∀ b∈C,¬ W b)->N9 F' H' w d' B'->∃ A':List γ,N9 F' H' a (d0.setP p d') A'/\∀ b,A'.count b=B'.count b+C.count b:=by
 intro p
 induction p with
 | nil =>
   intro a d0 d A r h;cases h;exact⟨a,A,[],rfl,r,λ b=>by simp,λ{F' H' W} d' B' k f g=>⟨B',g,λ b=>by simp⟩⟩
 | cons n p j =>
   intro a d0 d A r h;unfold D.getP at h;cases c:d0.kids[n]? with
   | none=>rw[c] at h;cases h
   | some e =>
     rw[c] at h;obtain⟨l,B1,C1,m,o,q,s⟩:=r.kid c;obtain⟨w,B,C,t,u,v,x⟩:=j o h;refine⟨w,B,C++C1,⟨l,m,t⟩,u,λ b=>by rw[q,v,zA0];lia,λ{F' H' W} d' B' k f g=>?_⟩;obtain⟨A1,y,q2⟩:=x d' B' k (λ b i=>f b (zAj.mpr (.inl i))) g;obtain⟨A2,z,E⟩:=s (e.setP p d') A1 k (λ b i=>f b (zAj.mpr (.inr i))) y;refine⟨A2,?_,λ b=>by rw[E,q2,zA0];lia⟩;unfold D.setP;rw[c];exact z
def Bc(ds:Ds)(i:Nat)(p:List Nat):Option D:=match ds[i]? with
 | some d=>d.getP p
 | none=>none
def Be(ds:Ds)(i:Nat)(p:List Nat)(x:D):Ds:=match ds[i]? with
 | some d=>ds.set i (d.setP p x)
 | none=>ds
theorem qae4{p:List Nat}{d:D}(h:D.getP .u p=some d):p=[]/\d=.u:=by
 cases p with
 | nil=>cases h;exact⟨rfl,rfl⟩
 | cons n p=>cases (show (none:Option D)=some _ from h)
theorem Locs.place{K:List (Option V)}{ds:Ds}{A:List γ}{p:List Nat}{d:D}(L:Locs F H K ds A)(h:Bc ds i p=some d)(g:d≠.u):∃(u w:V)(B C:List γ),K[i]? = some (some u)/\Walk H u p w/\N9 F H w d B/\(∀ b,A.count b=B.count b+C.count b) /\
   ∀{F':γ->Prop}{H':Hp}{W:γ->Prop}(d':D)(B':List γ),Kp F H W F' H'->(∀ b∈C,¬ W b)->N9 F' H' w d' B'->∃ A':List γ,Locs F' H' K (Be ds i p d') A'/\∀ b,A'.count b=B'.count b+C.count b:=by
 unfold Bc at h;cases c:ds[i]? with
 | none=>rw[c] at h;cases h
 | some J =>
   rw[c] at h;obtain⟨σ1,o,σ2,j,l,A1,B0,A2,f,e2,m,n,q,s,t,v⟩:=L.split c;cases t with
   | no=>exact absurd (qae4 h).2 g
   | @so u _ _ r =>
     obtain⟨w,B,C,x,y,z,E⟩:=r.path h;refine⟨u,w,B,A1++(C++A2),by rw[f];exact qA8 m,x,y,λ b=>by rw[q];simp only[zA0,z];lia,λ{F' H' W} d' B' k e G=>?_⟩;obtain⟨A',I,q2⟩:=E d' B' k (λ b a=>e b (zAj.mpr (.inr (zAj.mpr (.inl a))))) G;refine⟨A1++(A'++A2),?_,λ b=>by simp only[zA0,q2];lia⟩;unfold Be;rw[c,f];dsimp only;rw[e2,qo2 n];exact(s.keep k λ b a=>e b (zAj.mpr (.inl a))).append (.so I (v.keep k λ b a=>e b (zAj.mpr (.inr (zAj.mpr (.inr a))))))
theorem Lnk.fn{u:V}(h:Lnk H u n v)(h':Lnk H u n w):v=w:=by
 obtain⟨a,rfl,h⟩:=h;obtain⟨b,e,h'⟩:=h';cases e;rcases h with⟨vs,e,h⟩ | ⟨vs,e,h⟩ | ⟨vs,e,h⟩ | ⟨C,dx,vs,e,h⟩<;>rcases h' with⟨vs',e',h'⟩ | ⟨vs',e',h'⟩ | ⟨vs',e',h'⟩ | ⟨C',dx',vs',e',h'⟩<;>rw[e] at e'<;>cases e'<;>rw[h] at h'<;>exact Nc h'
theorem Walk.fn:∀{p:List Nat}{u v w:V},Walk H u p v->Walk H u p w->v=w
 | [],_,_,_,h,h'=>h.symm.trans h'
 | n::p,_,_,_,⟨x,h1,h2⟩,⟨y,h3,h4⟩=>by
   cases h1.fn h3;exact Walk.fn h2 h4
theorem Lnk.same{u:V}(h:Lnk H u n v)(s:Same H H'):Lnk H' u n v:=by
 obtain⟨a,rfl,h⟩:=h;refine⟨a,rfl,?_⟩;rcases h with⟨vs,e,h⟩ | ⟨vs,e,h⟩ | ⟨vs,e,h⟩ | ⟨C,dx,vs,e,h⟩
 . exact .inl ⟨vs,s _ _ e,h⟩
 . exact .inr (.inl ⟨vs,s _ _ e,h⟩)
 . exact .inr (.inr (.inl ⟨vs,s _ _ e,h⟩))
 exact .inr (.inr (.inr ⟨C,dx,vs,s _ _ e,h⟩))
theorem Walk.same:∀{p:List Nat}{u v:V},Walk H u p v->Same H H'->Walk H' u p v
 | [],_,_,h,_=>h
 | n::p,_,_,⟨x,h1,h2⟩,s=>⟨x,h1.same s,h2.same s⟩
end
section
variable{c:Vc}{X:Cx}{b:Kl}{nw:Bool}{r:R2}{g:D->D->Option D}{U:VT}
def t2n(g:D->D->Option D)(i:Nat)(U:VT):VT:=λ ds Q xe=>(rdN i ds).isSome=true/\U ds (λ y ds1=>orF ((rdN i ds1).bind λ x=>g x y) λ d=>Q d ds1) xe
theorem qav5(h:VE c X b U):∀ ds (Q Q':DK) (xe e:XKd),(∀ d a,Q d a->Q' d a)->(∀ x a,xe x a->e x a)->t2n g i U ds Q xe->t2n g i U ds Q' e :=
 λ ds Q Q' xe e j k=>Nb (h.m _ _ _ _ _ (λ d f=>qa4 λ z=>j z f) k)
theorem Ob.name{F:γ->Prop}{H:Hp}{R:St}{ds:Ds}{A:List γ}{d:D}(S:Ob c F H R ds A)(hi:i < R.length)(h:rdN i ds=some d):∃ v B,R[i]? = some (some v)/\N9 F H v d B/\∀ b,B.count b<=A.count b :=
 let ⟨e,k⟩:=qm5.mp h
 S.at hi e k
theorem op_ne{R:St}{H:Hp}(o:VE c X b U)(h:Bb true r g)(hi:i < R.length)(q:Bd c (t2n g i U) R H Q):tOp r (E9 i) (Bd c U) R H Q:=by
 obtain⟨F,p,A,s,S,x,t,q⟩:=q;obtain⟨L,e⟩:=zBc.mp t;obtain⟨v,B0,n,_,_⟩:=S.name hi e;refine⟨v,n,F,p,A,s,S,x,o.m _ _ _ _ _ (λ C D q w H1 F1 T A1 E S1 M G=>?_) (λ _ _ z=>z) q⟩;have f:Oa F H A F1 H1 A1:=G.count λ b=>by rw[zA0];lia
 obtain⟨d,j,q⟩:=qa6.mp q;obtain⟨y,I,j⟩:=zA1.mp j;obtain⟨N,B,a,J,_⟩:=S1.name hi I;rw[n] at a;cases a;refine h F1 H1 v w y C _ d Q (Fp J E) j λ u H3 B3 K k l=>?_
 rw[if_pos rfl] at l;exact q u H3 F1 B3 A1 K (S1.same k) (S1.new l k) (f.trans (l.stp k))
def t2nP(g:D->D->Option D)(i:Nat)(U:VT):VT:=λ ds Q xe=>(rdN i ds).isSome=true/\U ds (λ y ds1=>orF ((rdN i ds1).bind λ x=>g x y) λ d=>d.imm=true/\Q d ds1) xe
theorem qai6(h:VE c X b U):∀ ds (Q Q':DK) (xe e:XKd),(∀ d a,Q d a->Q' d a)->(∀ x a,xe x a->e x a)->t2nP g i U ds Q xe->t2nP g i U ds Q' e :=
 λ ds Q Q' xe e j k=>Nb (h.m _ _ _ _ _ (λ d f=>qa4 λ z=>Nb (j z f)) k)
theorem qaT1{R:St}{H:Hp}(o:VE c X b U)(h:Bb nw r g)(hi:i < R.length)(q:Bd c (t2nP g i U) R H Q):tOp r (E9 i) (Bd c U) R H Q:=by
 obtain⟨F,p,A,s,S,x,t,q⟩:=q;obtain⟨L,e⟩:=zBc.mp t;obtain⟨v,B0,l,_,_⟩:=S.name hi e;refine⟨v,l,F,p,A,s,S,x,o.m _ _ _ _ _ (λ C D q w H1 F1 T A1 E S1 M G=>?_) (λ _ _ z=>z) q⟩;have f:Oa F H A F1 H1 A1:=G.count λ b=>by rw[zA0];lia
 obtain⟨d,j,I,q⟩:=qa6.mp q;obtain⟨y,J,j⟩:=zA1.mp j;obtain⟨N,B,a,K,_⟩:=S1.name hi J;rw[l] at a;cases a;refine h F1 H1 v w y C _ d Q (Fp K E) j λ u H3 B3 n k O=>?_
 have:=n.imm I
 subst this;exact q u H3 F1 [] A1 n (S1.same k) (S1.ok.same k) (f.trans (.same k))
end
section
variable{F:γ->Prop}{H:Hp}{K:Nf}
theorem N9.lst_inv{ds:List D}{B:List γ}(r:N9 F H v (.l z ds) B):∃ a vs A,v=.ref a/\H a=some (.l vs)/\N3 F H vs ds A/\∀ b,A.count b<=B.count b:=by
 cases r with
 | l h r=>exact⟨_,_,_,rfl,h,r,λ b=>by rw[zAu];lia⟩
 | lstZ h f r=>exact⟨_,_,_,rfl,h,r,λ b=>zA4 _⟩
theorem N9.tup_inv{ds:List D}{B:List γ}(r:N9 F H v (.q ds) B):∃ a vs,v=.ref a/\H a=some (.q vs)/\N3 F H vs ds B:=by
 cases r with
 | q h r=>exact⟨_,_,rfl,h,r⟩
theorem N9.dct_inv{c:List (Key×D)}{B:List γ}(r:N9 F H v (.dct z c) B):∃ a kvs A,v=.ref a/\H a=some (.dK kvs)/\kvs.map (·.1)=c.map (·.1)/\N3 F H (kvs.map (·.2)) (c.map (·.2)) A/\∀ b,A.count b<=B.count b:=by
 cases r with
 | dct h e r=>exact⟨_,_,_,rfl,h,e,r,λ b=>by rw[zAu];lia⟩
 | dctZ h f e r=>exact⟨_,_,_,rfl,h,e,r,λ b=>zA4 _⟩
theorem N9.ins_inv{C:γ}{c:List (Str×D)}{B:List γ}(r:N9 F H v (.ins z C c) B):∃ a dx d A,v=.ref a/\H a=some (.ins C dx d)/\d.map (·.1)=c.map (·.1)/\N3 F H (d.map (·.2)) (c.map (·.2)) A/\∀ b,A.count b<=B.count b:=by
 cases r with
 | ins h e r=>exact⟨_,_,_,_,rfl,h,e,r,λ b=>by rw[zAu];lia⟩
 | insZ h f e r=>exact⟨_,_,_,_,rfl,h,e,r,λ b=>zA4 _⟩
noncomputable def D.elems:D->Option Ds
 | .l _ ds=>some ds
 | .q ds=>some ds
 | _=>none
theorem N9.elems{d:D}{ds:Ds}{B:List γ}(r:N9 F H v d B)(h:d.elems=some ds):∃ a vs A,v=.ref a/\(SqL K H a vs∨SqT K H a vs)/\N3 F H vs ds A/\∀ b,A.count b<=B.count b:=by
 cases d with
 | l z c=>cases h;obtain⟨a,vs,A,e,h,r,q⟩:=r.lst_inv;exact⟨a,vs,A,e,.inl (.inl (.inl h)),r,q⟩
 | q c=>cases h;obtain⟨a,vs,e,h,r⟩:=r.tup_inv;exact⟨a,vs,_,e,.inr (.inl (.inl h)),r,λ _=>zA4 _⟩
 | _=>cases h
theorem N3.len{ds:List D}{A:List γ}(r:N3 F H vs ds A):vs.length=ds.length:=by
 induction vs generalizing ds A with
 | nil=>cases r;rfl
 | cons v vs a=>cases r with | cons h t=>simp[a t]
theorem qf0{p:γ}(a:H p=none):New H [p]:=⟨λ b=>by rw[zAu];simp;split<;>lia,λ b o e=>by
 have:b≠p:=λ z=>by rw[z,a] at e;cases e
 simp[zAu,Ne.symm this]⟩
theorem qs5{p:γ}{ds:Ds}(a:H p=none)(r:N3 F H vs ds []):N9 F (upd H p (.l vs)) (.ref p) (.l false ds) [p]:=.l qb8 (r.same (Same.new a))
theorem qab0{p:γ}{ds:Ds}{A:List γ}(a:H p=none)(r:N3 F H vs ds A):N9 F (upd H p (.q vs)) (.ref p) (.q ds) A:=.q qb8 (r.same (Same.new a))
theorem N3.get{ds:List D}{A:List γ}{d:D}(r:N3 F H vs ds A)(h:ds[n]? = some d):∃ w B,vs[n]? = some w/\N9 F H w d B/\∀ b,B.count b<=A.count b:=by
 obtain⟨w,B,C,a,c,e,_⟩:=r.kid h;exact⟨w,B,a,c,λ b=>by have:=e b;lia⟩
theorem N3.atI{ds:List D}{A:List γ}{i:Int}{d:D}(r:N3 F H vs ds A)(h:L2.atI ds i=some d):∃ w B,L2.atI vs i=some w/\N9 F H w d B/\∀ b,B.count b<=A.count b:=by
 unfold L2.atI at h ⊢;rw[r.len];cases e:ixN ds.length i with
 | none=>rw[e] at h;cases h
 | some j =>
   rw[e] at h;exact r.get h
theorem N3.sub{ds:List D}{A:List γ}(r:N3 F H vs ds A)(n m:Nat):∃ B,N3 F H ((vs.drop n).take m) ((ds.drop n).take m) B/\∀ b,B.count b<=A.count b:=by
 induction n generalizing vs ds A with
 | zero =>
   induction m generalizing vs ds A with
   | zero=>exact⟨[],.nil,λ b=>by simp⟩
   | succ m a =>
     cases r with
     | nil=>exact⟨[],.nil,λ b=>by simp⟩
     | cons h t =>
       obtain⟨B,c,q2⟩:=a t;exact⟨_,.cons h (by simpa using c),λ b=>by simp only[zA0];have:=q2 b;lia⟩
 | succ n a =>
   cases r with
   | nil=>exact⟨[],by simpa using N3.nil,λ b=>by simp⟩
   | cons h t =>
     obtain⟨B,c,q2⟩:=a t;exact⟨B,by simpa using c,λ b=>by simp only[zA0];have:=q2 b;lia⟩
noncomputable def D.flat:D->Option V
 | .non=>some .non
 | .bl b=>some (.bl b)
 | .int i=>some (.int i)
 | .str x=>some (.str x)
 | _=>none
theorem N9.flat{d:D}{B:List γ}(r:N9 F H v d B)(h:d.flat=some w):v=w/\flatV v=true:=by
 cases r<;>cases h<;>exact⟨rfl,rfl⟩
end
noncomputable def big:Nat:=1000000
theorem qg8:big<=Jt:=by decide
section
variable{F:γ->Prop}{H:Hp}
theorem N3.imms0{ds:Ds}{A:List γ}(r:N3 F H vs ds A)(h:D.imms ds=true):N3 F H vs ds []:=by
 have:=r.imms h
 subst this;exact r
theorem N3.rep{ds:Ds}(r:N3 F H vs ds []):∀ k:Nat,N3 F H (K3 k vs).flatten (K3 k ds).flatten []
 | 0=>.nil
 | k+1=>by
   rw[zBr,zBr,zCg,zCg];exact r.append (B:=[]) (r.rep k)
end
noncomputable def gd(p:Prop)[Decidable p](d:D):Option D:=if p then some d else none
theorem qi7{p:Prop}[Decidable p]{d e:D}(h:gd p d=some e):p/\d=e:=by
 unfold gd at h;split at h
 . rename_i hp;exact⟨hp,Nc h⟩
 cases h
theorem qk2{p:Prop}[Decidable p]{d:D}(h:p):gd p d=some d:=if_pos h
def Gn:D->D->Option D
 | .int i,.int j=>some (.int (i+j))
 | .str a,.str b=>gd (a.length+b.length<=big) (.str (a++b))
 | .l _ xs,.l _ ys=>gd (D.imms xs=true/\D.imms ys=true/\xs.length+ys.length<=big) (.l false (xs++ys))
 | _,_=>none
def rAddA:R2:=λ x y H Q=>rI0 (λ i j=>.int (i+j)) x y H Q∨(∃ i j,x=.str i/\y=.str j/\i.length+j.length<=Jt/\Q (.str (i++j)) H)∨rCat x y H Q
theorem ql8{X:Cx}:OpR X (Kf .Add) rAddA:=qaT7.or (qaa3.or qaT6)
theorem N3.both{F:γ->Prop}{H:Hp}{x y:D}{B:List γ}(r:N3 F H [v,w] [x,y] B):∃ A A2,N9 F H v x A/\N9 F H w y A2:=by
 cases r with | cons a t=>cases t with | cons b _=>exact⟨_,_,a,b⟩
theorem N9.int_inv{F:γ->Prop}{H:Hp}{i:Int}{A:List γ}(r:N9 F H v (.int i) A):v=.int i:=by cases r;rfl
theorem N9.bl_inv{F:γ->Prop}{H:Hp}{b:Bool}{A:List γ}(r:N9 F H v (.bl b) A):v=.bl b:=by cases r;rfl
theorem N9.str_inv{F:γ->Prop}{H:Hp}{b:Str}{A:List γ}(r:N9 F H v (.str b) A):v=.str b:=by cases r;rfl
theorem qaC0{x y d:D}(h:Gn x y=some d):(∃ i j,x=.int i/\y=.int j/\d=.int (i+j))∨(∃ a b,x=.str a/\y=.str b/\a.length+b.length<=big/\d=.str (a++b))∨∃ z z' xs ys,x=.l z xs/\y=.l z' ys/\(D.imms xs=true/\D.imms ys=true/\xs.length+ys.length<=big)/\d=.l false (xs++ys):=by
 unfold Gn at h;split at h
 . exact .inl ⟨_,_,rfl,rfl,(Nc h).symm⟩
 . exact .inr (.inl ⟨_,_,rfl,rfl,(qi7 h).1,(qi7 h).2.symm⟩)
 . exact .inr (.inr ⟨_,_,_,_,rfl,rfl,(qi7 h).1,(qi7 h).2.symm⟩)
 cases h
theorem ql7:Bb true rAddA Gn:=by
 intro F H v w x y B d Q r h q;obtain⟨A,A2,c,e⟩:=r.both;rcases qaC0 h with⟨i,j,rfl,rfl,rfl⟩ | ⟨a,b,rfl,rfl,hl,rfl⟩ | ⟨z,z2,xs,ys,rfl,rfl,hl,rfl⟩
 . exact .inl ⟨i,j,c.int_inv,e.int_inv,q _ H [] (.int _) (λ _ _ z=>z) New.nil⟩
 . exact .inr (.inl ⟨a,b,c.str_inv,e.str_inv,zAm hl qg8,q _ H [] (.str _) (λ _ _ z=>z) New.nil⟩)
 obtain⟨a,k,_,l,m,g,_⟩:=c.lst_inv;obtain⟨b,n,_,e2,o,q2,_⟩:=e.lst_inv;refine .inr (.inr ⟨a,b,k,n,l,e2,m,o,by rw[g.len,q2.len];exact zAm hl.2.2 qg8,λ p f=>?_⟩);exact q _ _ [p] (qs5 f ((g.imms0 hl.1).append (q2.imms0 hl.2.1))) (Same.new f) (qf0 f)
noncomputable def small(i:Int):Bool:=decide (-(2 ^ 64) < i)&&decide (i < 2 ^ 64)
theorem qP0{i:Int}(h:small i=true):-(2 ^ 64) < i/\i < 2 ^ 64:=by
 have:=zAn.mp h
 exact⟨zAc this.1,zAc this.2⟩
def Fx:D->D->Option D
 | .int i,.int j=>gd ((small i||small j)=true) (.int (i * j))
 | .l _ xs,.int k=>gd (D.imms xs=true/\xs.length * k.toNat<=big/\k < 1000000/\-1000000 < k) (.l false (K3 k.toNat xs).flatten)
 | _,_=>none
def rMulA:R2:=λ x y H Q=>rI CMul (λ i j=>.int (i * j)) x y H Q∨rRep x y H Q
theorem qo7{X:Cx}:OpR X (Kf .Mult) rMulA:=qaT2.or qaS9
theorem qaB8{x y d:D}(h:Fx x y=some d):(∃ i j,x=.int i/\y=.int j/\(small i||small j)=true/\d=.int (i * j))∨∃ z xs k,x=.l z xs/\y=.int k/\(D.imms xs=true/\xs.length * k.toNat<=big/\k < 1000000/\-1000000 < k)/\d=.l false (K3 k.toNat xs).flatten:=by
 unfold Fx at h;split at h
 . exact .inl ⟨_,_,rfl,rfl,(qi7 h).1,(qi7 h).2.symm⟩
 . exact .inr ⟨_,_,_,rfl,rfl,(qi7 h).1,(qi7 h).2.symm⟩
 cases h
theorem qo5:Bb true rMulA Fx:=by
 intro F H v w x y B d Q r h q;obtain⟨A,A2,c,e⟩:=r.both;rcases qaB8 h with⟨i,j,rfl,rfl,hl,rfl⟩ | ⟨z,xs,k,rfl,rfl,hl,rfl⟩
 . exact .inl ⟨i,j,c.int_inv,e.int_inv,(Bool.or_eq_true_iff.mp hl).imp qP0 qP0,q _ H [] (.int _) (λ _ _ z=>z) New.nil⟩
 obtain⟨a,g,_,l,m,f,_⟩:=c.lst_inv;refine .inr ⟨a,k,g,l,e.int_inv,m,by lia,by lia,by rw[f.len];exact zAm hl.2.1 qg8,λ p b=>?_⟩;exact q _ _ [p] (qs5 b ((f.imms0 hl.1).rep _)) (Same.new b) (qf0 b)
def gI(p:Int->Int->Bool)(f:Int->Int->D):D->D->Option D
 | .int i,.int j=>gd (p i j=true) (f i j)
 | _,_=>none
theorem qaW0{p:Int->Int->Bool}{f:Int->Int->D}{x y d:D}(h:gI p f x y=some d):∃ i j,x=.int i/\y=.int j/\p i j=true/\d=f i j:=by
 unfold gI at h;split at h
 . exact⟨_,_,rfl,rfl,(qi7 h).1,(qi7 h).2.symm⟩
 cases h
theorem os_I{C:Int->Int->Prop}{p:Int->Int->Bool}{f:Int->Int->D}{fv:Int->Int->V}(a:∀ i j,p i j=true->C i j)(b:∀ F H i j,N9 F H (fv i j) (f i j) []):Bb true (rI C fv) (gI p f):=by
 intro F H v w x y B d Q r h q;obtain⟨A,A2,c,e⟩:=r.both;obtain⟨i,j,rfl,rfl,g,rfl⟩:=qaW0 h;exact⟨i,j,c.int_inv,e.int_inv,a i j g,q _ H [] (b F H i j) (λ _ _ z=>z) New.nil⟩
theorem Fy{f:Int->Int->D}{fv:Int->Int->V}(a:∀ F H i j,N9 F H (fv i j) (f i j) []):Bb true (rI0 fv) (gI (λ _ _=>true) f):=by
 intro F H v w x y B d Q r h q;obtain⟨i,j,b,c,_,e⟩:=os_I (C:=λ _ _=>True) (fv:=fv) (λ _ _ _=>trivial) a F H v w x y B d Q r h q;exact⟨i,j,b,c,e⟩
def gSub:=gI (λ _ _=>true) λ i j=>.int (i - j)
def gDiv:=gI (λ _ j=>decide (0 < j)&&decide (j < 2 ^ 200)) λ i j=>.int (i / j)
def Hl:=gI (λ _ j=>decide (0 < j)) λ i j=>.int (i % j)
def gLt:=gI (λ _ _=>true) λ i j=>.bl (decide (i < j))
def gLe:=gI (λ _ _=>true) λ i j=>.bl (decide (i<=j))
def gGt:=gI (λ _ _=>true) λ i j=>.bl (decide (j < i))
def gGe:=gI (λ _ _=>true) λ i j=>.bl (decide (j<=i))
theorem qr3:Bb true (rI0 λ i j=>.int (i - j)) gSub:=Fy λ _ _ _ _=>.int _
theorem qaz1:Bb true (rI CDivB λ i j=>.int (i / j)) gDiv:=os_I (λ i j h=>by
 have:=zAn.mp h
 exact⟨zAc this.1,zAc this.2⟩) λ _ _ _ _=>.int _
theorem qj4:Bb true (rI (λ _ j=>0 < j) λ i j=>.int (i % j)) Hl:=os_I (λ i j h=>zAc h) λ _ _ _ _=>.int _
theorem Eh:Bb true (rI0 λ i j=>.bl (decide (i < j))) gLt:=Fy λ _ _ _ _=>.bl _
theorem G6:Bb true (rI0 λ i j=>.bl (decide (i<=j))) gLe:=Fy λ _ _ _ _=>.bl _
theorem Bz:Bb true (rI0 λ i j=>.bl (decide (j < i))) gGt:=Fy λ _ _ _ _=>.bl _
theorem Im:Bb true (rI0 λ i j=>.bl (decide (j<=i))) gGe:=Fy λ _ _ _ _=>.bl _
noncomputable def D.isN:D->Option Bool
 | .non=>some true
 | .u=>none
 | .hole _=>none
 | _=>some false
theorem N9.isN{F:γ->Prop}{H:Hp}{d:D}{B:List γ}{b:Bool}(r:N9 F H v d B)(h:d.isN=some b):decide (v=.non)=b:=by
 cases r<;>cases h<;>rfl
def gIs:D->D->Option D
 | x,.non=>x.isN.map .bl
 | .bl a,.bl b=>some (.bl (a == b))
 | _,_=>none
def rIs:R2:=λ x y H Q=>(y=.non/\Q (.bl (decide (x=.non))) H)∨(∃ b c,x=.bl b/\y=.bl c/\Q (.bl (b == c)) H)
theorem qaN7{x y d:D}(h:gIs x y=some d):(y=.non/\∃ b,x.isN=some b/\d=.bl b)∨∃ a b,x=.bl a/\y=.bl b/\d=.bl (a == b):=by
 unfold gIs at h;split at h
 . obtain⟨b,e,h⟩:=zAa.mp h
   exact .inl ⟨rfl,b,e,h.symm⟩
 . exact .inr ⟨_,_,rfl,rfl,(Nc h).symm⟩
 cases h
theorem N9.non_inv{F:γ->Prop}{H:Hp}{A:List γ}(r:N9 F H v .non A):v=.non:=zAc (r.isN rfl)
theorem B6:Bb true rIs gIs:=by
 intro F H v w x y B d Q r h q;obtain⟨A,A2,c,f⟩:=r.both;rcases qaN7 h with⟨rfl,b,e,rfl⟩ | ⟨a,b,rfl,rfl,rfl⟩
 . refine .inl ⟨f.non_inv,?_⟩
   rw[c.isN e];exact q _ H [] (.bl _) (λ _ _ z=>z) New.nil
 exact .inr ⟨a,b,c.bl_inv,f.bl_inv,q _ H [] (.bl _) (λ _ _ z=>z) New.nil⟩
theorem Br{X:Cx}:OpR X (Ju .Is) rIs:=qaT3.or qaT4
theorem qaJ8{X:Cx}:OpR X (Ju .IsNot) (λ x y H Q=>∃ b c,x=.bl b/\y=.bl c/\Q (.bl (b != c)) H):=by
 intro D8 s f H x y v u Q I a d ⟨b,c,e,e2,q⟩;subst e;subst e2;cases a;cases d;exact PyProof.Rows.isnot_bool ⟨.bl (b != c),H,I,rfl,q⟩
def Hm:D->D->Option D
 | x,.non=>x.isN.map λ b=>.bl (!b)
 | .bl a,.bl b=>some (.bl (a != b))
 | _,_=>none
def rIsn:R2:=λ x y H Q=>(y=.non/\Q (.bl (!decide (x=.non))) H)∨(∃ b c,x=.bl b/\y=.bl c/\Q (.bl (b != c)) H)
theorem qaB9{x y d:D}(h:Hm x y=some d):(y=.non/\∃ b,x.isN=some b/\d=.bl !b)∨∃ a b,x=.bl a/\y=.bl b/\d=.bl (a != b):=by
 unfold Hm at h;split at h
 . obtain⟨b,e,h⟩:=zAa.mp h
   exact .inl ⟨rfl,b,e,h.symm⟩
 . exact .inr ⟨_,_,rfl,rfl,(Nc h).symm⟩
 cases h
theorem qo6:Bb true rIsn Hm:=by
 intro F H v w x y B d Q r h q;obtain⟨A,A2,c,f⟩:=r.both;rcases qaB9 h with⟨rfl,b,e,rfl⟩ | ⟨a,b,rfl,rfl,rfl⟩
 . refine .inl ⟨f.non_inv,?_⟩
   rw[c.isN e];exact q _ H [] (.bl _) (λ _ _ z=>z) New.nil
 exact .inr ⟨a,b,c.bl_inv,f.bl_inv,q _ H [] (.bl _) (λ _ _ z=>z) New.nil⟩
theorem qk6{X:Cx}:OpR X (Ju .IsNot) rIsn:=qaJ7.or qaJ8
noncomputable def Hn(f:D->D->Option Bool):List D->List D->Option Bool
 | [],[]=>some true
 | x::xs,y::ys=>(f x y).bind λ a=>(Hn f xs ys).bind λ b=>some (a&&b)
 | _,_=>some false
def eqF(x y:D):Option Bool:=match x.flat,y.flat with
 | some v,some w=>some (eqV v w)
 | _,_=>none
def eqZ(x y:D):Option Bool:=eqF x y
def eqN:Nat->D->D->Option Bool
 | 0,x,y=>eqZ x y
 | n+1,.l _ xs,.l _ ys=>Hn (eqN n) xs ys
 | n+1,.q xs,.q ys=>Hn (eqN n) xs ys
 | _,x,y=>eqZ x y
theorem qE9{f:D->D->Option Bool}:∀{xs ys:List D}{b:Bool},Hn f xs ys=some b->∃ e:Nat->Bool,(∀ i x y,xs[i]? = some x->ys[i]? = some y->f x y=some (e i))/\b=((Kz (min xs.length ys.length)).all e&&xs.length == ys.length)
 | [],[],b,h=>by cases h;exact⟨λ _=>true,λ i x y h=>by simp at h,by simp⟩
 | [],y::ys,b,h=>by cases h;exact⟨λ _=>true,λ i x y h=>by simp at h,by simp⟩
 | x::xs,[],b,h=>by cases h;exact⟨λ _=>true,λ i x y _ h=>by simp at h,by simp⟩
 | x::xs,y::ys,b,h=>by
   obtain⟨a,k,h⟩:=zA1.mp h;obtain⟨o,l,h⟩:=zA1.mp h;cases h;obtain⟨e,m,q2⟩:=qE9 l;refine⟨λ i=>match i with | 0=>a | i+1=>e i,λ i c d g j=>?_,?_⟩
   . cases i with
     | zero =>
       have n:x=c:=by simpa using g
       have e2:y=d:=by simpa using j
       subst n;subst e2;exact k
     | succ i=>exact m i c d (by simpa using g) (by simpa using j)
   rw[q2,zAf,zAf,Nat.add_min_add_right,List.range_succ_eq_map,Ld,Mx];show _=(_&&_&&_)
   have:(xs.length+1 == ys.length+1)=(xs.length == ys.length):=by
     by_cases h:xs.length=ys.length
     . simp[h]
     simp[h]
   rw[this,<- Bool.and_assoc];rfl
section
variable{F:γ->Prop}{H:Hp}
theorem N9.eqF{x y:D}{A B:List γ}{b:Bool}(r1:N9 F H v x A)(c:N9 F H w y B)(h:LV.eqF x y=some b):flatV v=true/\flatV w=true/\eqV v w=b:=by
 unfold LV.eqF at h;cases a:x.flat with
 | none=>rw[a] at h;cases h
 | some d =>
   cases e2:y.flat with
   | none=>rw[a,e2] at h;cases h
   | some e =>
     rw[a,e2] at h;obtain⟨rfl,f1⟩:=r1.flat a;obtain⟨rfl,f2⟩:=c.flat e2;exact⟨f1,f2,Nc h⟩
theorem qR6(n:Nat)(x y:D):(eqN (n+1) x y=LV.eqZ x y)∨(∃ z xs z' ys,x=.l z xs/\y=.l z' ys)∨∃ xs ys,x=.q xs/\y=.q ys:=by
 cases x with
 | l z xs=>cases y with
   | l z' ys=>exact .inr (.inl ⟨_,_,_,_,rfl,rfl⟩)
   | _=>exact .inl rfl
 | q xs=>cases y with
   | q ys=>exact .inr (.inr ⟨_,_,rfl,rfl⟩)
   | _=>exact .inl rfl
 | _=>exact .inl rfl
theorem qaf4(x y:D):eqN 0 x y=LV.eqZ x y:=rfl
theorem qR7(f:∀{v:V}{x y:D}{A B:List γ}{b:Bool},N9 F H v x A->N9 F H v y B->eqN n x y=some b->b=true):∀{vs:List V}{xs ys:List D}{A B:List γ}{b:Bool},N3 F H vs xs A->N3 F H vs ys B->Hn (eqN n) xs ys=some b->b=true:=by
 intro vs
 induction vs with
 | nil=>intro xs ys A B b c d h;cases c;cases d;cases h;rfl
 | cons v vs e =>
   intro xs ys A B b c d h;cases c with | cons p1 t1=>cases d with | cons g t2 =>
   obtain⟨a,i,h⟩:=zA1.mp h;obtain⟨k,j,h⟩:=zA1.mp h;cases h;rw[f p1 g i,e t1 t2 j];rfl
theorem qaf5:∀{n:Nat}{v:V}{x y:D}{A B:List γ}{b:Bool},N9 F H v x A->N9 F H v y B->eqN n x y=some b->b=true:=by
 intro n
 induction n with
 | zero =>
   intro v x y A B b c d h;rw[qaf4] at h;obtain⟨f1,f2,rfl⟩:=c.eqF d h;exact qaf3 f1
 | succ n k =>
   intro v x y A B b c d h;rcases qR6 n x y with e | ⟨z,l,q,m,rfl,rfl⟩ | ⟨l,m,rfl,rfl⟩
   . rw[e] at h
     obtain⟨f1,f2,rfl⟩:=c.eqF d h;exact qaf3 f1
   . obtain⟨a,o,_,rfl,g,i,_⟩:=c.lst_inv
     obtain⟨p,j,_,e,f,q2,_⟩:=d.lst_inv;cases e;rw[g] at f;cases f;exact qR7 k i q2 h
   obtain⟨a,o,rfl,g,i⟩:=c.tup_inv;obtain⟨p,j,e,f,q2⟩:=d.tup_inv;cases e;rw[g] at f;cases f;exact qR7 k i q2 h
theorem N3.getV{ds:List D}{A:List γ}(r:N3 F H vs ds A)(h:vs[n]? = some w):∃ d B,ds[n]? = some d/\N9 F H w d B:=by
 have c:=r.len;have e:n < vs.length:=(zA5.mp h).1;obtain⟨f,B,a,b,_⟩:=r.get (n:=n) (d:=ds[n]'(by lia)) (by simp);rw[h] at a;cases a;exact⟨_,B,by simp,b⟩
theorem qR5{x y:D}{A B:List γ}{b:Bool}(r1:N9 F H v x A)(a:N9 F H w y B)(h:LV.eqZ x y=some b):EqD H n v w b:=by
 obtain⟨f1,f2,rfl⟩:=r1.eqF a h;exact .flat f1 f2
theorem qan9:∀{n:Nat}{v w:V}{x y:D}{A B:List γ}{b:Bool},N9 F H v x A->N9 F H w y B->eqN n x y=some b->EqD H n v w b:=by
 intro n
 induction n with
 | zero =>
   intro v w x y A B b c d h;rw[qaf4] at h;exact qR5 c d h
 | succ n I =>
   intro v w x y A B b c d h;rcases qR6 n x y with e | ⟨z,J,L,K,rfl,rfl⟩ | ⟨J,K,rfl,rfl⟩
   . rw[e] at h
     exact qR5 c d h
   . obtain⟨a,m,_,rfl,k,g,_⟩:=c.lst_inv
     obtain⟨o,r,_,rfl,l,q2,_⟩:=d.lst_inv;by_cases f:a=o
     . subst f
       cases qaf5 (n:=n+1) c d h;exact .same a
     obtain⟨e,s,rfl⟩:=qE9 h;rw[<- g.len,<- q2.len];by_cases j:m.length=r.length
     . rw[j,Nat.min_self,zB9,Bool.and_true,<- j]
       refine .lsts f k l j λ i p q t e2=>?_
       obtain⟨x,_,u,C⟩:=g.getV t;obtain⟨y,_,E,G⟩:=q2.getV e2;exact I C G (s i x y u E)
     have:(m.length == r.length)=false:=by simpa using j
     rw[this,Bool.and_false];exact .lens f k l j
   obtain⟨a,m,rfl,k,g⟩:=c.tup_inv;obtain⟨o,r,rfl,l,q2⟩:=d.tup_inv;by_cases f:a=o
   . subst f
     cases qaf5 (n:=n+1) c d h;exact .same a
   obtain⟨e,s,rfl⟩:=qE9 h;rw[<- g.len,<- q2.len];refine .tups f k l λ i p q t e2=>?_
   obtain⟨x,_,u,C⟩:=g.getV t;obtain⟨y,_,E,G⟩:=q2.getV e2;exact I C G (s i x y u E)
end
def eqT:D->D->Option Bool
 | .l _ xs,.l _ ys=>Hn (eqN 20) xs ys
 | x,y=>eqF x y
theorem N9.rc{F:γ->Prop}{H:Hp}{x y:D}{A B:List γ}{b:Bool}(r1:N9 F H v x A)(d:N9 F H w y B)(h:eqT x y=some b):RcD H v w b:=by
 unfold eqT at h;split at h
 . obtain⟨a,f,_,rfl,g,j,_⟩:=r1.lst_inv
   obtain⟨u,k,_,rfl,l,q2,_⟩:=d.lst_inv;obtain⟨e,m,rfl⟩:=qE9 h;rw[<- j.len,<- q2.len];by_cases c:f.length=k.length
   . rw[c,Nat.min_self,zB9,Bool.and_true,<- c]
     refine .lsts g l c λ i p q n e2=>?_
     obtain⟨x,_,o,r⟩:=j.getV n;obtain⟨y,_,s,t⟩:=q2.getV e2;exact qan9 r t (m i x y o s)
   have:(f.length == k.length)=false:=by simpa using c
   rw[this,Bool.and_false];exact .lens g l c
 obtain⟨f1,f2,rfl⟩:=r1.eqF d h;exact .flat f1 f2
def gEq(x y:D):Option D:=(eqT x y).map .bl
def gNe(x y:D):Option D:=(eqT x y).map λ b=>.bl (!b)
theorem Bh:Bb true rEqD gEq:=by
 intro F H v w x y B d Q r h q;obtain⟨A,A2,a,c⟩:=r.both;obtain⟨b,e,rfl⟩:=zAa.mp h;exact⟨b,a.rc c e,q _ H [] (.bl _) (λ _ _ z=>z) New.nil⟩
theorem Iq:Bb true rNeD gNe:=by
 intro F H v w x y B d Q r h q;obtain⟨A,A2,a,c⟩:=r.both;obtain⟨b,e,rfl⟩:=zAa.mp h;exact⟨b,a.rc c e,q _ H [] (.bl _) (λ _ _ z=>z) New.nil⟩
def flats:List D->Option (List V)
 | []=>some []
 | d::r=>d.flat.bind λ v=>(flats r).bind λ vs=>some (v::vs)
theorem N3.flats{F:γ->Prop}{H:Hp}:∀{vs a:List V}{ds:List D}{A:List γ},N3 F H vs ds A->LV.flats ds=some a->vs=a/\vs.all L2.flatV=true
 | _,_,_,_,.nil,h=>by cases h;exact⟨rfl,rfl⟩
 | _,_,_,_,.cons r t,h=>by
   obtain⟨v,b,h⟩:=zA1.mp h;obtain⟨vs,c,h⟩:=zA1.mp h;cases h;obtain⟨rfl,f⟩:=r.flat b;obtain⟨rfl,g⟩:=t.flats c;exact⟨rfl,by rw[Ld,f,g];rfl⟩
def Ir(neg:Bool)(x y:D):Option D:=x.flat.bind λ v=>y.elems.bind λ ys=>(flats ys).bind λ a=>some (.bl (if neg then !inV v a else inV v a))
theorem F4{K:Nf}{neg:Bool}:Bb true (rIn K neg) (Ir neg):=by
 intro F H v w x y B d Q r h q;obtain⟨A,A2,b,c⟩:=r.both;obtain⟨n,e,h⟩:=zA1.mp h;obtain⟨o,i,h⟩:=zA1.mp h;obtain⟨p,j,h⟩:=zA1.mp h;cases h;obtain⟨rfl,f⟩:=b.flat e;obtain⟨a,k,A3,rfl,l,m,_⟩:=c.elems (K:=K) i;obtain⟨rfl,g⟩:=m.flats j;exact⟨a,k,rfl,l,f,g,q _ H [] (.bl _) (λ _ _ z=>z) New.nil⟩
def gIx(x y:D):Option D:=match y with
 | .int i=>x.elems.bind λ ys=>atI ys i
 | _=>none
theorem qaN6{x y d:D}(h:gIx x y=some d):∃ i ys,y=.int i/\x.elems=some ys/\atI ys i=some d:=by
 cases y with
 | int i =>
   obtain⟨ys,a,h⟩:=zA1.mp h;exact⟨i,ys,rfl,a,h⟩
 | _=>cases h
theorem Ah{K:Nf}:Bb false (rIx K) gIx:=by
 intro F H v w x y B d Q r h q;cases r with | @cons _ _ A _ _ _ l t=>cases t with | @cons _ _ A2 _ _ _ m _ =>
 obtain⟨i,u,rfl,n,h⟩:=qaN6 h;obtain rfl:=m.int_inv;obtain⟨a,j,A3,rfl,c,o,p⟩:=l.elems (K:=K) n;obtain⟨f,B',k,g,s⟩:=o.atI h;have e:=q f H B' g (λ _ _ z=>z) (by
   rw[if_neg (by decide)];exact λ b=>.inl (by rw[zA0];have:=s b;have:=p b;lia))
 rcases c with c | c
 . exact .inl ⟨a,j,i,f,rfl,rfl,c,k,e⟩
 exact .inr (.inl ⟨a,j,i,f,rfl,rfl,c,k,e⟩)
section
variable{F:γ->Prop}{H:Hp}
theorem N3.one_inv{x:D}{B:List γ}(r:N3 F H vs [x] B):∃ v,vs=[v]/\N9 F H v x B:=by
 cases r with | cons h t=>cases t;exact⟨_,rfl,by rw[zAe];exact h⟩
theorem N3.two_inv{x y:D}{B:List γ}(r:N3 F H vs [x,y] B):∃ v w A C,vs=[v,w]/\N9 F H v x A/\N9 F H w y C/\∀ b,B.count b=A.count b+C.count b:=by
 cases r with | cons h t=>cases t with | cons a t=>cases t;exact⟨_,_,_,_,rfl,h,a,λ b=>by simp[zA0]⟩
end
noncomputable def fx1(g:D->Option D):Ds->Option D
 | [x]=>g x
 | _=>none
noncomputable def fx2(g:D->D->Option D):Ds->Option D
 | [x,y]=>g x y
 | _=>none
def CS1(nw:Bool)(r:List V->Hp->VK->Prop)(g:D->Option D):Prop:=∀ F H v x B d (Q:VK),N9 F H v x B->g x=some d ->
 (∀ v H' B',N9 F H' v d B'->Same H H'->(if nw=true then New H B' else Sub H B B')->Q v H')->r [v] H Q
theorem CS1.ops{nw:Bool}{r:List V->Hp->VK->Prop}{g:D->Option D}(h:CS1 nw r g):OpS nw r (fx1 g):=by
 intro F H c a B d Q r e q
 match a,e with
 | [x],e =>
   obtain⟨v,rfl,b⟩:=r.one_inv;exact h F H v x B d Q b e q
def Et(x:D):Option D:=match x with
 | .str z=>gd (z.length<=big) (.int z.length)
 | .dct _ kvs=>some (.int kvs.length)
 | x=>x.elems.map λ ys=>.int ys.length
def rLenA(K:Nf):List V->Hp->VK->Prop:=λ xs H Q=>(∃ p ys,xs=[.ref p]/\(SqL K H p ys∨SqT K H p ys)/\Q (.int ys.length) H)∨(∃ z,xs=[.str z]/\z.length<=Jt/\Q (.int z.length) H)∨(∃ a kvs,xs=[V.ref a]/\H a=some (.dK kvs)/\Q (.int kvs.length) H)
theorem qt9{X:Cx}:CallR X (.builtin "len") (rLenA X.K):=qN7.or (qN6.or qap1)
theorem qaL7{x d:D}(h:Et x=some d):(∃ z,x=.str z/\z.length<=big/\d=.int z.length)∨(∃ z kvs,x=.dct z kvs/\d=.int kvs.length)∨∃ ys,x.elems=some ys/\d=.int ys.length:=by
 unfold Et at h;split at h
 . exact .inl ⟨_,rfl,(qi7 h).1,(qi7 h).2.symm⟩
 . exact .inr (.inl ⟨_,_,rfl,(Nc h).symm⟩)
 obtain⟨ys,e,h⟩:=zAa.mp h;exact .inr (.inr ⟨ys,e,h.symm⟩)
theorem qt8{K:Nf}:CS1 true (rLenA K) Et:=by
 intro F H v x B d Q r h q;rcases qaL7 h with⟨z,rfl,hl,rfl⟩ | ⟨z,kds,rfl,rfl⟩ | ⟨ys,e,rfl⟩
 . exact .inr (.inl ⟨z,by rw[r.str_inv],zAm hl qg8,q _ H [] (.int _) (λ _ _ z=>z) New.nil⟩)
 . obtain⟨a,b,A,rfl,c,e,f,_⟩:=r.dct_inv
   refine .inr (.inr ⟨a,b,rfl,c,?_⟩)
   have:b.length=kds.length:=by have:=congrArg K9 e;simpa using this
   rw[this];exact q _ H [] (.int _) (λ _ _ z=>z) New.nil
 obtain⟨a,g,A,rfl,c,f,_⟩:=r.elems (K:=K) e;refine .inl ⟨a,g,rfl,c,?_⟩;rw[f.len];exact q _ H [] (.int _) (λ _ _ z=>z) New.nil
noncomputable def gAbs:D->Option D
 | .int i=>some (.int (if i < 0 then -i else i))
 | _=>none
noncomputable def gInt:D->Option D
 | .int i=>some (.int i)
 | .bl b=>some (.int (if b then 1 else 0))
 | _=>none
theorem qaO8:CS1 true (λ xs H Q=>(∃ i,xs=[.int i]/\Q (.int i) H)∨∃ k,xs=[.bl k]/\Q (.int (if k then 1 else 0)) H) gInt:=by
 intro F H v x B d Q r h q;cases x with
 | int i=>cases h;cases r;exact .inl ⟨i,rfl,q _ H [] (.int _) (λ _ _ z=>z) New.nil⟩
 | bl i=>cases h;cases r;exact .inr ⟨i,rfl,q _ H [] (.int _) (λ _ _ z=>z) New.nil⟩
 | _=>cases h
def G7(x:D):Option D:=x.elems.bind λ ys=>gd (D.imms ys=true) (.l false ys)
theorem qx7{K:Nf}:CS1 true (λ xs H Q=>∃ p ys,xs=[.ref p]/\(SqL K H p ys∨SqT K H p ys)/\∀ l,H l=none->Q (.ref l) (upd H l (.l ys))) G7:=by
 intro F H v x B d Q r h q;obtain⟨ys,e,h⟩:=zA1.mp h;obtain⟨c,rfl⟩:=qi7 h;obtain⟨a,f,A,rfl,g,i,_⟩:=r.elems (K:=K) e;exact⟨a,f,rfl,g,λ p b=>q _ _ [p] (qs5 b (i.imms0 c)) (Same.new b) (qf0 b)⟩
noncomputable def D.intO:D->Option Int
 | .int k=>some k
 | _=>none
def pairK:D->Option (Key×D)
 | .q [a,x]=>a.intO.bind λ k=>if x.imm=true then some (.inl k,x) else none
 | _=>none
def qU5:List D->Option (List (Key×D))
 | []=>some []
 | d::r=>(pairK d).bind λ p=>(qU5 r).bind λ ps=>some (p::ps)
noncomputable def Eu(kvs:List (Key×D))(k:Key)(v:D):List (Key×D) :=
 if (kvs.any λ a=>decide (a.1=k))=true then kvs.map (λ a=>if a.1=k then (a.1,v) else a) else kvs++[(k,v)]
def qs6(kvs more:List (Key×D)):List (Key×D):=more.foldl (λ acc a=>Eu acc a.1 a.2) kvs
abbrev KP(F:γ->Prop)(H:Hp)(kvs:List (Key×V))(a:List (Key×D)):Prop:=Paired (λ(p:Key×V)(q:Key×D)=>p.1=q.1/\N9 F H p.2 q.2 []) kvs a
section
variable{F:γ->Prop}{H:Hp}
theorem KP.maps{b:List (Key×D)}(h:KP F H kvs b):kvs.map (·.1)=b.map (·.1)/\N3 F H (kvs.map (·.2)) (b.map (·.2)) []:=by
 induction h with
 | nil=>exact⟨rfl,.nil⟩
 | cons a _ c=>exact⟨by rw[zAo,zAo,a.1,c.1],.cons (A:=[]) (B:=[]) a.2 c.2⟩
theorem KP.any{b:List (Key×D)}(h:KP F H kvs b)(k:Key):(kvs.any λ c=>decide (c.1=k))=b.any λ c=>decide (c.1=k):=by
 induction h with
 | nil=>rfl
 | cons a _ d=>rw[zCu,zCu,a.1,d]
theorem KP.append{kvs':List (Key×V)}{b kds':List (Key×D)}(h:KP F H kvs b)(h':KP F H kvs' kds'):KP F H (kvs++kvs') (b++kds'):=by
 induction h with
 | nil=>exact h'
 | cons a _ c=>exact .cons a c
theorem KP.mapk{c:List (Key×D)}(h:KP F H kvs c){k:Key}{d:D}(r:N9 F H v d []):KP F H (kvs.map λ b=>if b.1=k then (b.1,v) else b) (c.map λ b=>if b.1=k then (b.1,d) else b):=by
 induction h with
 | nil=>exact .nil
 | @cons p q _ _ a _ ih =>
   refine .cons ?_ ih;show (if p.1=k then (p.1,v) else p).1=(if q.1=k then (q.1,d) else q).1/\N9 F H (if p.1=k then (p.1,v) else p).2 (if q.1=k then (q.1,d) else q).2 [];rw[<- a.1];split
   . exact⟨rfl,r⟩
   exact a
theorem KP.put{a:List (Key×D)}(h:KP F H kvs a){k:Key}{d:D}(r:N9 F H v d []):KP F H (putK kvs k v) (Eu a k d):=by
 unfold putK Eu;rw[h.any k];split
 . exact h.mapk r
 exact h.append (.cons ⟨rfl,r⟩ .nil)
theorem KP.merge{more:List (Key×V)}{mored:List (Key×D)}(h:KP F H more mored):∀{kvs:List (Key×V)}{b:List (Key×D)},KP F H kvs b->KP F H (qz1 kvs more) (qs6 b mored):=by
 induction h with
 | nil=>exact λ h=>h
 | @cons p q _ _ a _ ih =>
   intro kvs b h
   have:=ih (h.put (k:=p.1) a.2)
   rw[a.1] at this;show KP F H (qz1 (putK kvs p.1 p.2) _) (qs6 (Eu b q.1 q.2) _);rw[a.1];exact this
theorem qaB2{x:D}{i:Int}(h:x.intO=some i):x=.int i:=by
 cases x with
 | int k=>cases h;rfl
 | _=>cases h
theorem qay9{ds:Ds}{A:List γ}{ps:List (Key×D)}(r:N3 F H vs ds A)(h:qU5 ds=some ps):∃ kvs,qau8 H vs kvs/\KP F H kvs ps:=by
 induction ds generalizing vs A ps with
 | nil=>cases r;cases h;exact⟨[],.nil,.nil⟩
 | cons d ds g =>
   cases r with
   | cons j t =>
     obtain⟨p,b,h⟩:=zA1.mp h;obtain⟨ps,l,h⟩:=zA1.mp h;cases h;obtain⟨kvs,m,q2⟩:=g t l;unfold pairK at b;split at b
     . rename_i k x
       obtain⟨i,n,b⟩:=zA1.mp b;obtain rfl:=qaB2 n;split at b
       . rename_i hm
         cases b;obtain⟨a,s,rfl,o,e⟩:=j.tup_inv;obtain⟨u,q,A1,A2,rfl,f,c,_⟩:=e.two_inv;obtain rfl:=f.int_inv
         have:=c.imm hm
         subst this;exact⟨(.inl i,q)::kvs,.cons ⟨a,rfl,o⟩ m,.cons ⟨rfl,c⟩ q2⟩
       cases b
     cases b
theorem qaK3{p:γ}{a:List (Key×D)}(b:H p=none)(r:KP F H kvs a):N9 F (upd H p (.dK kvs)) (.ref p) (.dct false a) [p]:=.dct qb8 r.maps.1 (r.maps.2.same (Same.new b))
end
def G8(x:D):Option D:=match x with
 | .l _ ys=>(qU5 ys).map λ ps=>.dct false (qs6 [] ps)
 | _=>none
theorem qau2:CS1 true qaH0 G8:=by
 intro F H v x B d Q r h q;cases x with
 | l z k =>
   obtain⟨l,e,rfl⟩:=zAa.mp h;obtain⟨a,f,A,rfl,g,i,_⟩:=r.lst_inv;obtain⟨b,j,q2⟩:=qay9 i e;exact⟨a,f,b,rfl,g,j,λ p c=>q _ _ [p] (qaK3 c (q2.merge .nil)) (Same.new c) (qf0 c)⟩
 | _=>cases h
noncomputable def D.kind:D->Option String
 | .non=>some "NoneType" | .bl _=>some "bool" | .int _=>some "int" | .str _=>some "str" | .l _ _=>some "list" | .q _=>some "tuple" | .dct _ _=>some "dict"
 | _=>none
theorem N9.kind{F:γ->Prop}{H:Hp}{d:D}{B:List γ}{t:String}(r:N9 F H v d B)(h:d.kind=some t):Dj H v=some t:=by
 cases r with
 | q e _=>cases h;exact qaA9 e
 | l e _=>cases h;exact qac7 e
 | lstZ e _ _=>cases h;exact qac7 e
 | dct e _ _=>cases h;exact qas6 e
 | dctZ e _ _ _=>cases h;exact qas6 e
 | _=>cases h<;>rfl
noncomputable def isTy(n:String):Bool:=n == "bool" || n == "int" || n == "str" || n == "list" || n == "tuple" || n == "dict"
def gIsi(x y:D):Option D:=match y with
 | .ty n=>if isTy n=true then x.kind.map λ t=>.bl (subT t n) else none
 | _=>none
def CS2(nw:Bool)(r:List V->Hp->VK->Prop)(g:D->D->Option D):Prop:=∀ F H v w x y A B d (Q:VK),N9 F H v x A->N9 F H w y B->g x y=some d ->
 (∀ v H' B',N9 F H' v d B'->Same H H'->(if nw=true then New H B' else Sub H (A++B) B')->Q v H')->r [v,w] H Q
theorem CS2.ops{nw:Bool}{r:List V->Hp->VK->Prop}{g:D->D->Option D}(h:CS2 nw r g):OpS nw r (fx2 g):=by
 intro F H l c B d Q r e q
 match c,e with
 | [x,y],e =>
   obtain⟨v,w,A,C,rfl,f,i,j⟩:=r.two_inv;refine h F H v w x y A C d Q f i e λ u H' B' k s a=>q u H' B' k s ?_
   cases nw with
   | true=>exact a
   | false =>
     rw[if_neg (by decide)] at a ⊢;exact λ b=>(a b).imp (λ z=>by rw[zA0] at z;have:=j b;lia) id
theorem qN2:CS2 true rIsi gIsi:=by
 intro F H v w x y A B d Q b c e q;cases y with
 | ty n =>
   cases c;have e:(if isTy n=true then x.kind.map λ t=>D.bl (subT t n) else none)=some d:=e;by_cases a:isTy n=true
   . rw[if_pos a] at e
     obtain⟨t,f,rfl⟩:=zAa.mp e;refine⟨v,n,t,rfl,b.kind f,?_,q _ H [] (.bl _) (λ _ _ z=>z) New.nil⟩;simp only[isTy,Bool.or_eq_true,zBx] at a;simp only[zAh,zBn,or_false];rcases a with ((((h | h) | h) | h) | h) | h
     . exact .inl h
     . exact .inr (.inl h)
     . exact .inr (.inr (.inl h))
     . exact .inr (.inr (.inr (.inl h)))
     . exact .inr (.inr (.inr (.inr (.inl h))))
     exact .inr (.inr (.inr (.inr (.inr h))))
   rw[if_neg a] at e;cases e
 | _=>cases e
def D.isC(C:γ)(x:D):Option D:=match x with
 | .ins _ C' _=>if C'=C then some (.bl true) else none
 | x=>x.kind.map λ _=>.bl false
def Iu(C:γ)(x y:D):Option D:=match y with
 | .adr a=>if a=C then x.isC C else none
 | _=>none
theorem qaM5{C:γ}{x y d:D}(h:Iu C x y=some d):y=.adr C/\((∃ z fs,x=.ins z C fs/\d=.bl true)∨∃ t,x.kind=some t/\d=.bl false):=by
 cases y with
 | adr a =>
   have h:(if a=C then x.isC C else none)=some d:=h;by_cases b:a=C
   . rw[if_pos b] at h
     subst b;refine⟨rfl,?_⟩;have k:(x.kind.map λ _=>D.bl false)=some d->∃ t,x.kind=some t/\d=.bl false:=λ e=>by
       obtain⟨t,c,e⟩:=zAa.mp e;exact⟨t,c,e.symm⟩
     cases x with
     | ins z C' fs =>
       have h:(if C'=a then some (D.bl true) else none)=some d:=h;by_cases b:C'=a
       . rw[if_pos b] at h
         exact .inl ⟨z,fs,by rw[b],(Nc h).symm⟩
       rw[if_neg b] at h;cases h
     | _=>exact .inr (k h)
   rw[if_neg b] at h;cases h
 | _=>cases h
theorem qaO7{C:γ}:CS2 true (rIsO C) (Iu C):=by
 intro F H v w x y A B d Q b c e q;obtain⟨rfl,h⟩:=qaM5 e;cases c;rcases h with⟨z,fs,rfl,rfl⟩ | ⟨t,ht,rfl⟩
 . obtain⟨p,f,a,_,rfl,h,_,_,_⟩:=b.ins_inv
   exact⟨_,rfl,.inl ⟨p,f,a,rfl,h,q _ H [] (.bl _) (λ _ _ z=>z) New.nil⟩⟩
 exact⟨_,rfl,.inr ⟨t,b.kind ht,q _ H [] (.bl _) (λ _ _ z=>z) New.nil⟩⟩
noncomputable def bools:List D->Option (List Bool)
 | []=>some []
 | .bl b::r=>(bools r).map λ bs=>b::bs
 | _=>none
theorem N3.bools{F:γ->Prop}{H:Hp}:∀{vs:List V}{ds:List D}{A:List γ}{bs:List Bool},N3 F H vs ds A->LV.bools ds=some bs->vs=bs.map V.bl:=by
 intro vs ds
 induction ds generalizing vs with
 | nil=>intro A bs r h;cases r;cases h;rfl
 | cons d ds a =>
   intro A bs r h;cases r with
   | cons c t =>
     cases d with
     | bl b =>
       obtain⟨e,f,rfl⟩:=zAa.mp h;cases c;rw[a t f];rfl
     | _=>cases h
def gAll(x:D):Option D:=match x with
 | .l _ ys=>(bools ys).map λ bs=>.bl (bs.all id)
 | _=>none
theorem qaO9{K:Nf}:CS1 true (λ xs H Q=>∃(a:γ)(bs:List Bool),xs=[.ref a]/\SqL K H a (bs.map V.bl)/\Q (.bl (bs.all id)) H) gAll:=by
 intro F H v x B d Q r h q;cases x with
 | l z f =>
   obtain⟨bs,b,rfl⟩:=zAa.mp h;obtain⟨a,g,A,rfl,c,e,_⟩:=r.lst_inv;cases e.bools b;exact⟨a,bs,rfl,.inl (.inl c),q _ H [] (.bl _) (λ _ _ z=>z) New.nil⟩
 | _=>cases h
noncomputable def intsD:List D->Option (List Int)
 | []=>some []
 | .int i::r=>(intsD r).map λ is=>i::is
 | _=>none
theorem N3.intsD{F:γ->Prop}{H:Hp}:∀{vs:List V}{ds:List D}{A:List γ}{bs:List Int},N3 F H vs ds A->LV.intsD ds=some bs->vs=bs.map V.int:=by
 intro vs ds
 induction ds generalizing vs with
 | nil=>intro A bs r h;cases r;cases h;rfl
 | cons d ds a =>
   intro A bs r h;cases r with
   | cons c t =>
     cases d with
     | int b =>
       obtain⟨e,f,rfl⟩:=zAa.mp h;cases c;rw[a t f];rfl
     | _=>cases h
def Eo(xs:List D)(lo hi:Option Int):List D:=(xs.drop (HT.sIx xs.length 0 lo)).take (HT.sIx xs.length xs.length hi - HT.sIx xs.length 0 lo)
def gSl(x:D)(lo hi:Option Int):Option D:=match x with
 | .l _ ys=>gd (D.imms (Eo ys lo hi)=true) (.l false (Eo ys lo hi))
 | .scr ns=>some (.l false ((ns.drop (HT.sIx ns.length 0 lo)).take (HT.sIx ns.length ns.length hi - HT.sIx ns.length 0 lo) |>.map .int))
 | .q ys=>gd (D.imms (Eo ys lo hi)=true/\(Eo ys lo hi).length < ys.length) (.q (Eo ys lo hi))
 | _=>none
theorem qC8{F:γ->Prop}{H:Hp}:∀ ns:List Int,N3 F H (ns.map V.int) (ns.map D.int) []
 | []=>.nil
 | n::r=>.cons (A:=[]) (B:=[]) (.int n) (qC8 r)
theorem os_sl{K:Nf}{F:γ->Prop}{H:Hp}{x d:D}{lo hi:Option Int}{B:List γ}(r:N9 F H v x B)(h:gSl x lo hi=some d)(f:∀ ys,x≠.q ys)(q:∀ v H' B',N9 F H' v d B'->Same H H'->New H B'->Q v H'):rSlL K v lo hi H Q:=by
 cases x with
 | l z ys =>
   obtain⟨g,rfl⟩:=qi7 h;obtain⟨a,i,A,rfl,j,c,_⟩:=r.lst_inv;refine⟨a,i,rfl,.inl (.inl j),λ p b=>q _ _ [p] (qs5 b ?_) (Same.new b) (qf0 b)⟩;obtain⟨B',k,l⟩:=c.sub (HT.sIx ys.length 0 lo) (HT.sIx ys.length ys.length hi - HT.sIx ys.length 0 lo);unfold Fv;rw[c.len];exact k.imms0 g
 | scr m =>
   cases h;cases r with
   | scr e =>
     refine⟨_,_,rfl,.inl (.inr ⟨_,e⟩),λ p b=>q _ _ [p] (qs5 b ?_) (Same.new b) (qf0 b)⟩;unfold Fv;rw[<- List.map_drop,<- Ma,zA8];exact qC8 _
 | q ys=>exact absurd rfl (f ys)
 | _=>cases h
def D.fld(C:γ)(f:Str):D->Option D
 | .ins _ C' fs=>if C'=C then fs.lookup f else none
 | _=>none
theorem qac1{F:γ->Prop}{H:Hp}:∀{c:List (Str×V)}{a:List (Str×D)}{A:List γ}{f:Str}{d:D},c.map (·.1)=a.map (·.1)->N3 F H (c.map (·.2)) (a.map (·.2)) A->a.lookup f=some d->∃ v B,c.lookup f=some v/\N9 F H v d B/\∀ b,B.count b<=A.count b:=by
 intro c
 induction c with
 | nil=>intro a A f d e r h;cases a with
   | nil=>cases h
   | cons _ _=>simp at e
 | cons p c i =>
   intro a A f d e r h;cases a with
   | nil=>simp at e
   | cons q a =>
     obtain⟨k,v⟩:=p;obtain⟨j,s⟩:=q;have l:k=j:=by simp at e;exact e.1
     have e2:c.map (·.1)=a.map (·.1):=by simp at e;simpa using e.2
     subst l;cases r with
     | @cons _ _ A1 _ _ A2 r1 t =>
       rw[zB1] at h ⊢;cases g:f == k with
       | true=>rw[g] at h;cases h;exact⟨v,A1,rfl,r1,λ b=>by rw[zA0];lia⟩
       | false =>
         rw[g] at h;obtain⟨w,B,m,n,o⟩:=i e2 t h;exact⟨w,B,m,n,λ b=>by rw[zA0];have:=o b;lia⟩
theorem qaS8{K:Nf}{C:γ}{f:Str}(c:Cls K C)(n:qf4 K C f):OpS1 false (λ x H Q=>∃ a C dx fs v,x=.ref a/\H a=some (.ins C dx fs)/\Cls K C/\qf4 K C f/\fs.lookup f=some v/\Q v H) (D.fld C f):=by
 intro F H v x B d Q r h q;cases x with
 | ins z C' fs =>
   have i:(if C'=C then fs.lookup f else none)=some d:=h;by_cases j:C'=C
   . rw[if_pos j] at i
     subst j;obtain⟨a,dx,k,A,rfl,l,e,m,g⟩:=r.ins_inv;obtain⟨w,B',o,p,s⟩:=qac1 e m i;refine⟨a,C',dx,k,w,rfl,l,c,n,o,q w H B' p (λ _ _ z=>z) ?_⟩;rw[if_neg (by decide)];exact λ b=>.inl (by have:=s b;have:=g b;lia)
   rw[if_neg j] at i;cases i
 | _=>cases h
noncomputable def D.key:D->Option Key
 | .int i=>some (.inl i)
 | .str x=>some (.inr x)
 | _=>none
noncomputable def Dq(a:List (Key×D))(k:Key):Option D:=(a.find? λ b=>decide (b.1=k)).map (·.2)
theorem N9.key{F:γ->Prop}{H:Hp}{x:D}{B:List γ}{k:Key}(r:N9 F H v x B)(h:x.key=some k):v=kV k:=by
 cases r<;>cases h<;>rfl
theorem qaE7{F:γ->Prop}{H:Hp}:∀{kvs:List (Key×V)}{a:List (Key×D)}{A:List γ}(k:Key),kvs.map (·.1)=a.map (·.1)->N3 F H (kvs.map (·.2)) (a.map (·.2)) A ->
   (Dq a k=none/\Em kvs k=none)∨∃ v d B,Dq a k=some d/\Em kvs k=some v/\N9 F H v d B/\∀ b,B.count b<=A.count b:=by
 intro kvs
 induction kvs with
 | nil=>intro a A k e r;cases a with
   | nil=>exact .inl ⟨rfl,rfl⟩
   | cons _ _=>simp at e
 | cons p kvs g =>
   intro a A k e r;cases a with
   | nil=>simp at e
   | cons q a =>
     obtain⟨c,v⟩:=p;obtain⟨i,d⟩:=q;have j:c=i:=by simp at e;exact e.1
     have e2:kvs.map (·.1)=a.map (·.1):=by simp at e;simpa using e.2
     subst j;cases r with
     | @cons _ _ A1 _ _ A2 r1 t =>
       by_cases f:c=k
       . exact .inr ⟨v,d,A1,by simp[Dq,f],qJ1 f,r1,λ b=>by rw[zA0];lia⟩
       have l:Dq ((c,d)::a) k=Dq a k:=by simp[Dq,zC6,f]
       rw[l,qJ2 (p:=(c,v)) f];rcases g k e2 t with h | ⟨w,m,B,n,o,s,u⟩
       . exact .inl h
       exact .inr ⟨w,m,B,n,o,s,λ b=>by rw[zA0];have:=u b;lia⟩
section
variable{c:Vc}{X:Cx}{a b e:Kl}{O L own nw:Bool}{M G f:FV}{r:R2}{g:D->D->Option D}{y E t:VT}{pos:Pos}
theorem vnm(i:Nat){x:Str}(b:X.N[i]? = some x:=by rfl)(d:Vis X.env.scope x:=by first | exact N0 rfl | exact Nz (N0 rfl) | exact Nz (Nz rfl))(e:N' x:=by decide)(a:(x == ("__classdict__" : Str))=false:=by decide) :
   VV c X (.Name x pos) false (rdN i):=qaE5 (qr2 b d e a) (qr8 b)
noncomputable def kC(d:D):FV:=λ _=>some d
theorem Af{i:Int}:VV c X (.Constant (.int i) j pos) true (kC (.int i)):=Fw qG2 λ _ _=>.int _
theorem vbl{i:Bool}:VV c X (.Constant (.bool i) j pos) true (kC (.bl i)):=Fw pe_bl λ _ _=>.bl _
theorem A7:VV c X (.Constant .none j pos) true (kC .non):=Fw qaS4 λ _ _=>.non
theorem F5{i:Str}:VV c X (.Constant (.str i) j pos) true (kC (.str i)):=Fw qaS0 λ _ _=>.str _
theorem vgi{x:Str}{n:Int}{k:Tok}(hm:X.mg x=some (.int n k))(a:Gl X x:=by rfl)(b:N' x:=by decide):VV c X (.Name x pos) true (kC (.int n)):=Fw (qaI7 hm a b) λ _ _=>.int _
theorem vcls{x:Str}(C:γ)(hm:X.mg x=some (.ref C))(a:Gl X x:=by rfl)(b:N' x:=by decide):VV c X (.Name x pos) true (kC (.adr C)):=Fw (qaS2 C hm a b) λ _ _=>.adr _
theorem vty{x:Str}(n:String)(hm:X.mg x=none)(a:Gl X x:=by rfl)(b:Jx x=some (.type n):=by rfl)(d:x ≠ "__name__" := by decide)(e:N' x:=by decide):VV c X (.Name x pos) true (kC (.ty n)):=Fw (qaS5 n hm a b d e) λ _ _=>.ty _
theorem vpow{i j:Int}(k:Int){m:Nat}{p q:Pos}(a:i ^ j.toNat=k:=by decide)(b:0<=j:=by decide)(h1:j<=1000000:=by decide)(h2:i.natAbs < 2 ^ 64:=by decide):VV c X (.BinOp (.Constant (.int i) m p) .Pow (.Constant (.int j) n q) pos) true (kC (.int k)):=Fw (qaI5 k a b h1 h2) λ _ _=>.int _
def P2(X:Cx)(e a b:Kl)(r:R2):Prop:=∀ y E,PE X a y->PE X b E->PE X e (tOp r y E)
def T2(X:Cx)(e a b:Kl)(r:R2):Prop:=∀ y E,PE X a y->PE X b E->PT X e (tTest (tOp r y E))
theorem Al{op:Operator}(c:OpR X (Kf op) r):P2 X (.BinOp a op b pos) a b r:=λ _ _ d e=>pe_op c d e
theorem A6(c:OpR X (Ju op) r)(hm:behindInMarks op b=false):P2 X (.Compare a [op] [b] pos) a b r:=λ _ _ d e=>qaI9 c d e hm
theorem Am(c:OpR X (Ju op) r)(hm:behindInMarks op b=false):T2 X (.Compare a [op] [b] pos) a b r:=λ _ _ d e=>qaH3 c d e hm
theorem Ap(c:IxR X r)(hs:qah5 b:=by exact λ _ _=>rfl):P2 X (.Subscript a b pos) a b r:=λ _ _ d e=>pe_ix c d e hs
theorem v2(p:P2 X e a b r)(h:Bb nw r g)(d:VV c X a O M)(f:VV c X b L G):VV c X e (nw||(O&&L)) (f2 g M G):=⟨PE.mono (p _ _ d.h f.h) (op_vv h)⟩
theorem e2(p:P2 X e a b r)(h:Bb true r g)(d:VE c X a y)(f:VE c X b E):VE c X e (t2 g y E):=⟨PE.mono (p _ _ d.h f.h) (op_ee d f h),qaF6 d f⟩
theorem e2v(p:P2 X e a b r)(h:Bb true r g)(d:VE c X a y)(f:VV c X b L G):VE c X e (t2v g y G):=⟨PE.mono (p _ _ d.h f.h) (op_ev d h),qav4 d⟩
theorem e2vP(p:P2 X e a b r)(h:Bb false r g)(d:VE c X a y)(f:VV c X b L G):VE c X e (Il g y G):=⟨PE.mono (p _ _ d.h f.h) (qaT5 d h),qai5 d⟩
theorem e2n(i:Nat){x:Str}{p0:Pos}(p:P2 X e (.Name x p0) b r)(h:Bb true r g)(a:VE c X b E)(f:X.N[i]? = some x:=by rfl)(j:Vis X.env.scope x:=by first | exact N0 rfl | exact Nz (N0 rfl) | exact Nz (Nz rfl))(k:N' x:=by decide)(d:(x == ("__classdict__" : Str))=false:=by decide) :
   VE c X e (t2n g i E):=⟨λ D8 s o H Q I q=>p _ _ (qr2 f j k d) a.h D8 s o H Q I (op_ne a h (qr8 f D8 o H s I) q),qav5 a⟩
theorem e2nP(i:Nat){x:Str}{p0:Pos}(p:P2 X e (.Name x p0) b r)(h:Bb nw r g)(a:VE c X b E)(f:X.N[i]? = some x:=by rfl)(j:Vis X.env.scope x:=by first | exact N0 rfl | exact Nz (N0 rfl) | exact Nz (Nz rfl))(k:N' x:=by decide)(d:(x == ("__classdict__" : Str))=false:=by decide) :
   VE c X e (t2nP g i E):=⟨λ D8 s o H Q I q=>p _ _ (qr2 f j k d) a.h D8 s o H Q I (qaT1 a h (qr8 f D8 o H s I) q),qai6 a⟩
noncomputable def D.asB:D->Option Bool
 | .bl b=>some b
 | _=>none
theorem N9.asB{F:γ->Prop}{H:Hp}{d:D}{B:List γ}{k:Bool}(r:N9 F H v d B)(h:d.asB=some k):v=.bl k:=by
 cases r<;>cases h<;>rfl
def ttV(f:FV):VTT:=λ ds Q _=>orF ((f ds).bind D.asB) λ b=>Q b ds
def ttE(t:VT):VTT:=λ ds Q xe=>t ds (λ d a=>orF d.asB λ b=>Q b a) xe
theorem qaF0:∀ o H Q,Dx c (ttV f) o H Q->liftV c own f o H (λ x H'=>∃ k,x=.bl k/\Q k H'):=by
 rintro o H Q ⟨F,a,A,h,S,x,q⟩;obtain⟨b,e,q⟩:=qa6.mp q;obtain⟨d,g,e2⟩:=zA1.mp e;exact⟨F,a,A,d,S,g,λ v H' B r s _=>⟨b,r.asB e2,q H' F A (S.same s) (.same s)⟩⟩
theorem qaF1(h:VE c X e t):∀ o H Q,Dx c (ttE t) o H Q->Bd c t o H (λ x H'=>∃ k,x=.bl k/\Q k H'):=by
 rintro o H Q ⟨F,a,A,f,S,x,q⟩;refine⟨F,a,A,f,S,x,h.m _ _ _ _ _ (λ d g q v H1 F1 T A1 i S1 l j=>?_) (λ _ _ z=>z) q⟩;obtain⟨b,e,q⟩:=qa6.mp q;exact⟨b,i.asB e,q H1 F1 A1 S1 (j.count λ b=>by rw[zA0];lia)⟩
theorem qW8:∀ ds (Q Q':Bool->Ds->Prop) (xe b:XKd),(∀ d a,Q d a->Q' d a)->(∀ x a,xe x a->b x a)->ttV f ds Q xe->ttV f ds Q' b:=λ ds Q Q' xe b c _=>qa4 λ d=>c d ds
theorem qW9(h:VE c X e t):∀ ds (Q Q':Bool->Ds->Prop) (xe b:XKd),(∀ d a,Q d a->Q' d a)->(∀ x a,xe x a->b x a)->ttE t ds Q xe->ttE t ds Q' b:=λ ds Q Q' xe b f g=>h.m _ _ _ _ _ (λ d a=>qa4 λ z=>f z a) g
theorem tv(h:VV c X e own f)(a:∀ whole,isTrue e X.env whole=(do let v <- whole;standAt e.pos;holding [v] (truthy v)):=by intro _;rfl):VTe c X e (ttV f):=⟨PT.mono (qaH2 h.h a) qaF0,qW8⟩
theorem te(h:VE c X e t)(a:∀ whole,isTrue e X.env whole=(do let v <- whole;standAt e.pos;holding [v] (truthy v)):=by intro _;rfl):VTe c X e (ttE t):=⟨PT.mono (qaH2 h.h a) (qaF1 h),qW9 h⟩
theorem q2(p:T2 X e a b r)(h:Bb nw r g)(d:VV c X a O M)(f:VV c X b L G):VTe c X e (ttV (f2 g M G)):=⟨PT.mono (p _ _ d.h f.h) λ o H Q q=>op_vv h o H _ (qaF0 o H Q q),qW8⟩
theorem q2v(p:P2 X e a b r)(i:T2 X e a b r)(h:Bb true r g)(d:VE c X a y)(f:VV c X b L G):VTe c X e (ttE (t2v g y G)):=⟨PT.mono (i _ _ d.h f.h) λ o H Q q=>op_ev d h o H _ (qaF1 (e2v p h d f) o H Q q),qW9 (e2v p h d f)⟩
variable{w J:VTT}{rest:List Kl}
def F6(t:VTT):VTT:=λ ds Q xe=>t ds (λ b a=>Q (!b) a) xe
theorem B9(h:VTe c X a w):VTe c X (.UnaryOp .Not a pos) (F6 w):=by
 refine⟨PT.mono (qaR3 h.h) λ o H Q ⟨F,e,A,f,S,x,q⟩=>⟨F,e,A,f,S,x,q⟩,λ e Q Q' f g i j=>h.m _ _ _ _ _ (λ b d=>i _ d) j⟩
structure VTw(c:Vc)(X:Cx)(e:Kl)(t:VTT):Prop where
 h:PW X e (Dx c t)
 m:∀ ds (Q Q':Bool->Ds->Prop) (xe xe':XKd),(∀ d ds',Q d ds'->Q' d ds')->(∀ x ds',xe x ds'->xe' x ds')->t ds Q xe->t ds Q' xe'
theorem VTw.te(h:VTw c X e w):VTe c X e w:=⟨h.h.pt,h.m⟩
theorem Fe(h:VTe c X a w):VTw c X (.BoolOp .And [a] pos) w:=⟨qaH1 h.h,h.m⟩
theorem Iv(h:VTe c X a w):VTw c X (.BoolOp .Or [a] pos) w:=⟨qaR1 h.h,h.m⟩
def ttAnd(t u:VTT):VTT:=λ ds Q xe=>t ds (λ k ds1=>if k=true then u ds1 Q xe else Q false ds1) xe
def ttOr(t u:VTT):VTT:=λ ds Q xe=>t ds (λ k ds1=>if k=true then Q true ds1 else u ds1 Q xe) xe
theorem qP8{k:Bool->St->Hp->(Bool->Hp->Prop)->Prop}{K:Bool->Ds->(Bool->Ds->Prop)->XKd->Prop}(h:VTe c X a w)(i:∀(b:Bool) F ds A xe o H (Q:Bool->Hp->Prop),Ob c F H o ds A->Xc c xe F H A->K b ds (λ f e=>∀ H' F' A',Ob c F' H' o e A'->Oa F H A F' H' A'->Q f H') xe->k b o H Q)(hm:∀(b:Bool) ds (Q Q':Bool->Ds->Prop) (xe:XKd),(∀ d e,Q d e->Q' d e)->K b ds Q xe->K b ds Q' xe):∀ o H Q,Dx c (λ ds Q xe=>w ds (λ b ds1=>K b ds1 Q xe) xe) o H Q->Dx c w o H (λ b H1=>k b o H1 Q):=by
 rintro o H Q ⟨F,ds,A,xe,S,x,q⟩;refine⟨F,ds,A,xe,S,x,h.m _ _ _ _ _ (λ b ds1 q H1 F1 A1 S1 g=>?_) (λ _ _ z=>z) q⟩;exact i b F1 ds1 A1 xe o H1 Q S1 (x.step g) (hm b ds1 _ _ xe (λ f e q H' F' A' S' j=>q H' F' A' S' (g.trans j)) q)
theorem Ho(g:VTe c X a w)(i:VTw c X (.BoolOp .And (b::rest) pos) J):VTw c X (.BoolOp .And (a::b::rest) pos) (ttAnd w J):=by
 refine⟨PW.mono (qaR2 g.h i.h) ?_,λ d Q Q' e l f j=>g.m _ _ _ _ _ (λ k n q=>?_) j⟩
 . refine qP8 (k:=λ b o H Q=>if b=true then Dx c J o H Q else Q false H) (K:=λ b d Q e=>if b=true then J d Q e else Q false d) g ?_ ?_
   . intro b F d A e o H Q S x q
     cases b with
     | true=>rw[if_pos rfl] at q ⊢;exact⟨F,d,A,e,S,x,q⟩
     | false=>rw[if_neg (by decide)] at q ⊢;exact q H F A S Oa.refl
   intro b d Q Q' e f;cases b with
   | true=>rw[if_pos rfl,if_pos rfl];exact i.m _ _ _ _ _ f λ _ _ z=>z
   | false=>rw[if_neg (by decide),if_neg (by decide)];exact f _ _
 cases k with
 | true=>rw[if_pos rfl] at q ⊢;exact i.m _ _ _ _ _ f j q
 | false=>rw[if_neg (by decide)] at q ⊢;exact f _ _ q
theorem tor(g:VTe c X a w)(i:VTw c X (.BoolOp .Or (b::rest) pos) J):VTw c X (.BoolOp .Or (a::b::rest) pos) (ttOr w J):=by
 refine⟨PW.mono (pw_or g.h i.h) ?_,λ d Q Q' e l f j=>g.m _ _ _ _ _ (λ k n q=>?_) j⟩
 . refine qP8 (k:=λ b o H Q=>if b=true then Q true H else Dx c J o H Q) (K:=λ b d Q e=>if b=true then Q true d else J d Q e) g ?_ ?_
   . intro b F d A e o H Q S x q
     cases b with
     | false=>rw[if_neg (by decide)] at q ⊢;exact⟨F,d,A,e,S,x,q⟩
     | true=>rw[if_pos rfl] at q ⊢;exact q H F A S Oa.refl
   intro b d Q Q' e f;cases b with
   | false=>rw[if_neg (by decide),if_neg (by decide)];exact i.m _ _ _ _ _ f λ _ _ z=>z
   | true=>rw[if_pos rfl,if_pos rfl];exact f _ _
 cases k with
 | false=>rw[if_neg (by decide)] at q ⊢;exact i.m _ _ _ _ _ f j q
 | true=>rw[if_pos rfl] at q ⊢;exact f _ _ q
end
section
variable{c:Vc}{X:Cx}{a b e:Kl}{oa ob own nw:Bool}{Z fb f:FV}{ta tb t:VT}{Y:Pos}{rest:List Kl}
def tSeqE(ta:VT)(k:D->VT):VT:=λ ds Q xe=>ta ds (λ x ds1=>k x ds1 Q xe) xe
theorem qaA3{k:V->St->Hp->VK->Prop}{K:D->VT}(i:VE c X a ta)(hm:∀ x ds (Q Q':DK) (xe f:XKd),(∀ d e,Q d e->Q' d e)->(∀ x e,xe x e->f x e)->K x ds Q xe->K x ds Q' f)(j:∀ F H W v x T,N9 F H v x T->∀ Q,(∃ ds A xe,Ob c F H W ds A/\Xc c xe F H A/\K x ds (λ d e=>∀ v H' F' T A',N9 F' H' v d T->Ob c F' H' W e A'->Ok F' H' (T++A')->Oa F H A F' H' (T++A')->Q v H') xe)->k v W H Q) :
   ∀ W H Q,Bd c (tSeqE ta K) W H Q->Bd c ta W H (λ x H1=>k x W H1 Q):=by
 rintro W H Q ⟨F,ds,A,xe,S,x,q⟩;refine⟨F,ds,A,xe,S,x,i.m _ _ _ _ _ (λ d g q v H1 F1 T A1 l S1 p n=>?_) (λ _ _ z=>z) q⟩;have h:Oa F H A F1 H1 A1:=n.count λ b=>by rw[zA0];lia
 exact j F1 H1 W v d T l Q ⟨g,A1,xe,S1,x.step h,hm d g _ _ _ _ (λ t e q w H' F' T' A' r S' o s=>q w H' F' T' A' r S' o (h.trans s)) (λ _ _ z=>z) q⟩
def Iw(ta tb:VT):VT:=tSeqE ta λ x ds Q xe=>orF x.asB λ k=>if k=true then tb ds Q xe else Q (.bl false) ds
theorem qH0{k:Bool}{p q a b:Prop}(h1:p->a)(h2:q->b):(if k=true then p else q)->(if k=true then a else b):=by
 cases k with
 | true=>rw[if_pos rfl,if_pos rfl];exact h1
 | false=>rw[if_neg (by decide),if_neg (by decide)];exact h2
theorem qah4(g:VE c X e tb):∀(x:D) ds (Q Q':DK) (xe b:XKd),(∀ d a,Q d a->Q' d a)->(∀ x a,xe x a->b x a)->(orF x.asB λ k=>if k=true then tb ds Q xe else Q (.bl false) ds)->(orF x.asB λ k=>if k=true then tb ds Q' b else Q' (.bl false) ds) :=
 λ x ds Q Q' xe b f h=>qa4 λ k=>qH0 (g.m _ _ _ _ _ f h) (f _ _)
theorem eone{op:PySem.BoolOp}(h:VE c X a ta):VE c X (.BoolOp op [a] Y) ta:=⟨qaI6 h.h,h.m⟩
theorem Hq(e:VE c X a ta)(f:VE c X (.BoolOp .And (b::rest) Y) tb):VE c X (.BoolOp .And (a::b::rest) Y) (Iw ta tb):=by
 refine⟨PE.mono (qaJ1 e.h f.h) ?_,λ l Q Q' g i p n=>e.m _ _ _ _ _ (λ d j=>qah4 f d j Q Q' g i p n) n⟩;refine qaA3 (k:=λ v W H Q=>∃ o,v=.bl o/\if o=true then Bd c tb W H Q else Q (.bl false) H) e (qah4 f) ?_;rintro F H W v x T r Q ⟨l,A,g,S,s,q⟩;obtain⟨k,t,q⟩:=qa6.mp q;refine⟨k,r.asB t,?_⟩;cases k with
 | true=>rw[if_pos rfl] at q ⊢;exact⟨F,l,A,g,S,s,q⟩
 | false=>rw[if_neg (by decide)] at q ⊢;exact q _ H F [] A (.bl _) S S.ok Oa.refl
variable{qc:VTT}
def tIfE(qc:VTT)(ta tb:VT):VT:=λ ds Q xe=>qc ds (λ k ds1=>if k=true then ta ds1 Q xe else tb ds1 Q xe) xe
theorem eif(i:VTe c X cd qc)(j:VE c X a ta)(l:VE c X b tb):VE c X (.IfExp cd a b Y) (tIfE qc ta tb):=by
 refine⟨PE.mono (qay5 i.h j.h l.h) ?_,λ t Q Q' f w u n=>i.m _ _ _ _ _ (λ k e=>qH0 (j.m _ _ _ _ _ u n) (l.m _ _ _ _ _ u n)) n⟩;rintro W H Q ⟨F,t,A,f,S,x,q⟩;refine⟨F,t,A,f,S,x,i.m _ _ _ _ _ (λ k e q H1 F1 A1 S1 g=>?_) (λ _ _ z=>z) q⟩;cases k with
 | true=>rw[if_pos rfl] at q ⊢;exact⟨F1,e,A1,f,S1,x.step g,j.m _ _ _ _ _ (λ d p q v H' F' T A' r S' o s=>q v H' F' T A' r S' o (g.trans s)) (λ _ _ z=>z) q⟩
 | false=>rw[if_neg (by decide)] at q ⊢;exact⟨F1,e,A1,f,S1,x.step g,l.m _ _ _ _ _ (λ d p q v H' F' T A' r S' o s=>q v H' F' T A' r S' o (g.trans s)) (λ _ _ z=>z) q⟩
def fAnd(Z fb:FV):FV:=λ ds=>(Z ds).bind λ x=>x.asB.bind λ k=>if k=true then fb ds else some (.bl false)
def fOr(Z fb:FV):FV:=λ ds=>(Z ds).bind λ x=>x.asB.bind λ k=>if k=true then some (.bl true) else fb ds
def fNot(Z:FV):FV:=λ ds=>(Z ds).bind λ x=>x.asB.map λ k=>.bl (!k)
theorem Hr{op:PySem.BoolOp}(h:VV c X a oa Z):VV c X (.BoolOp op [a] Y) oa Z:=⟨qaI6 h.h⟩
theorem vand(m:VV c X a oa Z)(n:VV c X (.BoolOp .And (b::rest) Y) ob fb):VV c X (.BoolOp .And (a::b::rest) Y) ob (fAnd Z fb):=by
 refine⟨PE.mono (qaJ1 m.h n.h) λ W H Q g=>?_⟩;obtain⟨F,i,A,d,S,e,q⟩:=g;obtain⟨x,p,e⟩:=zA1.mp e;obtain⟨k,r,e⟩:=zA1.mp e;refine⟨F,i,A,x,S,p,λ v H1 B1 s f y=>⟨k,s.asB r,?_⟩⟩;cases k with
 | true=>rw[if_pos rfl] at e ⊢;exact⟨F,i,A,d,S.same f,e,λ w H2 B2 t u j=>q w H2 B2 t (f.trans u) λ l=>⟨(j l).one,λ b o e=>(j l).new b o (f b o e)⟩⟩
 | false=>rw[if_neg (by decide)] at e ⊢;cases e;exact q _ H1 [] (.bl _) f λ _=>New.nil
theorem vor(m:VV c X a oa Z)(n:VV c X (.BoolOp .Or (b::rest) Y) ob fb):VV c X (.BoolOp .Or (a::b::rest) Y) ob (fOr Z fb):=by
 refine⟨PE.mono (pe_or m.h n.h) λ W H Q g=>?_⟩;obtain⟨F,i,A,d,S,e,q⟩:=g;obtain⟨x,p,e⟩:=zA1.mp e;obtain⟨k,r,e⟩:=zA1.mp e;refine⟨F,i,A,x,S,p,λ v H1 B1 s f y=>⟨k,s.asB r,?_⟩⟩;cases k with
 | false=>rw[if_neg (by decide)] at e ⊢;exact⟨F,i,A,d,S.same f,e,λ w H2 B2 t u j=>q w H2 B2 t (f.trans u) λ l=>⟨(j l).one,λ b o e=>(j l).new b o (f b o e)⟩⟩
 | true=>rw[if_pos rfl] at e ⊢;cases e;exact q _ H1 [] (.bl _) f λ _=>New.nil
theorem vnot(f:VV c X a oa Z):VV c X (.UnaryOp .Not a Y) true (fNot Z):=by
 refine⟨PE.mono (qaS3 f.h) λ W H Q b=>?_⟩;obtain⟨F,g,A,d,S,e,q⟩:=b;obtain⟨x,i,e⟩:=zA1.mp e;obtain⟨k,j,rfl⟩:=zAa.mp e;exact⟨F,g,A,x,S,i,λ v H1 B1 l m n=>⟨k,l.asB j,q _ H1 [] (.bl _) m λ _=>New.nil⟩⟩
noncomputable def gNeg:D->Option D
 | .int i=>some (.int (-i))
 | _=>none
theorem qaS6:OpS1 true (rU λ i=>.int (-i)) gNeg:=by
 intro F H v x B d Q r h q;cases x with
 | int i=>cases h;cases r;exact⟨i,rfl,q _ H [] (.int _) (λ _ _ z=>z) New.nil⟩
 | _=>cases h
theorem vneg(b:VV c X a oa Z):VV c X (.UnaryOp .USub a Y) true (f1 gNeg Z):=⟨PE.mono (pe_un qaE9 b.h) (op_v (nw:=true) qaS6)⟩
theorem Bi{f:Str}{C:γ}{K:Nf}(b:X.K=K)(d:VV c X a oa Z)(e:Cls K C)(n:qf4 K C f)(g:Jz a f X.env (eval a X.env)=eval a X.env:=by rfl):VV c X (.Attribute a f Y) oa (f1 (D.fld C f) Z):=by
 subst b;exact⟨PE.mono (qaI8 d.h g) (op_v (nw:=false) (qaS8 e n))⟩
variable{rc:List V->Hp->VK->Prop}{gc:Ds->Option D}{x:Str}{p:Pos}{es:List Kl}{fs:Ds->Option Ds}{tos:VTA}
def A4(gc:Ds->Option D)(fs:Ds->Option Ds):FV:=λ ds=>(fs ds).bind gc
theorem vbi{id:String}(d:CallR X (.builtin id) rc)(h:OpS nw rc gc)(hm:X.mg x=none)(f:VVs c X (e::es) own fs)(g:Gl X x:=by rfl)(i:Jx x=some (.builtin id):=by rfl)(j:x ≠ "__name__" := by decide)(a:N' x:=by decide)(k:Js (e::es) X.env=(false,eval e X.env)::Js es X.env:=by rfl)(b:((backTo Y (Js es X.env)).any λ x=>x.1)=false:=by rfl) :
   VV c X (.Call (.Name x p) (e::es) [] Y) (nw||own) (A4 gc fs):=⟨PE.mono (cbi d hm f.h g i j a k b) (qaJ6 h)⟩
theorem Ev{id:String}(d:CallR X (.type id) rc)(h:OpS nw rc gc)(hm:X.mg x=none)(f:VVs c X (e::es) own fs)(g:Gl X x:=by rfl)(i:Jx x=some (.type id):=by rfl)(j:x ≠ "__name__" := by decide)(a:N' x:=by decide)(k:Js (e::es) X.env=(false,eval e X.env)::Js es X.env:=by rfl)(b:((backTo Y (Js es X.env)).any λ x=>x.1)=false:=by rfl) :
   VV c X (.Call (.Name x p) (e::es) [] Y) (nw||own) (A4 gc fs):=⟨PE.mono (cty d hm f.h g i j a k b) (qaJ6 h)⟩
theorem ebi{id:String}(f:CallR X (.builtin id) rc)(h:OpS true rc gc)(hm:X.mg x=none)(a:VOs c X (e::es) tos)(g:Gl X x:=by rfl)(i:Jx x=some (.builtin id):=by rfl)(j:x ≠ "__name__" := by decide)(b:N' x:=by decide)(k:Js (e::es) X.env=(false,eval e X.env)::Js es X.env:=by rfl)(d:((backTo Y (Js es X.env)).any λ x=>x.1)=false:=by rfl) :
   VE c X (.Call (.Name x p) (e::es) [] Y) (tcO gc tos):=⟨PE.mono (cbi f hm a.h g i j b k d) (opc_o a h),qav1 a⟩
def gLst(xs:Ds):Option D:=gd (D.imms xs=true/\xs.length<=big) (.l false xs)
def gTup(xs:Ds):Option D:=gd (D.imms xs=true/\xs.length<=big) (.q xs)
theorem Dk(k:VVs c X es own fs):VV c X (.List es Y) true (A4 gLst fs):=by
 refine⟨PE.mono (qay4 k.h) λ W H Q f=>?_⟩;obtain⟨F,l,A,d,S,e,q⟩:=f;obtain⟨m,n,e2⟩:=zA1.mp e;obtain⟨g,rfl⟩:=qi7 e2;refine⟨F,l,A,m,S,n,λ r H1 B1 i j s=>⟨by rw[i.len];exact zAm g.2 qg8,λ p a=>?_⟩⟩;exact q _ _ [p] (qs5 a (i.imms0 g.1)) (j.trans (Same.new a)) λ _=>⟨(qf0 a).one,λ b o e=>(qf0 a).new b o (j b o e)⟩
theorem F7{k:Nat}(i:VVs c X es own fs):VV c X (.Tuple es k Y) true (A4 gTup fs):=by
 refine⟨PE.mono (qaI4 i.h) λ W H Q a=>?_⟩;obtain⟨F,j,A,d,S,e,q⟩:=a;obtain⟨l,m,e2⟩:=zA1.mp e;obtain⟨b,rfl⟩:=qi7 e2;refine⟨F,j,A,l,S,m,λ o H1 B1 f n r=>⟨by rw[f.len];exact zAm b.2 qg8,λ p g=>?_⟩⟩;exact q _ _ [] (qab0 g (f.imms0 b.1)) (n.trans (Same.new g)) λ _=>New.nil
def FO:=Ds->Option (Option Int)
inductive qaQ2(c:Vc)(f:FO)(W:St)(H:Hp)(Q:Option Int->Hp->Prop):Prop
 | mk (F:γ->Prop) (ds:Ds) (A:List γ) (i:Option Int) (S:Ob c F H W ds A) (e:f ds=some i) (q:∀ H',Same H H'->Q i H'):qaQ2 c f W H Q
def qaU4(c:Vc)(f:FO):TO:=qaQ2 c f
structure VPO(c:Vc)(X:Cx)(e:Option Kl)(f:FO):Prop where
 h:PO X e (qaU4 c f)
theorem PO.mono{X:Cx}{e:Option Kl}{t t':TO}(h:PO X e t)(i:∀ W H Q,t' W H Q->t W H Q):PO X e t':=λ D8 s W H Q I q=>h D8 s W H Q I (i W H Q q)
noncomputable def foN:FO:=λ _=>some none
noncomputable def D.asI:D->Option Int
 | .int i=>some i
 | _=>none
theorem N9.asI{F:γ->Prop}{H:Hp}{d:D}{B:List γ}{k:Int}(r:N9 F H v d B)(h:d.asI=some k):v=.int k:=by
 cases r<;>cases h<;>rfl
def foS(f:FV):FO:=λ ds=>(f ds).bind λ d=>d.asI.map some
theorem vpo_n:VPO c X none foN:=⟨PO.mono qar6 λ W H Q ⟨F,a,A,i,S,e,q⟩=>by cases e;exact q H λ _ _ z=>z⟩
theorem vpo_s(h:VV c X e own f):VPO c X (some e) (foS f):=by
 refine⟨PO.mono (qar5 h.h) λ W H Q a=>?_⟩;obtain⟨F,b,A,i,S,e,q⟩:=a;obtain⟨d,g,e2⟩:=zA1.mp e;obtain⟨j,k,rfl⟩:=zAa.mp e2;exact⟨F,b,A,d,S,g,λ v H' B r s _=>⟨j,r.asI k,q H' s⟩⟩
noncomputable def noT:D->Bool
 | .q _=>false
 | _=>true
def fsl(Z:FV)(lo hi:FO):FV:=λ ds=>(Z ds).bind λ x=>(lo ds).bind λ l=>(hi ds).bind λ h=>if noT x=true then gSl x l h else none
theorem vsl{lo hi:Option Kl}{n p:FO}(t:VV c X a oa Z)(u:VPO c X lo n)(y:VPO c X hi p):VV c X (.Subscript a (.Slice lo hi none p2) Y) true (fsl Z n p):=by
 refine⟨PE.mono (qZ9 qaq2 t.h u.h y.h) λ W H Q g=>?_⟩;obtain⟨F,i,A,d,S,e,q⟩:=g;obtain⟨x,B,e⟩:=zA1.mp e;obtain⟨l,e2,e⟩:=zA1.mp e;obtain⟨h,C,e⟩:=zA1.mp e;by_cases j:noT x=true
 . rw[if_pos j] at e
   refine⟨F,i,A,x,S,B,λ v H1 B1 D k _=>⟨F,i,A,l,S.same k,e2,λ H2 m=>⟨F,i,A,h,(S.same k).same m,C,λ H3 r=>?_⟩⟩⟩;have f:=(k.trans m).trans r;refine os_sl ((D.same m).same r) e (λ I z=>by subst z;cases j) λ w H' B' E G s=>q w H' B' E (f.trans G) λ _=>⟨s.one,λ b o e=>s.new b o (f b o e)⟩
 rw[if_neg j] at e;cases e
def gRev(x:D):Option D:=match x with
 | .l _ ys=>gd (D.imms ys=true) (.l false ys.reverse)
 | _=>none
theorem N3.rev{F:γ->Prop}{H:Hp}{ds:Ds}(r:N3 F H vs ds []):N3 F H vs.reverse ds.reverse []:=by
 induction vs generalizing ds with
 | nil=>cases r;exact .nil
 | cons v vs b =>
   generalize a:([]:List γ)=B at r;cases r with
   | @cons _ _ A1 _ _ A2 r1 t =>
     have c:A1=[]:=(List.append_eq_nil_iff.mp a.symm).1;have d:A2=[]:=(List.append_eq_nil_iff.mp a.symm).2;subst c;subst d;rw[Lc,Lc];exact(b t).append (B:=[]) (.cons (A:=[]) (B:=[]) r1 .nil)
def fget(Z a b:FV):FV:=λ ds=>(Z ds).bind λ x=>(a ds).bind λ y=>(b ds).bind λ z=>match x with
 | .dct _ kvs=>y.key.bind λ k=>gd (((Dq kvs k).getD z).imm=true) ((Dq kvs k).getD z)
 | _=>none
theorem vget{k z:Kl}{ok D:Bool}{s t:FV}{apos cpos:Pos}(E:X.A.units+1 < cLine)(G:VV c X a oa Z)(I:VV c X k ok s)(J:VV c X z D t)(m:M2 X a "get" apos k z cpos):VV c X (.Call (.Attribute a "get" apos) [k,z] [] cpos) true (fget Z s t):=by
 refine⟨PE.mono (qay6 E G.h I.h J.h m) λ W H Q j=>?_⟩;obtain⟨F,l,A,d,S,e,q⟩:=j;obtain⟨x,K,e⟩:=zA1.mp e;obtain⟨y,e2,e⟩:=zA1.mp e;obtain⟨w,L,e⟩:=zA1.mp e;cases x with
 | dct z M =>
   obtain⟨n,N,e⟩:=zA1.mp e;obtain⟨g,rfl⟩:=qi7 e;refine⟨F,l,A,_,S,K,λ v H1 B1 O o _=>?_⟩;obtain⟨a,b,A2,rfl,B,P,R,_⟩:=O.dct_inv;refine⟨a,rfl,.inl ⟨b,.inl B⟩,F,l,A,y,S.same o,e2,λ u H2 B2 T i _=>⟨F,l,A,w,(S.same o).same i,L,λ U H3 B3 C p _=>?_⟩⟩;have r:=p _ _ (i _ _ B);refine⟨Em b n,.inl ⟨b,n,.inl r,(T.key N),rfl⟩,?_⟩;have f:=(o.trans i).trans p;rcases qaE7 n P R with⟨n1,n2⟩ | ⟨vv,dd,BB,n1,n2,n3,n4⟩
   . rw[n1] at g q;rw[n2]
     have:=C.imm g
     subst this;exact q _ H3 [] C f λ _=>New.nil
   rw[n1] at g q;rw[n2]
   have:=n3.imm g
   subst this;exact q _ H3 [] ((n3.same i).same p) f λ _=>New.nil
 | _=>cases e
end
section
variable{c:Vc}{X:Cx}{a b e:Kl}{pos:Pos}{F F':γ->Prop}{H H':Hp}{σ:St}{ds:Ds}{A:List γ}
theorem Ob.put1{d:D}(S:Ob c F H σ ds A)(h:ds[i]? = some d)(e:d≠.u):∃(v:V)(B C:List γ),(σ++c.gv)[i]? = some (some v)/\N9 F H v d B/\(∀ b,A.count b=B.count b+C.count b) /\
   ∀{F':γ->Prop}{H':Hp}{W:γ->Prop}(d':D)(B':List γ),Kp F H W F' H'->(∀ b∈C,¬ W b)->N9 F' H' v d' B'->∃ A':List γ,Locs F' H' (σ++c.gv) (ds.set i d') A'/\∀ b,A'.count b=B'.count b+C.count b:=by
 have f:Bc ds i []=some d:=by unfold Bc;rw[h];rfl
 obtain⟨u,w,B,C,g,j,l,m,n⟩:=S.loc.place f e;cases j;refine⟨u,B,C,g,l,m,λ{F' H' W} d' B' k o r=>?_⟩;obtain⟨A',a,q2⟩:=n d' B' k o r;refine⟨A',?_,q2⟩;unfold Be at a;rw[h] at a;exact a
theorem qw7{d:D}(h:d.known=true):d≠.u:=λ z=>by subst z;cases h
def tMv(i:Nat):VT:=λ ds Q _=>orF (rdN i ds) λ d=>Q d (ds.set i .u)
theorem emv(i:Nat){x:Str}(k:X.N[i]? = some x:=by rfl)(m:Vis X.env.scope x:=by first | exact N0 rfl | exact Nz (N0 rfl) | exact Nz (Nz rfl))(n:N' x:=by decide)(a:(x == ("__classdict__" : Str))=false:=by decide) :
   VE c X (.Name x pos) (tMv i):=by
 refine⟨λ D8 s σ H Q I g=>?_,λ p Q Q' r t u _=>qa4 λ d=>u _ _⟩;obtain⟨F,p,A,r,S,x,q⟩:=g;refine qr2 k m n a D8 s σ H Q I ?_;obtain⟨d,h,q⟩:=qa6.mp q;obtain⟨h,w⟩:=qm5.mp h;obtain⟨v,B,C,l,y,j,D⟩:=S.put1 h (qw7 w);have E:=qr8 k D8 σ H s I;rw[zB2 E] at l;obtain⟨A',G,q2⟩:=D .u [] (Kp.same (λ _ _ z=>z)) (λ _ _ z=>z) (.u v);refine⟨v,l,q v H F B A' y ⟨G,S.ok.count λ b=>by rw[q2,j];simp,S.len,S.ag⟩ (S.ok.count λ b=>by rw[zA0,q2,j];simp) ?_⟩;exact⟨λ _ _ e _=>e,λ b o e z=>by rw[zA0,q2];have:=j b;simp;lia,λ _ f=>f,λ _ _ _ _ f=>f⟩
theorem share{B C:List γ}(o:Ok F H A)(a:∀ b,A.count b=B.count b+C.count b)(d:∀ b∈B,∃ o,H b=some o/\Ea o=true){A':List γ}(c:∀ b,A'.count b=C.count b) :
   Ok (λ b=>F b∨b∈B) H A'/\Oa F H A (λ b=>F b∨b∈B) H A':=by
 refine⟨⟨λ b=>by rw[c];have:=o.sep b;have:=a b;lia,λ b f=>?_,λ b f=>?_⟩,λ _ _ e _=>e,λ b o e z=>by rw[c];have:=a b;lia,λ b f=>.inl f,λ b u e z f=>?_⟩
 . rw[c]
   rcases f with f | f
   . have:=o.fro b f;have:=a b;lia
   have:=qb1.mp f;have:=o.sep b;have:=a b;lia
 . rcases f with f | f
   . exact o.ex b f
   exact let ⟨u,e,_⟩:=d b f;⟨u,e⟩
 rcases f with f | f
 . exact f
 have:=qb1.mp f;have:=a b;lia
abbrev PF:=Ds->Option (Nat×List Nat)
inductive LiftP(c:Vc)(pf:PF)(σ:St)(H:Hp)(Q:VK):Prop
 | mk (F:γ->Prop) (ds:Ds) (A:List γ) (i:Nat) (p:List Nat) (d:D) (S:Ob c F H σ ds A) (e:pf ds=some (i,p)) (g:Bc ds i p=some d) (n:d≠.u) (q:∀ u w H',(σ++c.gv)[i]? = some (some u)->Walk H' u p w->Same H H'->Q w H'):LiftP c pf σ H Q
def G9(c:Vc)(pf:PF):TE:=LiftP c pf
structure VP(c:Vc)(X:Cx)(e:Kl)(pf:PF):Prop where
 h:PE X e (G9 c pf)
theorem vpn(i:Nat){x:Str}(h:X.N[i]? = some x:=by rfl)(l:Vis X.env.scope x:=by first | exact N0 rfl | exact Nz (N0 rfl) | exact Nz (Nz rfl))(m:N' x:=by decide)(b:(x == ("__classdict__" : Str))=false:=by decide) :
   VP c X (.Name x pos) (λ _=>some (i,[])):=by
 refine⟨λ D8 s σ H Q I f=>?_⟩;obtain⟨F,t,A,j,p,d,S,e,n,g,q⟩:=f;refine qr2 h l m b D8 s σ H Q I ?_;cases e;obtain⟨u,w,B,C,k,o,v,y,D⟩:=S.loc.place n g;cases o;have r:=qr8 h D8 σ H s I;have a:=k;rw[zB2 r] at a;exact⟨u,a,q u u H k rfl λ _ _ z=>z⟩
theorem qH5:∀{p:List Nat}{d x:D}{q:List Nat},d.getP (p++q)=some x->∃ e,d.getP p=some e/\e.getP q=some x
 | [],d,x,q,h=>⟨d,rfl,h⟩
 | n::p,d,x,q,h=>by
   have h:D.getP d (n::(p++q))=some x:=h;unfold D.getP at h;cases a:d.kids[n]? with
   | none=>rw[a] at h;cases h
   | some y =>
     rw[a] at h;obtain⟨e,b,c⟩:=qH5 (p:=p) h;exact⟨e,by unfold D.getP;rw[a];exact b,c⟩
theorem qH6{p q:List Nat}{x:D}(h:Bc ds i (p++q)=some x):∃ e,Bc ds i p=some e/\e.getP q=some x:=by
 unfold Bc at h ⊢;cases a:ds[i]? with
 | none=>rw[a] at h;cases h
 | some d=>rw[a] at h;exact qH5 h
theorem Walk.snoc:∀{p:List Nat}{u v w:V}{n:Nat},Walk H u p v->Lnk H v n w->Walk H u (p++[n]) w
 | [],_,_,w,n,h,l=>by cases h;exact⟨w,l,rfl⟩
 | m::p,_,_,_,_,⟨x,h1,h2⟩,l=>⟨x,h1,h2.snoc l⟩
theorem qaM0{d e:D}(h:d.getP [n]=some e):d≠.u:=λ z=>by subst z;cases (show (none:Option D)=some _ from h)
theorem Ob.place{p:List Nat}{d:D}{u:V}(S:Ob c F H σ ds A)(h:Bc ds i p=some d)(e:d≠.u)(f:(σ++c.gv)[i]? = some (some u))(g:Walk H u p w):∃(B C:List γ),N9 F H w d B/\(∀ b,A.count b=B.count b+C.count b) /\
   ∀{F':γ->Prop}{H':Hp}{W:γ->Prop}(d':D)(B':List γ),Kp F H W F' H'->(∀ b∈C,¬ W b)->N9 F' H' w d' B'->∃ A':List γ,Locs F' H' (σ++c.gv) (Be ds i p d') A'/\∀ b,A'.count b=B'.count b+C.count b:=by
 obtain⟨n,o,B,C,a,j,k,l,m⟩:=S.loc.place h e;rw[f] at a;cases a;cases g.fn j;exact⟨B,C,k,l,m⟩
def D.fidx(C:γ)(f:Str):D->Option Nat
 | .ins _ C' fs=>if C'=C then fs.findIdx? (λ q=>f == q.1) else none
 | _=>none
theorem qB0{α:Type}:∀{fs:List (Str×α)}{f:Str}{n:Nat},fs.findIdx? (λ q=>f == q.1)=some n->∃ v,fs.lookup f=some v/\(fs.map (·.2))[n]? = some v
 | [],f,n,h=>by simp at h
 | (k,v)::r,f,n,h=>by
   rw[zCr] at h;rw[zB1];cases a:f == k with
   | true=>simp[a] at h;subst h;exact⟨v,rfl,rfl⟩
   | false =>
     simp[a] at h;obtain⟨m,b,rfl⟩:=h;obtain⟨w,c,d⟩:=qB0 (fs:=r) b;exact⟨w,c,by simpa using d⟩
theorem qR0{α β:Type}:∀{fs:List (Str×α)}{gs:List (Str×β)}{f:Str},fs.map (·.1)=gs.map (·.1)->fs.findIdx? (λ q=>f == q.1)=gs.findIdx? (λ q=>f == q.1)
 | [],[],_,_=>rfl
 | [],_::_,_,h=>by simp at h
 | _::_,[],_,h=>by simp at h
 | (k,_)::r,(k',_)::r',f,h=>by
   have a:k=k':=by simp at h;exact h.1
   have b:r.map (·.1)=r'.map (·.1):=by simp at h;simpa using h.2
   subst a;rw[zCr,zCr,qR0 b]
def pfFld(C:γ)(f:Str)(pf:PF):PF:=λ ds=>(pf ds).bind λ q=>(Bc ds q.1 q.2).bind λ d=>(d.fidx C f).map λ n=>(q.1,q.2++[n])
theorem Ix{f:Str}{C:γ}{K:Nf}{pf:PF}(G:X.K=K)(l:VP c X a pf)(I:Cls K C)(J:qf4 K C f)(L:Jz a f X.env (eval a X.env)=eval a X.env:=by rfl):VP c X (.Attribute a f pos) (pfFld C f pf):=by
 subst G;refine⟨PE.mono (qaI8 l.h L) λ σ H Q m=>?_⟩;obtain⟨F,M,A,i,p,d,S,e,N,Z,q⟩:=m;obtain⟨⟨j,O⟩,P,e⟩:=zA1.mp e;obtain⟨t,e2,e⟩:=zA1.mp e;obtain⟨n,x,e⟩:=zAa.mp e;cases e;obtain⟨R,g1,g2⟩:=qH6 N;rw[e2] at g1;cases g1;have b:=qaM0 g2;refine⟨F,M,A,j,O,t,S,P,e2,b,λ u w H' y D s=>?_⟩;obtain⟨B,C0,r,_,_⟩:=(S.same s).place e2 b y D;cases t with
 | ins z C' T =>
   have g:(if C'=C then T.findIdx? (λ q=>f == q.1) else none)=some n:=x;by_cases o:C'=C
   . rw[if_pos o] at g
     obtain⟨a,E,k,_,rfl,l,U,rs,_⟩:=r.ins_inv;rw[<- qR0 U] at g;obtain⟨v,V,Y⟩:=qB0 g;subst o;exact⟨a,C',E,k,v,rfl,l,I,J,V,q u v H' y (D.snoc ⟨a,rfl,.inr (.inr (.inr ⟨C',E,k,l,Y⟩))⟩) s⟩
   rw[if_neg o] at g;cases g
 | _=>cases x
def pfIx(pf:PF)(fb:FV):PF:=λ ds=>(pf ds).bind λ q=>(Bc ds q.1 q.2).bind λ d=>d.elems.bind λ ys=>(fb ds).bind λ y=>y.asI.bind λ k=>(ixN ys.length k).map λ n=>(q.1,q.2++[n])
theorem vpix{pf:PF}{ob:Bool}{fb:FV}(f:VP c X a pf)(N:VV c X b ob fb)(hs:qah5 b:=by exact λ _ _=>rfl):VP c X (.Subscript a b pos) (pfIx pf fb):=by
 refine⟨PE.mono (pe_ix qb0 f.h N.h hs) λ σ H Q C=>?_⟩;obtain⟨F,J,A,i,p,d,S,e,O,hd,q⟩:=C;obtain⟨⟨j,P⟩,R,e⟩:=zA1.mp e;obtain⟨K,e2,e⟩:=zA1.mp e;obtain⟨T,D,e⟩:=zA1.mp e;obtain⟨y,U,e⟩:=zA1.mp e;obtain⟨k,V,e⟩:=zA1.mp e;obtain⟨n,E,e⟩:=zAa.mp e;cases e;obtain⟨W,g1,g2⟩:=qH6 O;rw[e2] at g1;cases g1;have o:=qaM0 g2;refine⟨F,J,A,j,P,K,S,R,e2,o,λ u w H1 G Y s=>?_⟩;refine⟨F,J,A,y,S.same s,U,λ v2 H2 B2 Z L _=>?_⟩;have g:=s.trans L;have l:=Y.same L;obtain⟨B,C0,r,_,_⟩:=(S.same g).place e2 o G l;cases Z.asI V;have M:n < T.length:=(qQ0 E).2.1;cases K with
 | l z I =>
   cases D;obtain⟨a,m,A3,rfl,f,t,_⟩:=r.lst_inv;obtain⟨vn,v⟩:∃ x,m[n]? = some x:=⟨_,zB3 (by rw[t.len];exact M)⟩
   refine .inl ⟨a,m,k,_,rfl,rfl,.inl (.inl f),?_,q u _ H2 G (l.snoc ⟨a,rfl,.inr (.inl ⟨m,f,v⟩)⟩) g⟩;unfold atI;rw[t.len,E];exact v
 | q I =>
   cases D;obtain⟨a,m,rfl,f,t⟩:=r.tup_inv;obtain⟨vn,v⟩:∃ x,m[n]? = some x:=⟨_,zB3 (by rw[t.len];exact M)⟩
   refine .inr (.inl ⟨a,m,k,_,rfl,rfl,.inl (.inl f),?_,q u _ H2 G (l.snoc ⟨a,rfl,.inl ⟨m,f,v⟩⟩) g⟩);unfold atI;rw[t.len,E];exact v
 | _=>cases D
end
inductive Pl where
 | no
 | sl (i:Nat)
 | pl (i:Nat) (p:List Nat) (w:V)
abbrev VTB:=Ds->(Ds->List Pl->Ds->Prop)->XKd->Prop
inductive Fa(a:List (Option V)):List V->List Pl->Prop
 | nil:Fa a [] []
 | no {v:V} {vs:List V} {ps:List Pl} (t:Fa a vs ps):Fa a (v::vs) (.no::ps)
 | sl {v:V} {vs:List V} {ps:List Pl} {i:Nat} (h:a[i]? = some (some v)) (t:Fa a vs ps):Fa a (v::vs) (.sl i::ps)
 | so {v:V} {vs:List V} {ps:List Pl} {i:Nat} {p:List Nat} (t:Fa a vs ps):Fa a (v::vs) (.pl i p v::ps)
inductive LiftA(c:Vc)(t:VTB)(a:St)(H:Hp)(Q:List V->Hp->Prop):Prop
 | mk (F:γ->Prop) (ds:Ds) (A:List γ) (xe:XKd) (S:Ob c F H a ds A) (x:Xc c xe F H A) (q:t ds (λ xs pls ds'=>∀ vs H' F' T A',N3 F' H' vs xs T->Fa (a++c.gv) vs pls->Ob c F' H' a ds' A'->Ok F' H' (T++A')->Oa F H A F' H' (T++A')->Q vs H') xe):LiftA c t a H Q
def Ew(c:Vc)(t:VTB):TA:=LiftA c t
structure VAs(c:Vc)(X:Cx)(es:List Kl)(t:VTB):Prop where
 h:PA X es (Ew c t)
 m:∀ ds (Q Q':Ds->List Pl->Ds->Prop) (xe xe':XKd),(∀ d p ds',Q d p ds'->Q' d p ds')->(∀ x ds',xe x ds'->xe' x ds')->t ds Q xe->t ds Q' xe'
section
variable{c:Vc}{X:Cx}{e:Kl}{es:List Kl}{ta:VT}{tr:VTB}{pf:PF}{F F':γ->Prop}{H H':Hp}{σ:St}{ds:Ds}{A:List γ}
def A9:VTB:=λ ds Q _=>Q [] [] ds
theorem Ac:VAs c X [] A9:=⟨PA.mono qy7 λ σ H Q ⟨F,a,A,b,S,x,q⟩=>q [] H F [] A .nil .nil S S.ok Oa.refl,λ a Q Q' b d e _=>e _ _ _⟩
def tbV(ta:VT)(tr:VTB):VTB:=λ ds Q xe=>ta ds (λ x ds1=>tr ds1 (λ xs ps a=>Q (x::xs) (.no::ps) a) xe) xe
theorem vaV(f:VE c X e ta)(g:VAs c X es tr)(hs:Js (e::es) X.env=(false,eval e X.env)::Js es X.env:=by rfl):VAs c X (e::es) (tbV ta tr):=by
 refine⟨PA.mono (qg5 f.h g.h hs) λ σ H Q i=>?_,λ o Q Q' j w y p=>f.m _ _ _ _ _ (λ d a=>g.m _ _ _ _ _ (λ B C k=>y _ _ _) p) p⟩;obtain⟨F,o,A,j,S,x,q⟩:=i;refine⟨F,o,A,j,S,x,f.m _ _ _ _ _ (λ D a q v H1 F1 T A1 r S1 s t=>?_) (λ _ _ z=>z) q⟩;have l:Oa F H A F1 H1 A1:=t.count λ b=>by rw[zA0];lia
 refine⟨F1,a,A1,j,S1,x.step l,g.m _ _ _ _ _ (λ B C k q E H2 F2 T2 A2 G I S2 J u=>?_) (λ _ _ z=>z) q⟩;have n:N9 F2 H2 v D T:=r.keep (u.kp S1.ok S1.loc.cells) λ b K N=>by
   have:=s.sep b
   rw[zA0] at this
   have:=qb1.mp K
   lia
 obtain⟨L,M⟩:=u.frame s r.cells J;exact q (v::E) H2 F2 (T++T2) A2 (.cons n G) (.no I) S2 (by rw[zAw];exact L) (by rw[zAw];exact t.trans M)
def tbB(pf:PF)(tr:VTB):VTB:=λ ds Q xe=>orF (pf ds) λ q=>orF (Bc ds q.1 q.2) λ d=>d.known=true/\∀ w,tr (Be ds q.1 q.2 (.hole w)) (λ xs ps a=>Q (d::xs) (.pl q.1 q.2 w::ps) a) xe
theorem vaB(I:VP c X e pf)(a:VAs c X es tr)(hs:Js (e::es) X.env=(false,eval e X.env)::Js es X.env:=by rfl):VAs c X (e::es) (tbB pf tr):=by
 refine⟨PA.mono (qg5 I.h a.h hs) λ σ H Q g=>?_,λ j Q Q' v J K L=>qa4 λ z=>qa4 λ d=>Nb λ h w=>a.m _ _ _ _ _ (λ M N k=>K _ _ _) L (h w)⟩;obtain⟨F,j,A,v,S,x,q⟩:=g;obtain⟨⟨i,p⟩,O,q⟩:=qa6.mp q;obtain⟨d,e2,y,q⟩:=qa6.mp q;refine⟨F,j,A,i,p,d,S,O,e2,qw7 y,λ u w H1 P R s=>?_⟩;obtain⟨B,C,r,D,T⟩:=(S.same s).place e2 (qw7 y) P R;obtain⟨A1,U,q2⟩:=T (.hole w) [] (Kp.same (F:=F) λ _ _ z=>z) (λ _ _ z=>z) (.hole w);have l:Ok F H1 (B++A1):=(S.same s).ok.count λ b=>by rw[zA0,q2,D];simp
 have E:Oa F H A F H1 (B++A1):=⟨λ b o e _=>s b o e,λ b o e z=>by rw[zA0,q2];have:=D b;simp;lia,λ _ f=>f,λ _ _ _ _ f=>f⟩
 have S1:Ob c F H1 σ (Be j i p (.hole w)) A1:=⟨U,l.right,S.len,S.ag⟩
 have n:Oa F H A F H1 A1:=E.count λ b=>by rw[zA0];lia
 refine⟨F,_,A1,v,S1,x.step n,a.m _ _ _ _ _ (λ M N k q V H2 F2 T2 A2 W Y S2 Z G=>?_) (λ _ _ z=>z) (q w)⟩;have t:N9 F2 H2 w d B:=r.keep (G.kp S1.ok S1.loc.cells) λ b hb hc=>by
   have:=l.sep b
   rw[zA0] at this
   have:=qb1.mp hb
   lia
 obtain⟨o3,s3⟩:=G.frame l r.cells Z;exact q (w::V) H2 F2 (B++T2) A2 (.cons t W) (.so Y) S2 (by rw[zAw];exact o3) (by rw[zAw];exact E.trans s3)
def tbN(i:Nat)(tr:VTB):VTB:=λ ds Q xe=>(rdN i ds).isSome=true/\tr ds (λ xs ps ds1=>orF (rdN i ds1) λ d=>Q (d::xs) (.sl i::ps) (ds1.set i .u)) xe
theorem vaN(i:Nat){x:Str}{p:Pos}(e:VAs c X es tr)(hs:Js (.Name x p::es) X.env=(false,eval (.Name x p) X.env)::Js es X.env:=by rfl)(t:X.N[i]? = some x:=by rfl)(E:Vis X.env.scope x:=by first | exact N0 rfl | exact Nz (N0 rfl) | exact Nz (Nz rfl))(G:N' x:=by decide)(f:(x == ("__classdict__" : Str))=false:=by decide) :
   VAs c X (.Name x p::es) (tbN i tr):=by
 refine⟨λ pos D8 s σ H Q I g=>?_,λ u Q Q' w J K L=>Nb (e.m _ _ _ _ _ (λ M O j=>qa4 λ d=>K _ _ _) L)⟩;obtain⟨F,u,A,w,S,x,k,q⟩:=g;refine qg5 (qr2 t E G f) e.h hs pos D8 s σ H Q I ?_;have y:=qr8 t D8 σ H s I;obtain⟨d0,P⟩:=zBc.mp k;obtain⟨v,B0,a,_,_⟩:=S.name y P;refine⟨v,a,F,u,A,w,S,x,e.m _ _ _ _ _ (λ M O j q R H2 F2 T2 A2 T U S2 D V=>?_) (λ _ _ z=>z) q⟩;obtain⟨d,l,q⟩:=qa6.mp q;obtain⟨l,W⟩:=qm5.mp l;obtain⟨v',B,C,n,Y,Z,h4⟩:=S2.put1 l (qw7 W);have o:=n;rw[zB2 y,a] at n;cases n;obtain⟨A3,q1,q2⟩:=h4 .u [] (Kp.same (F:=F2) λ _ _ z=>z) (λ _ _ z=>z) (.u v);have r:∀ b,((B++T2)++A3).count b<=(T2++A2).count b:=λ b=>by simp only[zA0,q2,Z];simp;lia
 exact q (v::R) H2 F2 (B++T2) A3 (.cons Y T) (.sl o U) ⟨q1,(D.count r).right,S.len,S.ag⟩ (D.count r) (V.count r)
def As:List Pl->Ds->Ds->Option Ds
 | [],_,ds=>some ds
 | .no::ps,_::ys,ds=>As ps ys ds
 | .sl i::ps,y::ys,ds=>As ps ys (ds.set i y)
 | .pl i p v::ps,y::ys,ds=>match Bc ds i p with
   | some (.hole w)=>if w=v then As ps ys (Be ds i p y) else none
   | _=>none
 | _::_,[],_=>none
theorem qB8{τ:List (Option V)}{ds:Ds}{C B:List γ}{y:D}(L:Locs F H τ ds C)(hi:τ[i]? = some (some v))(r:N9 F H v y B):∃ A':List γ,Locs F H τ (ds.set i y) A'/\∀ b,A'.count b<=B.count b+C.count b:=by
 have s:=L.len;have g:i < τ.length:=(zA5.mp hi).1;obtain⟨d,h⟩:∃ d,ds[i]? = some d:=⟨_,zB3 (by lia)⟩
 obtain⟨σ1,o,σ2,a,c,A1,B0,A2,e,e2,j,k,m,n,t,p⟩:=L.split h;have f:τ[i]? = some o:=by rw[e];exact qA8 j
 rw[hi] at f;cases f;have q:ds.set i y=a++y::c:=by
   have:=congrArg (λ l=>l.set i y) e2
   rw[this,qo2 k]
 exact⟨A1++(B++A2),by rw[e,q];exact n.append (.so r p),λ b=>by rw[m];simp only[zA0];lia⟩
theorem qt1{pls:List Pl}{ys ds a:Ds}{σ:List (Option V)}{B C:List γ}{more:List V}(e:Fa σ vs pls)(r:N3 F H (vs++more) ys B)(L:Locs F H σ ds C)(h:As pls ys ds=some a):∃ A':List γ,Locs F H σ a A'/\∀ b,A'.count b<=B.count b+C.count b:=by
 induction e generalizing ys ds B C with
 | nil =>
   have h:some ds=some a:=by cases ys<;>exact h
   cases h;exact⟨C,L,λ b=>by lia⟩
 | no e c =>
   cases r with
   | @cons _ _ A1 _ _ B1 r1 t =>
     obtain⟨A',d,q2⟩:=c t L h;exact⟨A',d,λ b=>by rw[zA0];have:=q2 b;lia⟩
 | sl k e c =>
   cases r with
   | @cons _ _ A1 _ _ B1 r1 t =>
     obtain⟨A2,d,q2⟩:=qB8 L k r1;obtain⟨A',f,g⟩:=c t d h;exact⟨A',f,λ b=>by rw[zA0];have:=g b;have:=q2 b;lia⟩
 | @so v _ _ i p e c =>
   cases r with
   | @cons _ y A1 _ _ B1 r1 t =>
     unfold As at h;split at h
     . rename_i w hg
       by_cases j:w=v
       . rw[if_pos j] at h
         subst j;obtain⟨u,o,B2,C2,q,s,l,m,n⟩:=L.place hg (by intro z;cases z);cases l;obtain⟨A2,d,q2⟩:=n y A1 (Kp.same (F:=F) λ _ _ z=>z) (λ _ _ z=>z) r1;obtain⟨A',f,g⟩:=c t d h;refine⟨A',f,λ b=>?_⟩
         have:=g b
         have:=q2 b
         have:=m b
         simp only[Lb,zA0] at *
         lia
       rw[if_neg j] at h;cases h
     cases h
abbrev VSp:=Ds->DK->XKd->Prop
inductive LiftF(s:VSp)(vs:List V)(H:Hp)(Q:VK)(E:XK):Prop
 | mk (F:γ->Prop) (ds:Ds) (A:List γ) (r:N3 F H vs ds A) (o:Ok F H A) (q:s ds (λ d ys=>∀ v H' F' T A',N9 F' H' v d T->N3 F' H' vs ys A'->Ok F' H' (T++A')->Oa F H A F' H' (T++A')->Q v H')
   (λ x ys=>∀ e H' F' A',RepX F' H' e x->N3 F' H' vs ys A'->Ok F' H' A'->Oa F H A F' H' A'->E (.ref e) none H')):LiftF s vs H Q E
def Ff(s:VSp):Sp:=LiftF s
def Bl(s:VSp):Prop:=∀ ds (Q Q':DK) (xe xe':XKd),(∀ d a,Q d a->Q' d a)->(∀ x a,xe x a->xe' x a)->s ds Q xe->s ds Q' xe'
def qk0(s:VSp)(dv:Ds)(tr:VTB):VT:=λ ds Q xe=>tr ds (λ xs ps ds1=>s (xs++dv) (λ d ys=>orF (As ps ys ds1) λ a=>Q d a) (λ x ys=>orF (As ps ys ds1) λ a=>xe x a)) xe
theorem qao7{s:VSp}{dv:Ds}(hs:Bl s)(f:VAs c X es tr):∀ ds (Q Q':DK) (xe b:XKd),(∀ d a,Q d a->Q' d a)->(∀ x a,xe x a->b x a)->qk0 s dv tr ds Q xe->qk0 s dv tr ds Q' b :=
 λ ds Q Q' xe b g e=>f.m _ _ _ _ _ (λ j k h=>hs _ _ _ _ _ (λ d i=>qa4 λ z=>g _ _) (λ x i=>qa4 λ z=>e _ _)) e
def Go(dvs:List V)(dv:Ds):Prop:=∀ F H,N3 F H dvs dv []
theorem qx6:Go [] []:=λ _ _=>.nil
theorem qao3:Go [.non] [.non]:=λ _ _=>.cons (A:=[]) (B:=[]) .non .nil
theorem qaP2{s:VSp}{dvs:List V}{dv:Ds}(G:Go dvs dv)(hs:Bl s)(I:VAs c X es tr):∀ σ H Q,Bd c (qk0 s dv tr) σ H Q->Ic (Ff s) dvs c.E (Ew c tr) σ H Q:=by
 rintro σ H Q ⟨F,J,A,K,S,x,q⟩;refine⟨F,J,A,K,S,x,I.m _ _ _ _ _ (λ B R h q L H1 F1 T A1 M C S1 a D=>?_) (λ _ _ z=>z) q⟩;have rall:N3 F1 H1 (L++dvs) (B++dv) (T++[]):=M.append (G F1 H1);rw[zAe] at rall;refine⟨F1,B++dv,T,rall,a.left,hs _ _ _ _ _ (λ d N q v H2 F2 T2 A2 O l n i=>?_) (λ y N q e H2 F2 A2 P l n i=>?_) q⟩
 . obtain⟨j,o,q⟩:=qa6.mp q
   have f:Ok F1 H1 (A1++T):=a.count λ b=>by simp only[zA0];lia
   obtain⟨p,r⟩:=i.frame f S1.loc.cells n;have L1:Locs F2 H2 (σ++c.gv) h A1:=S1.loc.keep (i.kp a.left rall.cells) λ b t g=>by
     have:=a.sep b
     rw[zA0] at this
     have:=qb1.mp t
     lia
   obtain⟨A3,u,q2⟩:=qt1 C l L1 o;have g:∀ b,(T2++A3).count b<=(A1++(T2++A2)).count b:=λ b=>by simp only[zA0];have:=q2 b;lia
   have k:Ok F2 H2 (T2++A3):=p.count g;have w:Oa F H A F2 H2 (T2++A3):=(D.trans (r.pre λ b=>by simp only[zA0];lia)).count g;exact q v H2 F2 T2 A3 O ⟨u,k.right,S.len,S.ag⟩ k w
 obtain⟨j,o,q⟩:=qa6.mp q;have f:Ok F1 H1 (A1++T):=a.count λ b=>by simp only[zA0];lia
 obtain⟨p,r⟩:=i.frame f S1.loc.cells n;have L1:Locs F2 H2 (σ++c.gv) h A1:=S1.loc.keep (i.kp a.left rall.cells) λ b t g=>by
   have:=a.sep b
   rw[zA0] at this
   have:=qb1.mp t
   lia
 obtain⟨A3,u,q2⟩:=qt1 C l L1 o;have g:∀ b,A3.count b<=(A1++A2).count b:=λ b=>by simp only[zA0];have:=q2 b;lia
 have k:Ok F2 H2 A3:=p.count g;have w:Oa F H A F2 H2 A3:=(D.trans (r.pre λ b=>by simp only[zA0];lia)).count g;exact x y j σ e H2 F2 A3 q P ⟨u,k,S.len,S.ag⟩ w
end
structure Fb(cm:Bool)(P:Ki)(w:Kk)(K:Nf)(mg:Str->Option V')(base:Heap)(k:Nat)(f:γ)(fd:δ)(ps:List Str)(s:VSp):Prop where
 ok:Dv cm P w K mg base (CX1 P w) k f fd ps (Ff s)
 m:Bl s
abbrev VFn:=Fb true
section
variable{c:Vc}{X:Cx}{a e:Kl}{es:List Kl}{tr:VTB}{F F1:γ->Prop}{H H1:Hp}{σ:St}{ds ds1:Ds}{A A1 T:List γ}{pos p apos:Pos}{x qual m:Str}{st:Km}{f C:γ}{fd:δ}{ps:List Str}{k:Nat}{s:VSp}{dvs:List V}{dv:Ds}
theorem Aj(D:Df X.K X.mg x qual st f fd ps)(G:Fb cm X.prog X.w X.K X.mg X.base k f fd ps s)(i:Lands X c.E)(j:Oc cm k X.A)(a:VAs c X (e::es) tr)(l:Gl X x:=by rfl)(d:N' x:=by decide)(n:Js (e::es) X.env=(false,eval e X.env)::Js es X.env:=by rfl)(g:(backTo pos (Js es X.env)).any (·.1)=false:=by rfl):VE c X (.Call (.Name x p) (e::es) [] pos) (qk0 s [] tr) :=
 ⟨PE.mono (qas2 G.ok j l D.m D.F.kp D.b .nil i.passes a.h d n g) (qaP2 qx6 G.m a),qao7 G.m a⟩
theorem qau4{xs:Ds}{pls:List Pl}{xe:XKd}{K:DK}(B:Go dvs dv)(hs:Bl s)(S:Ob c F H σ ds A)(x:Xc c xe F H A)(r1:N3 F1 H1 vs xs T)(w:Fa (σ++c.gv) vs pls)(S1:Ob c F1 H1 σ ds1 A1)(f:Ok F1 H1 (T++A1))(z:Oa F H A F1 H1 (T++A1))(C:∀ d i,K d i->∀ v H' F' T A',N9 F' H' v d T->Ob c F' H' σ i A'->Ok F' H' (T++A')->Oa F H A F' H' (T++A')->Q v H')(q:s (xs++dv) (λ d ys=>orF (As pls ys ds1) λ a=>K d a) (λ x ys=>orF (As pls ys ds1) λ a=>xe x a)):Ff s (vs++dvs) H1 Q (c.E σ):=by
 have rall:N3 F1 H1 (vs++dvs) (xs++dv) (T++[]):=r1.append (B F1 H1);rw[zAe] at rall;refine⟨F1,xs++dv,T,rall,f.left,hs _ _ _ _ _ (λ d ys q v H2 F2 T2 A2 D l m j=>?_) (λ y ys q e H2 F2 A2 G l m j=>?_) q⟩
 . obtain⟨a,n,q⟩:=qa6.mp q
   have g:Ok F1 H1 (A1++T):=f.count λ b=>by simp only[zA0];lia
   obtain⟨o,p⟩:=j.frame g S1.loc.cells m;have L1:Locs F2 H2 (σ++c.gv) ds1 A1:=S1.loc.keep (j.kp f.left rall.cells) λ b r h=>by
     have:=f.sep b
     rw[zA0] at this
     have:=qb1.mp r
     lia
   obtain⟨A3,t,q2⟩:=qt1 w l L1 n;have h:∀ b,(T2++A3).count b<=(A1++(T2++A2)).count b:=λ b=>by simp only[zA0];have:=q2 b;lia
   have k:Ok F2 H2 (T2++A3):=o.count h;have u:Oa F H A F2 H2 (T2++A3):=(z.trans (p.pre λ b=>by simp only[zA0];lia)).count h;exact C d a q v H2 F2 T2 A3 D ⟨t,k.right,S.len,S.ag⟩ k u
 obtain⟨a,n,q⟩:=qa6.mp q;have g:Ok F1 H1 (A1++T):=f.count λ b=>by simp only[zA0];lia
 obtain⟨o,p⟩:=j.frame g S1.loc.cells m;have L1:Locs F2 H2 (σ++c.gv) ds1 A1:=S1.loc.keep (j.kp f.left rall.cells) λ b r h=>by
   have:=f.sep b
   rw[zA0] at this
   have:=qb1.mp r
   lia
 obtain⟨A3,t,q2⟩:=qt1 w l L1 n;have h:∀ b,A3.count b<=(A1++A2).count b:=λ b=>by simp only[zA0];have:=q2 b;lia
 have k:Ok F2 H2 A3:=o.count h;have u:Oa F H A F2 H2 A3:=(z.trans (p.pre λ b=>by simp only[zA0];lia)).count h;exact x y a σ e H2 F2 A3 q G ⟨t,k,S.len,S.ag⟩ u
def D.isM(C:γ)(m:Str):D->Bool
 | .ins _ C' fs=>decide (C'=C)&&(fs.lookup m).isNone
 | _=>false
theorem qA3{α β:Type}:∀{fs:List (Str×α)}{gs:List (Str×β)}{f:Str},fs.map (·.1)=gs.map (·.1)->(fs.lookup f).isNone=(gs.lookup f).isNone
 | [],[],_,_=>rfl
 | [],_::_,_,h=>by simp at h
 | _::_,[],_,h=>by simp at h
 | (k,_)::r,(k',_)::r',f,h=>by
   have a:k=k':=by simp at h;exact h.1
   have b:r.map (·.1)=r'.map (·.1):=by simp at h;simpa using h.2
   subst a;rw[zB1,zB1];cases f == k with
   | true=>rfl
   | false=>exact qA3 b
theorem N9.isM{d:D}{B:List γ}(r:N9 F H v d B)(h:d.isM C m=true):∃ a dx fs,v=.ref a/\H a=some (.ins C dx fs)/\fs.lookup m=none:=by
 cases d with
 | ins z C' f =>
   have h:=zAn.mp h;obtain⟨a,dx,b,A,rfl,g,e,i,_⟩:=r.ins_inv
   have:=zAc h.1
   subst this;refine⟨a,dx,b,rfl,g,?_⟩;have c:=h.2;rw[<- qA3 e] at c;exact Option.isNone_iff_eq_none.mp c
 | _=>cases h
def qu5(C:γ)(m:Str)(s:VSp)(dv:Ds)(i:Nat)(tr:VTB):VT:=λ ds Q xe=>(orF (rdN i ds) λ d=>d.isM C m=true)/\tr ds (λ xs ps ds1=>orF (rdN i ds1) λ d=>s (d::(xs++dv)) (λ r ys=>orF (As (.sl i::ps) ys (ds1.set i .u)) λ a=>Q r a) (λ x ys=>orF (As (.sl i::ps) ys (ds1.set i .u)) λ a=>xe x a)) xe
theorem qG7(hs:Bl s)(f:VAs c X es tr):∀ ds (Q Q':DK) (xe b:XKd),(∀ d a,Q d a->Q' d a)->(∀ x a,xe x a->b x a)->qu5 C m s dv i tr ds Q xe->qu5 C m s dv i tr ds Q' b :=
 λ ds Q Q' xe b g e=>Nb (f.m _ _ _ _ _ (λ k l h=>qa4 λ d=>hs _ _ _ _ _ (λ d j=>qa4 λ z=>g _ _) (λ x j=>qa4 λ z=>e _ _)) e)
theorem qab3{σ:St}{H:Hp}(w:Go dvs dv)(hs:Bl s)(y:VAs c X es tr)(hi:i < σ.length)(q:Bd c (qu5 C m s dv i tr) σ H Q):G2 C m (Ff s) dvs c.E (E9 i) (Ew c tr) σ H Q:=by
 obtain⟨F,D,A,G,S,x,f,q⟩:=q;obtain⟨Y,I,f⟩:=qa6.mp f;obtain⟨v,B0,e,J,_⟩:=S.name hi I;obtain⟨a,K,L,rfl,g,j⟩:=J.isM f;refine⟨.ref a,e,a,K,L,rfl,g,j,F,D,A,G,S,x,y.m _ _ _ _ _ (λ r Z M q t H2 F2 T2 A2 N O S2 u P=>?_) (λ _ _ z=>z) q⟩;obtain⟨d,k,q⟩:=qa6.mp q;obtain⟨k,l⟩:=qm5.mp k;obtain⟨v',B,C0,n,R,T,U⟩:=S2.put1 k (qw7 l);have o:=n;rw[zB2 hi,e] at n;cases n;obtain⟨A3,V,q2⟩:=U .u [] (Kp.same (F:=F2) λ _ _ z=>z) (λ _ _ z=>z) (.u _);have p:∀ b,((B++T2)++A3).count b<=(T2++A2).count b:=λ b=>by simp only[zA0,q2,T];simp;lia
 exact qau4 (vs:=.ref a::t) (xs:=d::r) w hs S x (.cons R N) (.sl o O) ⟨V,(u.count p).right,S.len,S.ag⟩ (u.count p) (P.count p) (λ d W h=>h) q
theorem qm2{pl:Sem Bool}(i:Nat){xn:Str}{p0:Pos}(D:Md X.K C m qual st f fd ps)(n:Cls X.K C)(G:Fb cm X.prog X.w X.K X.mg X.base k f fd ps s)(o:Lands X c.E)(p:Oc cm k X.A)(a:VAs c X (e::es) tr)(l:X.N[i]? = some xn:=by rfl)(r:Vis X.env.scope xn:=by first | exact N0 rfl | exact Nz (N0 rfl) | exact Nz (Nz rfl))(t:N' xn:=by decide)(d:(xn == ("__classdict__" : Str))=false:=by decide)(g:Js (e::es) X.env=(false,eval e X.env)::Js es X.env:=by rfl)(j:(backTo pos (Js es X.env)).any (·.1)=false:=by rfl)(u:eval (.Call (.Attribute (.Name xn p0) m apos) (e::es) [] pos) X.env=(do
     let ov <- eval (.Name xn p0) X.env
     standAt apos.atName
     let (f,first) <- holding [ov] (getMethod ov m pl)
     callWith pos f first (backTo pos (Js (e::es) X.env)) (backToKw pos (J' [] X.env))):=by rfl):VE c X (.Call (.Attribute (.Name xn p0) m apos) (e::es) [] pos) (qu5 C m s [] i tr) :=
 ⟨λ D8 s σ H Q I q=>qar9 (qr2 l r t d) n D.me G.ok p D.b .nil o.passes a.h g j u D8 s σ H Q I (qab3 qx6 G.m a (qr8 l D8 σ H s I) q),qG7 G.m a⟩
theorem qaf7{pl:Sem Bool}(i:Nat){xn:Str}{p0:Pos}(D:Md X.K C m qual st f fd ps)(j:Cls X.K C)(G:Fb cm X.prog X.w X.K X.mg X.base k f fd ps s)(l:Lands X c.E)(n:Oc cm k X.A)(g:X.N[i]? = some xn:=by rfl)(d:Vis X.env.scope xn:=by first | exact N0 rfl | exact Nz (N0 rfl) | exact Nz (Nz rfl))(o:N' xn:=by decide)(e:(xn == ("__classdict__" : Str))=false:=by decide)(p:eval (.Call (.Attribute (.Name xn p0) m apos) [] [] pos) X.env=(do
     let ov <- eval (.Name xn p0) X.env
     standAt apos.atName
     let (f,first) <- holding [ov] (getMethod ov m pl)
     callWith pos f first (backTo pos (Js [] X.env)) (backToKw pos (J' [] X.env))):=by rfl):VE c X (.Call (.Attribute (.Name xn p0) m apos) [] [] pos) (qu5 C m s [] i A9) :=
 ⟨λ D8 h σ H Q I q=>qay3 (qr2 g d o e) j D.me G.ok n D.b .nil l.passes p D8 h σ H Q I (by
   obtain⟨v,d,a,r,t,u,x,y,F2,z,A2,B,S2,F,q2⟩:=qab3 (c:=c) (X:=X) qx6 G.m Ac (qr8 g D8 σ H h I) q;exact⟨v,d,a,r,t,u,x,y,q2 [] H F2 [] A2 .nil .nil S2 S2.ok Oa.refl⟩),qG7 (c:=c) G.m (X:=X) Ac⟩
def qT3(C:γ)(s:VSp)(dv:Ds)(tr:VTB):VT:=λ ds Q xe=>tr ds (λ xs ps ds1=>s (.ins false C []::(xs++dv)) (λ d ys=>d.isN=some true/\orF ys.head? λ self=>orF (As ps ys.tail ds1) λ a=>Q self a) (λ x ys=>orF (As ps ys.tail ds1) λ a=>xe x a)) xe
theorem qP7(hs:Bl s)(f:VAs c X es tr):∀ ds (Q Q':DK) (xe b:XKd),(∀ d a,Q d a->Q' d a)->(∀ x a,xe x a->b x a)->qT3 C s dv tr ds Q xe->qT3 C s dv tr ds Q' b :=
 λ ds Q Q' xe b g e=>f.m _ _ _ _ _ (λ j k h=>hs _ _ _ _ _ (λ d i=>Nb (qa4 λ z=>qa4 λ w=>g _ _)) (λ x i=>qa4 λ z=>e _ _)) e
theorem qas4(N:Go dvs dv)(hs:Bl s)(O:VAs c X es tr):∀ σ H Q,Bd c (qT3 C s dv tr) σ H Q->tMake C (Ff s) dvs c.E (Ew c tr) σ H Q:=by
 rintro σ H Q ⟨F,P,A,R,S,x,q⟩;refine⟨F,P,A,R,S,x,O.m _ _ _ _ _ (λ U ps h q V H1 F1 T A1 K L S1 W Y=>?_) (λ _ _ z=>z) q⟩;intro y dy n o p;have same:Same H1 (upd (upd H1 dy (.own y)) y (.ins C dy [])):=(Same.new o).trans (Same.new (by rw[qc7 (Ne.symm p)];exact n));have rall:N3 F1 (upd (upd H1 dy (.own y)) y (.ins C dy [])) (.ref y::(V++dvs)) (.ins false C []::(U++dv)) ([y]++(T++[])) :=
   .cons (.ins qb8 rfl .nil) ((K.append (N F1 H1)).same same)
 rw[zAe] at rall;have i:Ok F1 (upd (upd H1 dy (.own y)) y (.ins C dy [])) ([y]++(T++A1)):=(qf0 n).ok W (λ b a=>by
   rcases zAj.mp a with a | a
   . exact K.cells b a
   exact S1.loc.cells b a) same
 have r:Ok F1 (upd (upd H1 dy (.own y)) y (.ins C dy [])) ([y]++T):=i.count λ b=>by simp only[zA0];lia
 have M:Oa F H A F1 (upd (upd H1 dy (.own y)) y (.ins C dy [])) ([y]++(T++A1)):=Y.trans ((qf0 n).stp same);have S1':=S1.same same;refine⟨F1,_,[y]++T,rall,r,hs _ _ _ _ _ (λ d Z q v H2 F2 T2 A2 r2 t u j=>?_) (λ ex Z q e H2 F2 A2 rx t u j=>?_) q⟩
 . obtain⟨hn,q⟩:=q
   have hv:v=.non:=by
     cases d with
     | non=>cases r2;rfl
     | _=>cases hn
   refine⟨hv,?_⟩;obtain⟨self,eh,q⟩:=qa6.mp q;obtain⟨k,w,B⟩:=qa6.mp q;have g:Ok F1 _ (A1++([y]++T)):=i.count λ b=>by simp only[zA0];lia
   obtain⟨D,G⟩:=j.frame g S1'.loc.cells u;have L1:Locs F2 H2 (σ++c.gv) h A1:=S1'.loc.keep (j.kp r rall.cells) λ b a f=>by
     have:=i.sep b
     simp only[zA0] at this f
     have:=qb1.mp a
     lia
   cases t with
   | @cons _ d0 Aself _ ys' B' rself rrest =>
     cases eh;obtain⟨A3,I,q2⟩:=qt1 L rrest L1 w;have f:∀ b,(Aself++A3).count b<=(A1++(T2++(Aself++B'))).count b:=λ b=>by simp only[zA0];have:=q2 b;lia
     have l:=D.count f;have J:Oa F H A F2 H2 (Aself++A3):=(M.trans (G.pre λ b=>by simp only[zA0];lia)).count f;exact B (.ref y) H2 F2 Aself A3 rself ⟨I,l.right,S.len,S.ag⟩ l J
 obtain⟨k,w,B⟩:=qa6.mp q;have g:Ok F1 _ (A1++([y]++T)):=i.count λ b=>by simp only[zA0];lia
 obtain⟨D,G⟩:=j.frame g S1'.loc.cells u;have L1:Locs F2 H2 (σ++c.gv) h A1:=S1'.loc.keep (j.kp r rall.cells) λ b a f=>by
   have:=i.sep b
   simp only[zA0] at this f
   have:=qb1.mp a
   lia
 cases t with
 | @cons _ d0 Aself _ ys' B' rself rrest =>
   obtain⟨A3,I,q2⟩:=qt1 L rrest L1 w;have f:∀ b,A3.count b<=(A1++(Aself++B')).count b:=λ b=>by simp only[zA0];have:=q2 b;lia
   have l:=D.count f;have J:Oa F H A F2 H2 A3:=(M.trans (G.pre λ b=>by simp only[zA0];lia)).count f;exact x ex k σ e H2 F2 A3 B rx ⟨I,l,S.len,S.ag⟩ J
theorem emake(i:Cl X.K X.mg x C)(M:Mk X.K C f)(D:Md X.K C m qual st f fd ps)(G:Fb cm X.prog X.w X.K X.mg X.base k f fd ps s)(j:Lands X c.E)(l:Oc cm (k+1) X.A)(a:VAs c X (e::es) tr)(n:Gl X x:=by rfl)(d:N' x:=by decide)(o:Js (e::es) X.env=(false,eval e X.env)::Js es X.env:=by rfl)(g:(backTo pos (Js es X.env)).any (·.1)=false:=by rfl):VE c X (.Call (.Name x p) (e::es) [] pos) (qT3 C s [] tr) :=
 ⟨PE.mono (qas0 M G.ok l n i.m D.b .nil j.passes a.h d o g) (qas4 qx6 G.m a),qP7 G.m a⟩
theorem qaW4{ndv:List V'}(i:Cl X.K X.mg x C)(M:Mk X.K C f)(b:Binds X.K fd ps [.none])(G:Fb cm X.prog X.w X.K X.mg X.base k f fd ps s)(j:Lands X c.E)(l:Oc cm (k+1) X.A)(a:VAs c X (e::es) tr)(n:Gl X x:=by rfl)(d:N' x:=by decide)(o:Js (e::es) X.env=(false,eval e X.env)::Js es X.env:=by rfl)(g:(backTo pos (Js es X.env)).any (·.1)=false:=by rfl):VE c X (.Call (.Name x p) (e::es) [] pos) (qT3 C s [.non] tr) :=
 ⟨PE.mono (qas0 M G.ok l n i.m b (dvs:=[.non]) (.cons rfl .nil) j.passes a.h d o g) (qas4 qao3 G.m a),qP7 G.m a⟩
def tLstV(tr:VTB):VT:=λ ds Q xe=>tr ds (λ xs ps ds1=>xs.length<=big/\Q (.l false xs) ds1) xe
def Ha(tr:VTB):VT:=λ ds Q xe=>tr ds (λ xs ps ds1=>xs.length<=big/\Q (.q xs) ds1) xe
theorem elst(d:VAs c X es tr):VE c X (.List es pos) (tLstV tr):=by
 refine⟨PE.mono (qay4 d.h) λ σ H Q e=>?_,λ j Q Q' k l n o=>d.m _ _ _ _ _ (λ p r f=>Nb (n _ _)) o⟩;obtain⟨F,j,A,k,S,x,q⟩:=e;refine⟨F,j,A,k,S,x,d.m _ _ _ _ _ (λ p r f q s H1 F1 T A1 g B S1 t v=>⟨by rw[g.len];exact zAm q.1 qg8,λ y i=>?_⟩) (λ _ _ z=>z) q⟩;have same:=Same.new (u:=.l s) i;have w:=(qf0 i).ok t (λ b a=>by
   rcases zAj.mp a with a | a
   . exact g.cells b a
   exact S1.loc.cells b a) same
 exact q.2 (.ref y) _ F1 (y::T) A1 (.l qb8 (g.same same)) (S1.same same) w (v.trans ((qf0 i).stp same))
theorem Gp(a:VAs c X es tr):VE c X (.Tuple es n pos) (Ha tr):=by
 refine⟨PE.mono (qaI4 a.h) λ σ H Q b=>?_,λ e Q Q' f j k l=>a.m _ _ _ _ _ (λ o p d=>Nb (k _ _)) l⟩;obtain⟨F,e,A,f,S,x,q⟩:=b;refine⟨F,e,A,f,S,x,a.m _ _ _ _ _ (λ o p d q r H1 F1 T A1 g v S1 s t=>⟨by rw[g.len];exact zAm q.1 qg8,λ y i=>?_⟩) (λ _ _ z=>z) q⟩;have same:=Same.new (u:=.q r) i;exact q.2 (.ref y) _ F1 T A1 (qab0 i g) (S1.same same) (s.same same) (t.trans (.same same))
end
structure VEnds where
 nx:Ds->Prop
 rt:DK
 bk:Ds->Prop
 ct:Ds->Prop
 xe:XKd
abbrev VTS:=VEnds->Ds->Prop
structure VEnds.Le(e e':VEnds):Prop where
 nx:∀ ds,e.nx ds->e'.nx ds
 rt:∀ d ds,e.rt d ds->e'.rt d ds
 bk:∀ ds,e.bk ds->e'.bk ds
 ct:∀ ds,e.ct ds->e'.ct ds
 xe:∀ x ds,e.xe x ds->e'.xe x ds
structure Lk(c:Vc)(E:D9)(F:γ->Prop)(H:Hp)(A:List γ)(e:VEnds):Prop where
 nx:∀ ds' a' H' F' A',e.nx ds'->Ob c F' H' a' ds' A'->Oa F H A F' H' A'->E.nx a' H'
 rt:∀ d ds' v a' H' F' T A',e.rt d ds'->N9 F' H' v d T->Ob c F' H' a' ds' A'->Ok F' H' (T++A')->Oa F H A F' H' (T++A')->E.rt v H'
 bk:∀ ds' a' H' F' A',e.bk ds'->Ob c F' H' a' ds' A'->Oa F H A F' H' A'->E.bk a' H'
 ct:∀ ds' a' H' F' A',e.ct ds'->Ob c F' H' a' ds' A'->Oa F H A F' H' A'->E.ct a' H'
 xe:Xc c e.xe F H A
theorem Lk.step{c:Vc}{E:D9}{F F1:γ->Prop}{H H1:Hp}{A A1:List γ}{e:VEnds}(l:Lk c E F H A e)(s:Oa F H A F1 H1 A1):Lk c E F1 H1 A1 e :=
 ⟨λ a b' H' F' A' h S t=>l.nx a b' H' F' A' h S (s.trans t),λ d a v b' H' F' T A' h r S o t=>l.rt d a v b' H' F' T A' h r S o (s.trans t),λ a b' H' F' A' h S t=>l.bk a b' H' F' A' h S (s.trans t),λ a b' H' F' A' h S t=>l.ct a b' H' F' A' h S (s.trans t),l.xe.step s⟩
inductive LiftS(c:Vc)(t:VTS)(E:D9)(a:St)(H:Hp):Prop
 | mk (F:γ->Prop) (ds:Ds) (A:List γ) (e:VEnds) (S:Ob c F H a ds A) (l:Lk c E F H A e) (q:t e ds):LiftS c t E a H
def Ex(c:Vc)(t:VTS):TS:=LiftS c t
structure VS(c:Vc)(X:Cx)(st:Km)(t:VTS):Prop where
 h:PS X st (Ex c t)
 m:∀(e e':VEnds) ds,e.Le e'->t e ds->t e' ds
structure VSs(c:Vc)(X:Cx)(st:List Km)(t:VTS):Prop where
 h:PSs X st (Ex c t)
 m:∀(e e':VEnds) ds,e.Le e'->t e ds->t e' ds
section
variable{c:Vc}{X:Cx}{a b e:Kl}{G:Km}{rest:List Km}{t u:VTS}{te:VT}{pos:Pos}
def F8:VTS:=λ e ds=>e.nx ds
def Fq(t u:VTS):VTS:=λ e ds=>t { e with nx:=u e } ds
theorem Av:VSs c X [] F8:=⟨PSs.mono qaH4 λ E C H ⟨F,a,A,e,S,l,q⟩=>l.nx a C H F A q S Oa.refl,λ e b a h=>h.nx a⟩
theorem Ab(h1:VS c X G t)(h2:VSs c X rest u):VSs c X (G::rest) (Fq t u):=by
 refine⟨PSs.mono (qZ7 h1.h h2.h) λ E C H a=>?_,λ e f b h=>h1.m _ _ _ ⟨λ b=>h2.m _ _ _ h,h.rt,h.bk,h.ct,h.xe⟩⟩;obtain⟨F,b,A,e,S,l,q⟩:=a;exact⟨F,b,A,{ e with nx:=u e },S,⟨λ d C' H' F' A' q S' s=>⟨F',d,A',e,S',l.step s,q⟩,l.rt,l.bk,l.ct,l.xe⟩,q⟩
theorem Ag(h1:VS c X G t):VSs c X [G] t:=⟨qar2 h1.h,h1.m⟩
def sRet(te:VT):VTS:=λ e ds=>te ds e.rt e.xe
theorem At(h:VE c X e te):VS c X (.Return (some e) pos) (sRet te):=by
 refine⟨PS.mono (qaH6 h.h) λ E C H ⟨F,b,A,e,S,l,q⟩=>⟨F,b,A,e.xe,S,l.xe,h.m _ _ _ _ _ (λ d a q v H' F' T A' r S' o s=>l.rt d a v C H' F' T A' q r S' o s) (λ _ _ z=>z) q⟩,λ e g b f=>h.m _ _ _ _ _ f.rt f.xe⟩
def Iy(te:VT):VTS:=λ e ds=>te ds (λ _ a=>e.nx a) e.xe
theorem Dl(h:VE c X e te)(hs:swapsWith e none pos.line X.env=pure false:=by rfl):VS c X (.Expr e pos) (Iy te):=by
 refine⟨PS.mono (qaH7 h.h hs) λ E C H ⟨F,f,A,e,S,l,q⟩=>⟨F,f,A,e.xe,S,l.xe,h.m _ _ _ _ _ (λ d a q v H' F' T A' r S' o s=>l.nx a C H' F' A' q S' (s.count λ b=>by rw[zA0];lia)) (λ _ _ z=>z) q⟩,λ e i f g=>h.m _ _ _ _ _ (λ _=>g.nx) g.xe⟩
def sIf(qc:VTT)(t u:VTS):VTS:=λ e ds=>qc ds (λ k a=>if k=true then t e a else u e a) e.xe
theorem sif{x y:List Km}{qc:VTT}(b:VTe c X cd qc)(g:VSs c X x t)(i:VSs c X y u):VS c X (.If cd x y pos) (sIf qc t u):=by
 refine⟨PS.mono (ps_if b.h g.h i.h) λ E C H d=>?_,λ e n j f=>b.m _ _ _ _ _ (λ k a=>qH0 (g.m _ _ _ f) (i.m _ _ _ f)) f.xe⟩;obtain⟨F,j,A,e,S,l,q⟩:=d;refine⟨F,j,A,e.xe,S,l.xe,b.m _ _ _ _ _ (λ k a q H' F' A' S' s=>?_) (λ _ _ z=>z) q⟩;cases k with
 | true=>rw[if_pos rfl] at q ⊢;exact⟨F',a,A',e,S',l.step s,q⟩
 | false=>rw[if_neg (by decide)] at q ⊢;exact⟨F',a,A',e,S',l.step s,q⟩
def qaR0:VTS:=λ _ _=>False
theorem qk1:VS c X G qaR0:=⟨λ _ _ _ _ _ _ ⟨_,_,_,_,_,_,q⟩=>q.elim,λ _ _ _ _ q=>q.elim⟩
abbrev VTG:=D->Ds->(Ds->Prop)->Prop
inductive LiftG(c:Vc)(g:VTG)(v:V)(C:St)(H:Hp)(Q:St->Hp->Prop):Prop
 | mk (F:γ->Prop) (ds:Ds) (A T:List γ) (d:D) (r:N9 F H v d T) (S:Ob c F H C ds A) (o:Ok F H (T++A)) (q:g d ds (λ ds'=>∀ C' H' F' A',Ob c F' H' C' ds' A'->Oa F H (T++A) F' H' A'->Q C' H')):LiftG c g v C H Q
def Fg(c:Vc)(g:VTG):TG:=LiftG c g
structure VG(c:Vc)(X:Cx)(e:Kl)(g:VTG):Prop where
 h:PG X e (Fg c g)
 m:∀ d ds (Q Q':Ds->Prop),(∀ ds',Q ds'->Q' ds')->g d ds Q->g d ds Q'
theorem PG.mono{g g':TG}(h:PG X e g)(i:∀ v C H Q,g' v C H Q->g v C H Q):PG X e g':=λ D8 s C H v u Q I r q=>h D8 s C H v u Q I r (i v C H Q q)
theorem Ob.store{F:γ->Prop}{H:Hp}{C:St}{ds:Ds}{A T:List γ}{d:D}(S:Ob c F H C ds A)(m:c.W i=false)(hi:i < C.length)(r:N9 F H v d T)(o:Ok F H (T++A)) :
   ∃ A',Ob c F H (C.set i (some v)) (ds.set i d) A'/\Oa F H (T++A) F H A':=by
 have n:=S.loc.len;rw[zAk] at n;obtain⟨σ1,x,σ2,e,f,A1,B,A2,p,e2,q,s,t,u,y,w⟩:=S.loc.split (i:=i) (d:=ds[i]'(by lia)) (by simp);have hσ:C.set i (some v)++c.gv=σ1++some v::σ2:=by
   rw[<- L8 _ _ hi,p,qo2 q]
 have g:ds.set i d=e++d::f:=by
   have:=congrArg (λ l=>l.set i d) e2
   rw[this,qo2 s]
 have a:∀ b,(A1++(T++A2)).count b<=(T++A).count b:=λ b=>by rw[t];simp only[zA0];lia
 refine⟨A1++(T++A2),⟨by rw[hσ,g];exact u.append (.so r w),o.count a,?_,λ j h=>?_⟩,Oa.refl.count a⟩
 . rw[S.len,zAk,zAk,Lw]
 have k:i≠j:=λ z=>by subst z;rw[m] at h;cases h
 rw[<- S.ag j h,<- L8 _ _ hi,zBl k]
def gNm(i:Nat):VTG:=λ d ds Q=>Q (ds.set i d)
theorem A8(i:Nat){x:Str}(b:X.N.Nodup)(e:c.W i=false:=by rfl)(hi:X.N[i]? = some x:=by rfl)(f:Loc X.env.scope x:=by first | exact N0 rfl | exact Nz rfl)(g:X.fn x=true∨X.env.scope.names.lookup x=some .local:=by first | exact .inl rfl | exact .inr rfl | assumption):VG c X (.Name x pos) (gNm i):=by
 refine⟨λ D8 s C H v h Q I j a=>?_,λ d k Q Q' l=>l _⟩;obtain⟨F,k,A,T,d,r,S,o,q⟩:=a;refine qar8 b hi f g D8 s C H v h Q I j ?_;obtain⟨A',S',m⟩:=S.store e (qr8 hi D8 C H s I) r o;exact q _ H F A' S' m
def Dt(te:VT)(g:VTG):VTS:=λ e ds=>te ds (λ d a=>g d a e.nx) e.xe
theorem qaX5{tg:Kl}{g:VTG}(h:VE c X e te)(f:VG c X tg g):∀ E C H,Ex c (Dt te g) E C H->Hg (Bd c te) (Fg c g) E C H:=by
 rintro E C H ⟨F,i,A,j,S,l,q⟩;refine⟨F,i,A,j.xe,S,l.xe,h.m _ _ _ _ _ (λ d a q v H' F' T A' r S' o s=>?_) (λ _ _ z=>z) q⟩;exact⟨F',a,A',T,d,r,S',o,f.m _ _ _ _ (λ b q σ2 H2 F2 A2 S2 k=>l.nx b σ2 H2 F2 A2 q S2 (s.trans k)) q⟩
theorem qah2{tg:Kl}{g:VTG}(h:VE c X e te)(f:VG c X tg g):∀(en a:VEnds) ds,en.Le a->Dt te g en ds->Dt te g a ds:=λ en a ds b=>h.m _ _ _ _ _ (λ d i=>f.m _ _ _ _ b.nx) b.xe
theorem Fc{tg:Kl}{g:VTG}(h:VE c X e te)(a:VG c X tg g)(hs:swapsWithSole [tg] e pos.line X.env=pure false:=by rfl)(b:swappedStores [tg] e X.env=pure none:=by rfl)(h1:(Ke [tg] X.env).map (·.2)=[assign tg X.env]:=by rfl):VS c X (.Assign [tg] e pos) (Dt te g) :=
 ⟨PS.mono (qaR5 h.h a.h hs b h1) (qaX5 h a),qah2 h a⟩
theorem Ak(i:Nat){x:Str}{pos':Pos}(a:X.N.Nodup)(h:VE c X e te)(b:c.W i=false:=by rfl)(hi:X.N[i]? = some x:=by rfl)(f:Loc X.env.scope x:=by first | exact N0 rfl | exact Nz rfl)(hs:swapsWith e (some (.Name x pos')) pos.line X.env=pure false:=by rfl)(g:X.fn x=true∨X.env.scope.names.lookup x=some .local:=by first | exact .inl rfl | exact .inr rfl | assumption) :
   VS c X (.Assign [.Name x pos'] e pos) (Dt te (gNm i)):=by
 have j:VG c X (.Name x pos') (gNm i):=A8 i a b hi f g;refine⟨λ D8 s C H E I q=>qaH5 a hi f h.h hs g D8 s C H E I ?_,qah2 h j⟩;obtain⟨F,k,A,n,S,l,q⟩:=q;refine⟨F,k,A,n.xe,S,l.xe,h.m _ _ _ _ _ (λ d p q v H' F' T A' r S' o t=>?_) (λ _ _ z=>z) q⟩;obtain⟨A2,S2,u⟩:=S'.store b (qr8 hi D8 C H s I) r o;exact l.nx _ _ H' F' A2 q S2 (t.trans u)
abbrev Fs:=Ds->Ds->(Ds->Prop)->Prop
inductive qaQ4(c:Vc)(g:Fs)(vs:List V)(C:St)(H:Hp)(Q:St->Hp->Prop):Prop
 | mk (F:γ->Prop) (ds:Ds) (A T:List γ) (xs:Ds) (r:N3 F H vs xs T) (S:Ob c F H C ds A) (o:Ok F H (T++A)) (q:g xs ds (λ ds'=>∀ C' H' F' A',Ob c F' H' C' ds' A'->Oa F H (T++A) F' H' A'->Q C' H')):qaQ4 c g vs C H Q
def qaU5(c:Vc)(g:Fs):TGs:=qaQ4 c g
structure VGs(c:Vc)(X:Cx)(es:List Kl)(g:Fs):Prop where
 h:PGs X es (qaU5 c g)
 m:∀ xs ds (Q Q':Ds->Prop),(∀ ds',Q ds'->Q' ds')->g xs ds Q->g xs ds Q'
theorem PGs.mono{es:List Kl}{g g':TGs}(h:PGs X es g)(i:∀ v C H Q,g' v C H Q->g v C H Q):PGs X es g':=λ D8 s C H v u Q I r q=>h D8 s C H v u Q I r (i v C H Q q)
def Fh:Fs:=λ xs ds Q=>match xs with | []=>Q ds | _=>False
def qz5(g:VTG)(gs:Fs):Fs:=λ xs ds Q=>match xs with | x::r=>g x ds λ a=>gs r a Q | []=>False
theorem Ey:VGs c X [] Fh:=by
 refine⟨PGs.mono qaI2 λ f C H Q a=>?_,λ b d Q Q' e q=>by cases b with | nil=>exact e _ q | cons _ _=>exact q.elim⟩;obtain⟨F,d,A,T,b,r,S,o,q⟩:=a;cases b with
 | nil=>cases r;exact⟨rfl,q C H F A S Oa.refl⟩
 | cons _ _=>exact q.elim
theorem qp3{tg:Kl}{es:List Kl}{g:VTG}{gs:Fs}(h1:VG c X tg g)(h2:VGs c X es gs)(hs:(Ke (tg::es) X.env).map (·.2)=assign tg X.env::(Ke es X.env).map (·.2):=by rfl):VGs c X (tg::es) (qz5 g gs):=by
 refine⟨PGs.mono (qay2 h1.h h2.h hs) λ e C H Q ⟨F,l,A,T,d,r,S,o,q⟩=>?_,λ d l Q Q' p q=>by
   cases d with
   | nil=>exact q.elim
   | cons x r=>exact h1.m _ _ _ _ (λ s=>h2.m _ _ _ _ p) q⟩
 cases d with
 | nil=>exact q.elim
 | cons x d =>
   cases r with
   | @cons v _ T1 e _ T2 r1 rt =>
     refine⟨v,e,rfl,F,l,A,T1,x,r1,S,o.count λ b=>by simp only[zA0];lia,h1.m _ _ _ _ (λ f q σ1 H1 F1 A1 S1 n=>?_) q⟩;have i:Ok F H (T2++(T1++A)):=o.count λ b=>by simp only[zA0];lia
     obtain⟨t,u⟩:=n.frame i rt.cells S1.ok;have j:Ok F H (T1++A):=i.right;have k:N3 F1 H1 e d T2:=rt.keep (n.kp j λ b a=>by
       rcases zAj.mp a with a | a
       . exact r1.cells b a
       exact S.loc.cells b a) λ b a z=>by
       have:=i.sep b
       rw[zA0] at this
       have:=qb1.mp a
       lia
     exact⟨F1,f,A1,T2,d,k,S1,t,h2.m _ _ _ _ (λ w q σ2 H2 F2 A2 S2 y=>q σ2 H2 F2 A2 S2 ((u.pre λ b=>by simp only[zA0];lia).trans y)) q⟩
def F9(n:Nat)(gs:Fs):VTG:=λ d ds Q=>match d with | .q xs=>xs.length=n/\gs xs ds Q | _=>False
theorem Ez{es:List Kl}{k:Nat}{gs:Fs}(i:X.calm=true)(h:VGs c X es gs)(j:(Ke es X.env).length=n:=by rfl)(b:(Ke es X.env).findIdx? (·.1)=none:=by rfl):VG c X (.Tuple es k pos) (F9 n gs):=by
 refine⟨PG.mono (qaR7 i h.h j b) λ v C H Q ⟨F,e,A,T,d,r,S,o,q⟩=>?_,λ d e Q Q' l q=>by
   cases d with
   | q f=>exact⟨q.1,h.m _ _ _ _ l q.2⟩
   | _=>exact q.elim⟩
 cases d with
 | q f =>
   obtain⟨a,p,rfl,s,g⟩:=r.tup_inv;exact⟨a,p,rfl,.inl (.inl s),by rw[g.len];exact q.1,F,e,A,T,f,g,S,o,q.2⟩
 | _=>exact q.elim
end
section
variable{c:Vc}{F:γ->Prop}{H:Hp}{X:St}{ds:Ds}{A T:List γ}
theorem qI7{a:γ}{o o':HO}(h:H a=some o)(hm:Ea o=true)(c:¬ F a):Kp F H (λ b=>b=a) F (upd H a o') :=
 ⟨λ b u e w=>by rw[qc7 w];exact e,λ b w=>by subst w;exact⟨o,h,hm⟩,λ b w=>by subst w;exact c,λ _ f=>f⟩
theorem N3.setAt{ys:List D}{Ael Tv:List γ}{d:D}(r:N3 F H vs ys Ael)(s:n < ys.length)(e:N9 F H v d Tv):∃ B,N3 F H (vs.set n v) (ys.set n d) B/\∀ b,B.count b<=Ael.count b+Tv.count b:=by
 obtain⟨f,w,g,a,c,A1,B,A2,h,e2,j,k,m,o,t,p⟩:=r.split (i:=n) (d:=ys[n]) (by simp);have q:ys.set n d=a++d::c:=by
   have:=congrArg (λ l=>l.set n d) e2
   rw[this,qo2 k]
 rw[h,qo2 j,q];exact⟨A1++(Tv++A2),o.append (.cons e p),λ b=>by rw[m];simp only[zA0];lia⟩
theorem qab9{ys:List D}{B:List γ}(r:N9 F H v (.l false ys) B):∃ a vs Ael,v=.ref a/\H a=some (.l vs)/\N3 F H vs ys Ael/\B=a::Ael:=by
 cases r with
 | l h r=>exact⟨_,_,_,rfl,h,r,rfl⟩
theorem ql3{p:List Nat}{ys:List D}{u:V}(S:Ob c F H X ds A)(h:Bc ds i p=some (.l false ys))(J:(X++c.gv)[i]? = some (some u))(K:Walk H u p w) :
   ∃(a:γ)(vs:List V)(Ael:List γ),w=.ref a/\H a=some (.l vs)/\N3 F H vs ys Ael /\
   ∀(g:List V)(m:List D)(B' R T:List γ),Ok F H (T++A)->N3 F H g m B'->(∀ b,B'.count b+R.count b<=Ael.count b+T.count b) ->
     (∃ A',Ob c F (upd H a (.l g)) X (Be ds i p (.l false m)) A'/\Ok F (upd H a (.l g)) (R++A')/\Oa F H (T++A) F (upd H a (.l g)) (R++A'))/\∀ v d,N9 F H v d R->N9 F (upd H a (.l g)) v d R:=by
 obtain⟨B,C,r,L,M⟩:=S.place h (by intro z;cases z) J K;obtain⟨a,vs,Ael,rfl,y,N,rfl⟩:=qab9 r;refine⟨a,vs,Ael,rfl,y,N,λ g m B' R T q O E=>?_⟩;have n:∀ b,A.count b=(if b=a then 1 else 0)+Ael.count b+C.count b:=λ b=>by
   rw[L,zAu];by_cases j:b=a
   . subst j;simp;lia
   simp[j,Ne.symm j]
 have s:=n a;rw[if_pos rfl] at s;have sa:=q.sep a;rw[zA0] at sa;have P:=E a;have G:¬ F a:=λ f=>by have:=q.fro a f;rw[zA0] at this;lia
 have k:=qI7 (F:=F) (o':=.l g) y rfl G;have rep':N9 F (upd H a (.l g)) (.ref a) (.l false m) (a::B'):=.l qb8 (O.keep k λ b j w=>by subst w;have:=qb1.mp j;lia);obtain⟨A',Q,q2⟩:=M _ _ k (λ b j w=>by subst w;have:=qb1.mp j;lia) rep';have t:∀ b,A'.count b=(if b=a then 1 else 0)+B'.count b+C.count b:=λ b=>by
   rw[q2,zAu];by_cases j:b=a
   . subst j;simp;lia
   simp[j,Ne.symm j]
 have l:∀ b,(R++A').count b<=(T++A).count b:=λ b=>by rw[zA0,zA0,t,n];have:=E b;lia
 have U:∀ b,F b->∃ o,upd H a (.l g) b=some o:=λ b f=>by
   obtain⟨x,e⟩:=q.ex b f;exact⟨x,by rw[qc7 (show b≠a from λ w=>G (w ▸ f))];exact e⟩
 have I:Ok F (upd H a (.l g)) (R++A'):=⟨λ b=>zAm (l b) (q.sep b),λ b f=>by have:=q.fro b f;have:=l b;lia,U⟩
 refine⟨⟨A',⟨Q,I.right,S.len,S.ag⟩,I,λ b u e z=>?_,λ b u e z=>by have:=l b;lia,λ _ f=>f,λ _ _ _ _ f=>f⟩,λ v d W=>W.keep k λ b j w=>by subst w;have:=qb1.mp j;lia⟩;rw[qc7 λ w=>?_]
 . exact e
 subst w;have:=n b;rw[if_pos rfl] at this;rw[zA0] at z;lia
def Hs(r:V->List V->Hp->VK->Prop)(g:Ds->Ds->Option (Ds×D)):Prop:=∀ F H a vs ys Ael f xs T c d (Q:VK),H a=some (.l vs)->N3 F H vs ys Ael->N3 F H f xs T->g ys xs=some (c,d) ->
 (∀ e v B' R,N3 F H e c B'->N9 F H v d R->(∀ b,B'.count b+R.count b<=Ael.count b+T.count b)->Q v (upd H a (.l e)))->r (.ref a) f H Q
def Ht(ys xs:Ds):Option (Ds×D):=match xs with
 | [x]=>if ys.length < big then some (ys++[x],.non) else none
 | _=>none
theorem qM0:Hs qar1 Ht:=by
 intro F H a i c Ael m j T e d Q k r l h q
 match j,h with
 | [x],h =>
   obtain⟨w,rfl,f⟩:=l.one_inv;have h:(if c.length < big then some (c++[x],D.non) else none)=some (e,d):=h;by_cases g:c.length < big
   . rw[if_pos g] at h
     cases h;refine⟨a,i,w,rfl,rfl,k,by rw[r.len];exact zAp g qg8,?_⟩;exact q _ .non (Ael++(T++[])) [] (r.append (.cons f .nil)) .non λ b=>by simp[zA0]
   rw[if_neg g] at h;cases h
def gIns(ys xs:Ds):Option (Ds×D):=match xs with
 | [.int i,x]=>if 0<=i/\i < 1000000/\ys.length < big then some (ys.take i.toNat++x::ys.drop i.toNat,.non) else none
 | _=>none
theorem N3.cut{ys:Ds}{Ael:List γ}(r:N3 F H vs ys Ael)(n:Nat):∃ B C,N3 F H (vs.take n) (ys.take n) B/\N3 F H (vs.drop n) (ys.drop n) C/\∀ b,Ael.count b=B.count b+C.count b:=by
 induction n generalizing vs ys Ael with
 | zero=>exact⟨[],Ael,.nil,r,λ b=>by simp⟩
 | succ n a =>
   cases r with
   | nil=>exact⟨[],[],.nil,.nil,λ b=>by simp⟩
   | cons h t =>
     obtain⟨B,C,c,q2,d⟩:=a t;exact⟨_++B,C,.cons h c,q2,λ b=>by simp only[zA0,d];lia⟩
theorem qaT9:Hs qar0 gIns:=by
 intro F H a g c Ael t u T f d Q j r k h q;unfold gIns at h;split at h
 . rename_i i x
   obtain⟨v,l,T1,T2,rfl,m,n,o⟩:=k.two_inv;cases m;have h:(if 0<=i/\i < 1000000/\c.length < big then some (c.take i.toNat++x::c.drop i.toNat,D.non) else none)=some (f,d):=h;by_cases e:0<=i/\i < 1000000/\c.length < big
   . rw[if_pos e] at h
     cases h;obtain⟨B,C,p,q2,s⟩:=r.cut i.toNat;refine⟨a,g,l,i,rfl,rfl,j,e.1,by lia,by rw[r.len];exact zAp e.2.2 qg8,?_⟩;exact q _ .non (B++(T2++C)) [] (p.append (.cons n q2)) .non λ b=>by simp only[zA0,Lb];have:=s b;have:=o b;lia
   rw[if_neg e] at h;cases h
 cases h
end
section
variable{c:Vc}{X:Cx}{a b e o:Kl}{pf:PF}{tr:VTB}{es:List Kl}{r:V->List V->Hp->VK->Prop}{g:Ds->Ds->Option (Ds×D)}
noncomputable def D.own:D->Option Ds
 | .l false ys=>some ys
 | _=>none
theorem Iz{d:D}{ys:Ds}(h:d.own=some ys):d=.l false ys:=by
 cases d with
 | l z a=>cases z with
   | false=>cases h;rfl
   | true=>cases h
 | _=>cases h
def Fi(g:Ds->Ds->Option (Ds×D))(i:Nat)(tr:VTB):VT:=λ ds Q xe=>((rdN i ds).bind D.own).isSome=true/\tr ds (λ xs _ ds1=>orF ((rdN i ds1).bind D.own) λ ys=>orF (g ys xs) λ z=>Q z.2 (ds1.set i (.l false z.1))) xe
theorem qE7{ds:Ds}{d:D}(h:ds[i]? = some d):Bc ds i []=some d:=by unfold Bc;rw[h];rfl
theorem qB9{ds:Ds}{d x:D}(h:ds[i]? = some d):Be ds i [] x=ds.set i x:=by unfold Be;rw[h];rfl
theorem qaK5{T:String}(t:T = "list"){σ:St}{H:Hp}(hm:Hs r g)(u:VAs c X es tr)(hi:i < σ.length)(q:Bd c (Fi g i tr) σ H Q):tBM X.K T r (E9 i) (Ew c tr) σ H Q:=by
 subst t;obtain⟨F,y,A,B,S,x,C,q⟩:=q;obtain⟨D,b⟩:=zBc.mp C;obtain⟨d0,E,f⟩:=zA1.mp b;cases Iz f;obtain⟨v,B0,o,G,_⟩:=S.name hi E;obtain⟨a,h,A0,rfl,j,_,_⟩:=G.lst_inv;refine⟨.ref a,o,.inl ⟨rfl,h,.inl (.inl j)⟩,F,y,A,B,S,x,u.m _ _ _ _ _ (λ I ps J q L H1 F1 T A1 M pk S1 N O=>?_) (λ _ _ z=>z) q⟩;obtain⟨P,U,q⟩:=qa6.mp q;obtain⟨d1,e2,V⟩:=zA1.mp U;cases Iz V;obtain⟨⟨e,d⟩,W,q⟩:=qa6.mp q;obtain⟨s,hk⟩:=qm5.mp e2;have Y:(σ++c.gv)[i]? = some (some (.ref a)):=by rw[zB2 hi];exact o
 obtain⟨a2,k,Ael,Z,l,rs,wr⟩:=ql3 S1 (qE7 s) Y (p:=[]) (w:=.ref a) rfl;cases Z;refine hm F1 H1 a k P Ael L I T e d Q l rs M W λ n v B' R h1 h2 h3=>?_
 obtain⟨⟨A',S2,o2,s2⟩,kr⟩:=wr n e B' R T N h1 h3;rw[qB9 s] at S2;exact q v _ F1 R A' (kr v d h2) S2 o2 (O.trans s2)
theorem qal3(e:VAs c X es tr):∀ ds (Q Q':DK) (xe b:XKd),(∀ d a,Q d a->Q' d a)->(∀ x a,xe x a->b x a)->Fi g i tr ds Q xe->Fi g i tr ds Q' b :=
 λ ds Q Q' xe b f h=>Nb (e.m _ _ _ _ _ (λ k l j=>qa4 λ y=>qa4 λ z=>f _ _) h)
theorem N9.nW{F F':γ->Prop}{H H':Hp}{W:γ->Prop}{a:γ}{d0 e:D}{B:List γ}(r:N9 F H (.ref a) d0 B)(k:Kp F H W F' H')(d:∀ b∈B,¬ W b)(f:d0.kids[n]? = some e):¬ W a:=by
 cases r with
 | q c _ =>
   intro w;obtain⟨o,e,m⟩:=k.wm a w;rw[c] at e;cases e;cases m
 | l c _=>exact d _ zA7
 | dct c _ _=>exact d _ zA7
 | ins c _ _=>exact d _ zA7
 | _=>cases (show (none:Option D)=some _ from f)
theorem qah9{F F':γ->Prop}{H H':Hp}{W:γ->Prop}(k:Kp F H W F' H'):∀{p:List Nat}{f:V}{d0 d:D}{B:List γ}{w l:V},(∀ b∈B,¬ W b)->N9 F H f d0 B->d0.getP p=some d->Walk H f p w->Walk H' f p l->l=w:=by
 intro p
 induction p with
 | nil=>intro f d0 d B w l _ _ _ h o;cases h;cases o;rfl
 | cons n p z =>
   intro f d0 d B w l q r g h o;unfold D.getP at g;cases i:d0.kids[n]? with
   | none=>rw[i] at g;cases g
   | some e =>
     rw[i] at g;obtain⟨x,A,E⟩:=h;obtain⟨M,s,t⟩:=o;obtain⟨y,B1,C1,v,G,I,_⟩:=r.kid i;obtain⟨N,B1',C1',j,_,_,_⟩:=(r.keep k q).kid i;cases A.fn v;cases s.fn j;have u:Lnk H' f n x:=by
       obtain⟨a,rfl,J⟩:=v;have m:=r.nW k q i;exact⟨a,rfl,J.imp (λ ⟨c,e,h⟩=>⟨c,k.fr _ _ e m,h⟩) (N1 (λ ⟨c,e,h⟩=>⟨c,k.fr _ _ e m,h⟩) (N1 (λ ⟨c,e,h⟩=>⟨c,k.fr _ _ e m,h⟩) λ ⟨C,K,c,e,h⟩=>⟨C,K,c,k.fr _ _ e m,h⟩))⟩
     cases u.fn j;exact z (B:=B1) (λ b L=>q b (qb1.mpr (by have:=I b;have:=qb1.mp L;lia))) G g E t
def Fj(g:Ds->Ds->Option (Ds×D))(pf:PF)(tr:VTB):VT:=λ ds Q xe=>orF (pf ds) λ q=>orF ((Bc ds q.1 q.2).bind D.own) λ ys=>orF ds[q.1]? λ a=>tr (ds.set q.1 .u) (λ xs _ ds1=>orF (g ys xs) λ z=>Q z.2 (Be (ds1.set q.1 a) q.1 q.2 (.l false z.1))) xe
theorem qal2(e:VAs c X es tr):∀ ds (Q Q':DK) (xe b:XKd),(∀ d a,Q d a->Q' d a)->(∀ x a,xe x a->b x a)->Fj g pf tr ds Q xe->Fj g pf tr ds Q' b :=
 λ ds Q Q' xe b f h=>qa4 λ q=>qa4 λ j=>qa4 λ k=>e.m _ _ _ _ _ (λ l n i=>qa4 λ z=>f _ _) h
theorem qaK4(hm:Hs r g)(ha:VAs c X es tr):∀ σ H Q,Bd c (Fj g pf tr) σ H Q->tBM X.K "list" r (G9 c pf) (Ew c tr) σ H Q:=by
 rintro σ H Q ⟨F,Y,A,xe,S,x,q⟩;obtain⟨⟨i,p⟩,e1,q⟩:=qa6.mp q;obtain⟨n,e2,q⟩:=qa6.mp q;obtain⟨dl,h,e4⟩:=zA1.mp e2;cases Iz e4;obtain⟨I,l,q⟩:=qa6.mp q;refine⟨F,Y,A,i,p,_,S,e1,h,D.noConfusion,λ u w H1 s Z s0=>?_⟩;have S0:=S.same s0;obtain⟨a,L,Ael0,rfl,M,a0,_⟩:=ql3 S0 h s Z;refine⟨.inl ⟨rfl,L,.inl (.inl M)⟩,?_⟩;have N:I≠.u:=λ z=>by
   subst z;have j:=h;unfold Bc at j;rw[l] at j;cases (qae4 j).2
 obtain⟨u',B,C,h1,J,h3,h4⟩:=S0.put1 l N;rw[s] at h1;cases h1;obtain⟨A1,q1,q2⟩:=h4 .u [] (Kp.same (F:=F) λ _ _ z=>z) (λ _ _ z=>z) (.u u);have O:Ok F H1 (B++A1):=S0.ok.count λ b=>by rw[zA0,q2,h3];simp
 have s1:Oa F H A F H1 (B++A1):=⟨λ b o e _=>s0 b o e,λ b o e z=>by rw[zA0,q2];have:=h3 b;simp;lia,λ _ f=>f,λ _ _ _ _ f=>f⟩
 have S1:Ob c F H1 σ (Y.set i .u) A1:=⟨q1,O.right,S.len,S.ag⟩
 have P:Oa F H A F H1 A1:=s1.count λ b=>by rw[zA0];lia
 refine⟨F,_,A1,xe,S1,x.step P,ha.m _ _ _ _ _ (λ xs ps k q vs H2 F2 T2 A2 r2 pk S2 o2 s2=>?_) (λ _ _ z=>z) q⟩;obtain⟨⟨t,d⟩,e7,q⟩:=qa6.mp q;have kp:=s2.kp S1.ok S1.loc.cells;have hBout:∀ b∈B,¬ (A1.count b≠0):=λ b hb hc=>by
   have:=O.sep b
   rw[zA0] at this
   have:=qb1.mp hb
   lia
 have y:N9 F2 H2 u I B:=J.keep kp hBout;obtain⟨o3,s3⟩:=s2.frame O J.cells o2;obtain⟨A3,k1,k2⟩:=qB8 S2.loc s y;have E:∀ b,A3.count b<=B.count b+A2.count b:=k2;have o4:Ok F2 H2 (T2++A3):=o3.count λ b=>by simp only[zA0];have:=E b;lia
 have s4:Oa F H A F2 H2 (T2++A3):=(s1.trans s3).count λ b=>by simp only[zA0];have:=E b;lia
 have S3:Ob c F2 H2 σ (k.set i I) A3:=⟨k1,o4.right,S.len,S.ag⟩
 have G:i < k.length:=by rw[<- S2.loc.len];exact(zA5.mp s).1
 have e8:Bc (k.set i I) i p=some (.l false n):=by
   unfold Bc at h ⊢;rw[l] at h;rw[List.getElem?_set_self G];exact h
 have T:Walk H2 u p (.ref a):=by
   obtain⟨w',_,_,w1,_,_,_⟩:=J.path (p:=p) (d:=.l false n) (by unfold Bc at h;rw[l] at h;exact h);cases Z.fn w1;obtain⟨w2,_,_,w3,_,_,_⟩:=y.path (p:=p) (d:=.l false n) (by unfold Bc at h;rw[l] at h;exact h)
   have:w2=.ref a:=by
     refine qah9 (d:=.l false n) kp hBout J ?_ w1 w3;unfold Bc at h;rw[l] at h;exact h
   rw[<- this];exact w3
 obtain⟨a2,U,Ael,ea,V,rs,wr⟩:=ql3 S3 e8 s T;cases ea;refine hm F2 H2 a U n Ael vs xs T2 t d Q V rs r2 e7 λ W v B' R z1 z2 z3=>?_
 obtain⟨⟨A',S4,o5,s5⟩,kr⟩:=wr W t B' R T2 o4 z1 z3;exact q v _ F2 R A' (kr v d z2) S4 o5 (s4.trans s5)
end
section
variable{c:Vc}{X:Cx}{a b e o:Kl}{pos cpos apos:Pos}{pf:PF}{tr:VTB}{es:List Kl}{fb:FV}{ob:Bool}{r:V->List V->Hp->VK->Prop}{g:Ds->Ds->Option (Ds×D)}{name:Str}{id:String}
theorem Ga(i:Nat){x:Str}{p0:Pos}(k:Hs r g)(l:PlainAttrs "list")(slot:Slot "list" name id)(b:typeOf (.builtin id)=pure (.type "method_descriptor"))(hm:MtM X id r)(d:VAs c X (e::es) tr)(j:X.N[i]? = some x:=by rfl)(m:Vis X.env.scope x:=by first | exact N0 rfl | exact Nz (N0 rfl) | exact Nz (Nz rfl))(n:N' x:=by decide)(f:(x == ("__classdict__" : Str))=false:=by decide)(hbase:Jz (.Name x p0) name X.env (eval (.Name x p0) X.env)=eval (.Name x p0) X.env:=by rfl)(a:((backTo cpos (Js (e::es) X.env)).all (λ x=>!x.1)&&(backToKw cpos (J' [] X.env)).all (λ x=>x.1.isSome)
     && decide ((e::es).length+([]:List Keyword).length+(if ([]:List Keyword).isEmpty then 0 else 1) < 30))=true:=by rfl)(hline:(apos.endLine == cpos.line)=true:=by rfl)(hs:Js (e::es) X.env=(false,eval e X.env)::Js es X.env:=by rfl)(hplain:(backTo cpos (Js es X.env)).any (·.1)=false:=by rfl) :
   VE c X (.Call (.Attribute (.Name x p0) name apos) (e::es) [] cpos) (Fi g i tr) :=
 ⟨λ D8 s σ H Q I q=>Ig l slot b hm (qr2 j m n f) d.h hbase a hline hs hplain D8 s σ H Q I (qaK5 rfl k d (qr8 j D8 σ H s I) q),qal3 d⟩
theorem I8(f:Hs r g)(i:PlainAttrs "list")(slot:Slot "list" name id)(b:typeOf (.builtin id)=pure (.type "method_descriptor"))(hm:MtM X id r)(j:VP c X o pf)(d:VAs c X (e::es) tr)(hbase:Jz o name X.env (eval o X.env)=eval o X.env:=by rfl)(a:((backTo cpos (Js (e::es) X.env)).all (λ x=>!x.1)&&(backToKw cpos (J' [] X.env)).all (λ x=>x.1.isSome)
     && decide ((e::es).length+([]:List Keyword).length+(if ([]:List Keyword).isEmpty then 0 else 1) < 30))=true:=by rfl)(hline:(apos.endLine == cpos.line)=true:=by rfl)(hs:Js (e::es) X.env=(false,eval e X.env)::Js es X.env:=by rfl)(hplain:(backTo cpos (Js es X.env)).any (·.1)=false:=by rfl) :
   VE c X (.Call (.Attribute o name apos) (e::es) [] cpos) (Fj g pf tr) :=
 ⟨PE.mono (Ig i slot b hm j.h d.h hbase a hline hs hplain) (qaK4 f d),qal2 d⟩
def Ei(pf:PF)(fb:FV):VTG:=λ d ds Q=>orF (pf ds) λ q=>orF ((Bc ds q.1 q.2).bind D.own) λ ys=>orF ((fb ds).bind D.asI) λ k=>orF (ixN ys.length k) λ n=>Q (Be ds q.1 q.2 (.l false (ys.set n d)))
theorem Eb(y:VP c X o pf)(hi:VV c X b ob fb)(f:∀ v,assign (.Subscript o b pos) X.env v=(do
     let ov <- holding [v] (eval o X.env)
     let iv <- holding [v,ov] (eval b X.env)
     standAt pos
     holding [v,ov,iv] (setItem ov iv v)
     release [v,ov,iv] []):=by intro _;rfl):VG c X (.Subscript o b pos) (Ei pf fb):=by
 refine⟨PG.mono (qaR8 y.h hi.h qY6 f) λ v σ H Q g=>?_,λ d j Q Q' z=>qa4 λ _=>qa4 λ _=>qa4 λ _=>qa4 λ _=>z _⟩;obtain⟨F,j,A,T,d,r,S,B,q⟩:=g;obtain⟨⟨i,p⟩,C,q⟩:=qa6.mp q;obtain⟨E,e2,q⟩:=qa6.mp q;obtain⟨Y,l,G⟩:=zA1.mp e2;cases Iz G;obtain⟨k,I,q⟩:=qa6.mp q;obtain⟨J,K,L⟩:=zA1.mp I;obtain⟨n,m,q⟩:=qa6.mp q;refine⟨F,j,A,i,p,_,S,C,l,D.noConfusion,λ u w H1 M N s=>⟨F,j,A,J,S.same s,K,λ Z H2 B2 O t _=>?_⟩⟩;have e:=s.trans t;have S2:=S.same e;cases O.asI L;obtain⟨a,P,Ael,rfl,f,x,wr⟩:=ql3 S2 l M (N.same t);have R:n < E.length:=(qQ0 m).2.1;obtain⟨B',U,V⟩:=x.setAt R (r.same e);obtain⟨⟨A',S3,o3,W⟩,_⟩:=wr _ _ B' [] T (B.same e) U λ b=>by have:=V b;simp;lia
 exact⟨a,P,k,n,rfl,rfl,f,by rw[x.len];exact m,q σ _ F A' S3 ((Oa.same e).trans W)⟩
def sAugV(f:Int->Int->Int)(pf:PF)(fb a:FV):VTS:=λ e ds=>orF (pf ds) λ q=>orF ((Bc ds q.1 q.2).bind D.own) λ ys=>orF ((fb ds).bind D.asI) λ k=>0<=k/\orF ((ys[k.toNat]?).bind D.asI) λ x=>orF ((a ds).bind D.asI) λ y=>e.nx (Be ds q.1 q.2 (.l false (ys.set k.toNat (.int (f x y)))))
theorem saug{op:Operator}{f:Int->Int->Int}{N:FV}{V:Bool}(W:VP c X o pf)(hi:VV c X b ob fb)(Y:VV c X e V N)(Z:PIp X op (ipI f))(ha:∀ n r d,augStore b n r d=(do holding [d,n,r] (setItem n r d);release [d,n,r] [];pure .next):=by intros;rfl):VS c X (.AugAssign (.Subscript o b tpos) op e pos) (sAugV f pf fb N):=by
 refine⟨PS.mono (qaH8 W.h hi.h qaB7 Y.h Z qY6 ha) λ E σ H t=>?_,λ en a0 s hl=>qa4 λ _=>qa4 λ _=>qa4 λ _=>Nb (qa4 λ _=>qa4 λ _=>hl.nx _)⟩;obtain⟨F,s,A,en,S,l,q⟩:=t;obtain⟨⟨i,p⟩,e1,q⟩:=qa6.mp q;obtain⟨ys,e2,q⟩:=qa6.mp q;obtain⟨dl,v,e4⟩:=zA1.mp e2;cases Iz e4;obtain⟨k,e5,O,q⟩:=qa6.mp q;obtain⟨dk,e6,e7⟩:=zA1.mp e5;obtain⟨x,e8,q⟩:=qa6.mp q;obtain⟨dx,P,z⟩:=zA1.mp e8;obtain⟨y,B,q⟩:=qa6.mp q;obtain⟨dy,C,G⟩:=zA1.mp B;refine⟨F,s,A,i,p,_,S,e1,v,D.noConfusion,λ u w H1 Q R T=>⟨F,s,A,dk,S.same T,e6,λ vk H2 B2 r2 I _=>?_⟩⟩;have g:=T.trans I;cases r2.asI e7;obtain⟨a,vs,Ael,rfl,J,K,_⟩:=ql3 (S.same g) v Q (R.same I);obtain⟨vx,Bx,hx,rx,_⟩:=K.get P;cases rx.asI z;refine⟨a,vs,k,_,rfl,rfl,J,O,hx,F,s,A,dy,S.same g,C,λ vy H3 B3 r3 U _=>?_⟩;cases r3.asI G;have j:=g.trans U;have S3:=S.same j;obtain⟨a',L,Ael',ea,M,m,wr⟩:=ql3 S3 v Q ((R.same I).same U);cases ea;have hn:k.toNat < ys.length:=(zA5.mp P).1;obtain⟨B',r4,h4⟩:=m.setAt hn (.int (f x y));obtain⟨⟨A',S4,o4,s4⟩,_⟩:=wr _ _ B' [] [] S3.ok r4 λ b=>by have:=h4 b;simpa using this
 refine⟨x,y,rfl,rfl,a,L,k,k.toNat,rfl,rfl,M,?_,l.nx _ σ _ F A' q S4 ((Oa.same j).trans s4)⟩;rw[m.len];unfold ixN;rw[if_pos O,if_pos (by lia)]
noncomputable def E2(f:Str)(d:D):List (Str×D)->List (Str×D)
 | []=>[(f,d)]
 | (g,x)::r=>if g=f then (g,d)::r else (g,x)::E2 f d r
end
section
variable{c:Vc}{X:Cx}{F:γ->Prop}{H:Hp}{W:St}{ds:Ds}{A T:List γ}{a b e o:Kl}{pos cpos apos:Pos}{te:VT}{pf:PF}{fa fb:FV}{oa ob:Bool}
theorem qP1:∀{a:List (Str×V)}{c:List (Str×D)}{B Tv:List γ}{f:Str}{v:V}{d:D},a.map (·.1)=c.map (·.1)->N3 F H (a.map (·.2)) (c.map (·.2)) B->N9 F H v d Tv->(By f v a).map (·.1)=(E2 f d c).map (·.1)/\∃ B',N3 F H ((By f v a).map (·.2)) ((E2 f d c).map (·.2)) B'/\∀ b,B'.count b<=B.count b+Tv.count b
 | [],[],B,Tv,f,v,d,_,r,rv=>⟨rfl,Tv++[],.cons rv .nil,λ b=>by simp⟩
 | [],_::_,_,_,_,_,_,h,_,_=>by simp at h
 | _::_,[],_,_,_,_,_,h,_,_=>by simp at h
 | (k,w)::r,(k',x)::r',B,Tv,f,v,d,h,rs,rv=>by
   have i:k=k':=by simp at h;exact h.1
   have e:r.map (·.1)=r'.map (·.1):=by simp at h;simpa using h.2
   subst i;cases rs with
   | @cons _ _ B1 _ _ B2 q t =>
     by_cases g:k=f
     . simp only[By,E2,if_pos g,zAo,e,true_and]
       exact⟨Tv++B2,.cons rv t,λ b=>by simp only[zA0];lia⟩
     obtain⟨j,B',l,m⟩:=qP1 (f:=f) e t rv;simp only[By,E2,if_neg g,zAo,j,true_and];exact⟨B1++B',.cons q l,λ b=>by simp only[zA0];have:=m b;lia⟩
def D.ownI(C:γ):D->Option (List (Str×D))
 | .ins false C' fs=>if C'=C then some fs else none
 | _=>none
theorem qaJ4{d:D}{C:γ}{fs:List (Str×D)}(h:d.ownI C=some fs):d=.ins false C fs:=by
 cases d with
 | ins z C' b=>cases z with
   | false =>
     have h:(if C'=C then some b else none)=some fs:=h;by_cases a:C'=C
     . rw[if_pos a] at h;cases h;rw[a]
     rw[if_neg a] at h;cases h
   | true=>cases h
 | _=>cases h
theorem qaJ3{p:List Nat}{C:γ}{l:List (Str×D)}{u:V}(S:Ob c F H W ds A)(h:Bc ds i p=some (.ins false C l))(E:(W++c.gv)[i]? = some (some u))(G:Walk H u p w) :
   ∃(a dx:γ)(d:List (Str×V))(Ael:List γ),w=.ref a/\H a=some (.ins C dx d)/\d.map (·.1)=l.map (·.1)/\N3 F H (d.map (·.2)) (l.map (·.2)) Ael /\
   ∀(fvs':List (Str×V))(fds':List (Str×D))(B' T:List γ),Ok F H (T++A)->fvs'.map (·.1)=fds'.map (·.1)->N3 F H (fvs'.map (·.2)) (fds'.map (·.2)) B'->(∀ b,B'.count b<=Ael.count b+T.count b) ->
     ∃ A',Ob c F (upd H a (.ins C dx fvs')) W (Be ds i p (.ins false C fds')) A'/\Oa F H (T++A) F (upd H a (.ins C dx fvs')) A':=by
 obtain⟨B,C0,r,I,J⟩:=S.place h D.noConfusion E G;cases r with
 | @ins a _ dx d _ Ael ha hk rs =>
 refine⟨a,dx,d,Ael,rfl,ha,hk,rs,λ fvs' fds' B' T n q K v=>?_⟩;have m:∀ b,A.count b=(if b=a then 1 else 0)+Ael.count b+C0.count b:=λ b=>by
   rw[I,zAu];by_cases g:b=a
   . subst g;simp;lia
   simp[g,Ne.symm g]
 have s:=m a;rw[if_pos rfl] at s;have sa:=n.sep a;rw[zA0] at sa;have L:=v a;have y:¬ F a:=λ f=>by have:=n.fro a f;rw[zA0] at this;lia
 have k:=qI7 (F:=F) (o':=.ins C dx fvs') ha rfl y;have rep':N9 F (upd H a (.ins C dx fvs')) (.ref a) (.ins false C fds') (a::B'):=.ins qb8 q (K.keep k λ b g w=>by subst w;have:=qb1.mp g;lia);obtain⟨A',M,q2⟩:=J _ _ k (λ b g w=>by subst w;have:=qb1.mp g;lia) rep';have t:∀ b,A'.count b=(if b=a then 1 else 0)+B'.count b+C0.count b:=λ b=>by
   rw[q2,zAu];by_cases g:b=a
   . subst g;simp;lia
   simp[g,Ne.symm g]
 have j:∀ b,A'.count b<=(T++A).count b:=λ b=>by rw[zA0,t,m];have:=v b;lia
 have N:∀ b,F b->∃ o,upd H a (.ins C dx fvs') b=some o:=λ b f=>by
   obtain⟨x,e⟩:=n.ex b f;exact⟨x,by rw[qc7 (show b≠a from λ w=>y (w ▸ f))];exact e⟩
 refine⟨A',⟨M,⟨λ b=>zAm (j b) (n.sep b),λ b f=>by have:=n.fro b f;have:=j b;lia,N⟩,S.len,S.ag⟩,λ b u e z=>?_,λ b u e z=>by have:=j b;lia,λ _ f=>f,λ _ _ _ _ f=>f⟩;rw[qc7 λ w=>?_]
 . exact e
 subst w;have:=m b;rw[if_pos rfl] at this;rw[zA0] at z;lia
def sFldV(C:γ)(f:Str)(te:VT)(pf:PF):VTS:=λ e ds=>te ds (λ d ds1=>orF (pf ds1) λ q=>orF ((Bc ds1 q.1 q.2).bind (D.ownI C)) λ fs=>fs.length < 100/\e.nx (Be ds1 q.1 q.2 (.ins false C (E2 f d fs)))) e.xe
theorem Gq{C:γ}{f:Str}{K:Nf}{pos':Pos}(G:X.K=K)(I:VP c X o pf)(k:VE c X e te)(J:Cls K C)(L:qf4 K C f)(hs:swapsWith e (some (.Attribute o f pos')) pos.line X.env=pure false:=by rfl):VS c X (.Assign [.Attribute o f pos'] e pos) (sFldV C f te pf):=by
 subst G;refine⟨PS.mono (qaR4 I.h k.h hs) λ E W H n=>?_,λ s M t r=>k.m _ _ _ _ _ (λ d b=>qa4 λ _=>qa4 λ _=>Nb (r.nx _)) r.xe⟩;obtain⟨F,t,A,s,S,l,q⟩:=n;refine⟨F,t,A,s.xe,S,l.xe,k.m _ _ _ _ _ (λ d b q v H1 F1 T A1 N S1 O P=>?_) (λ _ _ z=>z) q⟩;obtain⟨⟨i,p⟩,Q,q⟩:=qa6.mp q;obtain⟨R,e2,r,q⟩:=qa6.mp q;obtain⟨dl,x,U⟩:=zA1.mp e2;cases qaJ4 U;refine⟨F1,b,A1,i,p,_,S1,Q,x,D.noConfusion,λ u w H2 V Y j=>?_⟩;have S2:=S1.same j;obtain⟨a,Z,g,Ael,rfl,ha,y,rs,wr⟩:=qaJ3 S2 x V Y;have B:g.length=R.length:=by have:=congrArg K9 y;simpa using this
 refine⟨a,C,Z,g,rfl,ha,J,L,by lia,?_⟩;obtain⟨m1,B',m2,m3⟩:=qP1 (f:=f) y rs (N.same j);obtain⟨A',S3,s3⟩:=wr _ _ B' T (O.same j) m1 m2 m3;exact l.nx _ W _ F1 A' q S3 (P.trans ((Oa.same j).trans s3))
def Gb(x:V):List V->Option Nat
 | []=>none
 | y::r=>if eqV y x=true then some 0 else (Gb x r).map (· + 1)
theorem qat2{x:V}:∀{xs:List V}{j:Nat},Gb x xs=some j->∃ z,xs[j]? = some z/\eqV z x=true/\∀ m z',m < j->xs[m]? = some z'->eqV z' x=false
 | [],j,h=>by cases h
 | y::r,j,h=>by
   unfold Gb at h;by_cases a:eqV y x=true
   . rw[if_pos a] at h;cases h
     exact⟨y,rfl,a,λ m z' c=>by lia⟩
   rw[if_neg a] at h;obtain⟨k,d,rfl⟩:=zAa.mp h;obtain⟨z,e,f,g⟩:=qat2 d;refine⟨z,by simpa using e,f,λ m z' c b=>?_⟩;cases m with
   | zero =>
     have:y=z':=by simpa using b
     subst this;simpa using a
   | succ m=>exact g m z' (by lia) (by simpa using b)
def gIdx(x y:D):Option D:=match x with
 | .l _ ys=>y.flat.bind λ v=>(flats ys).bind λ a=>(Gb v a).map λ j=>.int (j:Nat)
 | _=>none
def rL1(r:V->List V->Hp->VK->Prop):R2:=λ x y H Q=>r x [y] H Q
theorem qaS7:Bb true (rL1 qaG9) gIdx:=by
 intro F H v w x y B d Q r h q;cases r with | @cons _ _ A _ _ _ b t=>cases t with | @cons _ _ A2 _ _ _ c _ =>
 cases x with
 | l z s =>
   obtain⟨u,e,h⟩:=zA1.mp h;obtain⟨C,i,h⟩:=zA1.mp h;obtain⟨j,k,rfl⟩:=zAa.mp h;obtain⟨rfl,f⟩:=c.flat e;obtain⟨a,l,A3,rfl,m,n,_⟩:=b.lst_inv;obtain⟨rfl,g⟩:=n.flats i;obtain⟨z,o,q2,p⟩:=qat2 k;exact⟨a,l,w,j,z,rfl,rfl,m,f,g,o,q2,p,q _ H [] (.int _) (λ _ _ z=>z) New.nil⟩
 | _=>cases h
theorem vbm{r:V->List V->Hp->VK->Prop}{g:D->D->Option D}{name:Str}{id:String}(B:Bb true (rL1 r) g)(C:PlainAttrs "list")(slot:Slot "list" name id)(i:typeOf (.builtin id)=pure (.type "method_descriptor"))(hm:MtM X id r)(E:VV c X o oa fa)(G:VV c X b ob fb)(I:∀ x y d,g x y=some d->∃ z ys,x=.l z ys)(hbase:Jz o name X.env (eval o X.env)=eval o X.env:=by rfl)(f:((backTo cpos (Js [b] X.env)).all (λ x=>!x.1)&&(backToKw cpos (J' [] X.env)).all (λ x=>x.1.isSome)
     && decide (([b]:List Kl).length+([]:List Keyword).length+(if ([]:List Keyword).isEmpty then 0 else 1) < 30))=true:=by rfl)(hline:(apos.endLine == cpos.line)=true:=by rfl)(hs:Js [b] X.env=(false,eval b X.env)::Js [] X.env:=by rfl)(hplain:(backTo cpos (Js [] X.env)).any (·.1)=false:=by rfl) :
   VV c X (.Call (.Attribute o name apos) [b] [] cpos) true (f2 g fa fb):=by
 refine⟨PE.mono (Ig C slot i hm E.h (qg5 G.h qy7 hs) hbase f hline hs hplain) λ W H Q j=>?_⟩;obtain⟨F,n,A,d,S,e,q⟩:=j;obtain⟨x,y,J,K,p⟩:=qaC5.mp e;obtain⟨z,ys,rfl⟩:=I x y d p;refine⟨F,n,A,_,S,J,λ v H1 B1 s k P=>?_⟩;obtain⟨a,L,A3,rfl,l,R,_⟩:=s.lst_inv;refine⟨.inl ⟨rfl,L,.inl (.inl l)⟩,F,n,A,y,S.same k,K,λ w H2 B2 M m T=>?_⟩;exact B F H2 _ w _ y _ d Q (Fp (s.same m) M) p λ u H3 B3 N O t=>q u H3 B3 N ((k.trans m).trans O) λ _=>⟨t.one,λ b o e=>t.new b o (m b o (k b o e))⟩
theorem qaN2:∀ x y d,gIdx x y=some d->∃ z ys,x=.l z ys:=λ x y d h=>by cases x with | l z ys=>exact⟨z,ys,rfl⟩ | _=>cases h
end
def Dm(g:VTG)(t:VTS)(e:VEnds):List D->Ds->Prop
 | [],ds=>e.nx ds
 | x::xs,ds=>g x ds λ ds1=>t { e with nx:=Dm g t e xs,ct:=Dm g t e xs,bk:=e.nx } ds1
def whN(qc:VTT)(t:VTS)(e:VEnds):Nat->Ds->Prop
 | 0,_=>False
 | n+1,ds=>qc ds (λ b ds1=>if b=true then t { e with nx:=whN qc t e n,ct:=whN qc t e n,bk:=e.nx } ds1 else e.nx ds1) e.xe
def qaG5(qc:VTT)(t:VTS):VTS:=λ e ds=>∃ n,whN qc t e n ds
section
variable{c:Vc}{X:Cx}{a b e tg:Kl}{body:List Km}{g:VTG}{t:VTS}{te:VT}{qc:VTT}{pos:Pos}
theorem qp4(d:VG c X tg g)(e:VSs c X body t){en b:VEnds}(a:en.Le b):∀(xs:List D) ds,Dm g t en xs ds->Dm g t b xs ds
 | [],ds=>a.nx ds
 | x::xs,ds=>d.m _ _ _ _ λ f=>e.m _ _ _ ⟨qp4 d e a xs,a.rt,a.nx,qp4 d e a xs,a.xe⟩
theorem qI9{cd:Kl}(e:VTe c X cd qc)(f:VSs c X body t){en d:VEnds}(a:en.Le d):∀(n:Nat) ds,whN qc t en n ds->whN qc t d n ds
 | 0,ds=>id
 | n+1,ds=>e.m _ _ _ _ _ (λ b g=>qH0 (f.m _ _ _ ⟨qI9 e f a n,a.rt,a.nx,qI9 e f a n,a.xe⟩) (a.nx _)) a.xe
theorem qX5(r:PassesOwn (Kh X.prog X.w) X.A X.env X.xe)(g:VTe c X cd qc)(o:VSs c X body t):VS c X (.While cd body [] pos) (qaG5 qc t):=by
 refine⟨PS.mono (qax5 r g.h o.h) λ E σ H i=>?_,λ d s e u ⟨n,q⟩=>⟨n,qI9 g o u n e q⟩⟩;obtain⟨F,e,A,d,S,l,n,q⟩:=i;refine⟨λ m σ H=>∃ F e A,Ob c F H σ e A/\Lk c E F H A d/\whN qc t d m e,⟨n,F,e,A,S,l,q⟩,?_⟩;rintro m σ H ⟨F,e,A,S,l,q⟩;cases m with
 | zero=>exact q.elim
 | succ m =>
   refine⟨F,e,A,d.xe,S,l.xe,g.m _ _ _ _ _ (λ b j q H1 F1 A1 S1 p=>?_) (λ _ _ z=>z) q⟩;cases b with
   | false=>rw[if_neg (by decide)] at q ⊢;exact l.nx _ _ _ _ _ q S1 p
   | true =>
     rw[if_pos rfl] at q ⊢;have f:=l.step p;refine⟨λ σ' H'=>∃ F' a A',Ob c F' H' σ' a A'/\Lk c E F' H' A' d/\whN qc t d m a,λ σ' H' h=>⟨m,by lia,h⟩,F1,j,A1,{ d with nx:=whN qc t d m,ct:=whN qc t d m,bk:=d.nx },S1,⟨?_,f.rt,f.nx,?_,f.xe⟩,q⟩
     . exact λ a σ' H' F' A' q S' k=>⟨F',a,A',S',f.step k,q⟩
     exact λ a σ' H' F' A' q S' k=>⟨F',a,A',S',f.step k,q⟩
theorem qW7{E:D9}{en:VEnds}{F:γ->Prop}{H:Hp}{σ:St}{ds:Ds}{A:List γ}{x:V}{y:D}{N:St->Hp->Prop}{b:Ds->Prop}(i:VG c X tg g)(S:Ob c F H σ ds A)(l:Lk c E F H A en)(r:N9 F H x y [])(h:∀ a σ' H' F' A',b a->Ob c F' H' σ' a A'->Oa F H A F' H' A'->N σ' H')(q:g y ds λ ds1=>t { en with nx:=b,ct:=b,bk:=en.nx } ds1) :
   Fg c g x σ H λ σ2 H2=>Ex c t { E with nx:=N,ct:=N,bk:=E.nx } σ2 H2:=by
 refine⟨F,ds,A,[],y,r,S,S.ok,i.m _ _ _ _ (λ ds1 q σ1 H1 F1 A1 S1 d=>?_) q⟩;have e:=l.step d;exact⟨F1,ds1,A1,{ en with nx:=b,ct:=b,bk:=en.nx },S1,⟨λ a σ' H' F' A' q S' f=>h a σ' H' F' A' q S' (Oa.trans d f),e.rt,e.nx,λ a σ' H' F' A' q S' f=>h a σ' H' F' A' q S' (Oa.trans d f),e.xe⟩,q⟩
noncomputable def D.lstOf:D->Option Ds
 | .l _ ys=>some ys
 | _=>none
theorem qr9{d:D}{ys:Ds}(h:d.lstOf=some ys):∃ z,d=.l z ys:=by
 cases d with
 | l z a=>cases h;exact⟨z,rfl⟩
 | _=>cases h
theorem qs1:∀{ys:List D}{i:Nat}{y:D},D.imms ys=true->ys[i]? = some y->y.imm=true
 | [],i,y,_,h=>by simp at h
 | d::r,0,y,hm,h=>by
   have:d=y:=by simpa using h
   subst this;exact(zAn.mp hm).1
 | d::r,i+1,y,hm,h=>qs1 (zAn.mp hm).2 (by simpa using h)
theorem ql4{xs:List α}{x:α}(h:xs[i]? = some x):xs.drop i=x::xs.drop (i+1):=by
 obtain⟨a,rfl⟩:=zA5.mp h;exact zCe a
def sForL(te:VT)(g:VTG)(t:VTS):VTS:=λ e ds=>te ds (λ d ds1=>orF d.lstOf λ ys=>D.imms ys=true/\Dm g t e ys ds1) e.xe
theorem I9(hp:PassesOwn (Kh X.prog X.w) X.A X.env X.xe)(hi:VE c X e te)(G:VG c X tg g)(Q:VSs c X body t)(R:X.calm=true:=by rfl)(I:∀ v,Jv e X.env v=pure v:=by intro _;rfl):VS c X (.For tg e body [] pos) (sForL te g t):=by
 refine⟨PS.mono (qax6 hp R (qv9 hi.h) G.h Q.h I) λ E σ H J=>?_,λ s a0 k U=>hi.m _ _ _ _ _ (λ d n=>qa4 λ u=>Nb (qp4 G Q U u n)) U.xe⟩;obtain⟨F,k,A,s,S,l,q⟩:=J;refine⟨F,k,A,s.xe,S,l.xe,hi.m _ _ _ _ _ (λ d n q v H1 F1 T A1 V S1 o1 s1=>?_) (λ _ _ z=>z) q⟩;obtain⟨u,ey,hm,qf⟩:=qa6.mp q;obtain⟨z,rfl⟩:=qr9 ey;obtain⟨a,C,Ael,rfl,j,rs,_⟩:=V.lst_inv;have L:Oa F H A F1 H1 A1:=s1.count λ b=>by rw[zA0];lia
 refine⟨a,rfl,⟨C,.inl (.inl j)⟩,qae6 (K:=X.K) (a:=a) (xs:=C) (λ i σ H=>∃ F k A,Ob c F H σ k A/\Lk c E F H A s/\N9 F H (.ref a) (.l z u) T/\H a=some (.l C)/\Ok F H (T++A)/\Dm g t s (u.drop i) k) ⟨F1,n,A1,S1,l.step L,V,j,o1,qf⟩ ?_ ?_ ?_⟩
 . rintro i σ H _ ⟨F,k,A,S,l,r,j,o,q⟩
   exact .inl (.inl j)
 . rintro i x σ H hx ⟨F,k,A,S,l,r,j,o,q⟩
   obtain⟨a',a1,Ael',ea,p,M,_⟩:=r.lst_inv;cases ea;rw[j] at p;cases p;obtain⟨y,B,W,Y⟩:=M.getV hx
   have:=Y.imm (qs1 hm W)
   subst this;rw[ql4 W] at q;refine qW7 G S l Y (λ N σ' H' F' A' q' S' O=>?_) q;have D:=O.kp S.ok S.loc.cells;have Z:∀ b∈T,¬ (A.count b≠0):=λ b hb R=>by
     have:=o.sep b
     rw[zA0] at this
     have:=qb1.mp hb
     lia
   have r':=r.keep D Z;obtain⟨o',_⟩:=O.frame o r.cells S'.ok;have P:H' a=some (.l C):=by
     cases r with
     | l h _=>exact D.fr _ _ j (Z _ zA7)
     | lstZ h f _=>exact D.fr _ _ j λ w=>D.wf _ w f
   exact⟨F',N,A',S',l.step O,r',P,o',q'⟩
 rintro σ H ⟨F,k,A,S,l,r,j,o,q⟩;rw[rs.len,Lg] at q;exact l.nx _ _ _ _ _ q S Oa.refl
noncomputable def Bj(lo:Int)(n:Nat):List D:=(Kz n).map λ(i:Nat)=>.int (lo+(i:Int))
theorem qZ6(h:i < n):(Bj lo n)[i]? = some (.int (lo+(i:Int))):=by
 unfold Bj;rw[zAy,List.getElem?_range h];rfl
theorem qaq9(lo:Int)(n:Nat):(Bj lo n).length=n:=by simp[Bj]
noncomputable def Ft(i:Int):Bool:=decide (-(2 ^ 62)<=i)&&decide (i < 2 ^ 62)
theorem qab2{i:Int}(h:Ft i=true):-(2 ^ 62)<=i/\i < 2 ^ 62:=by
 have:=zAn.mp h
 exact⟨zAc this.1,zAc this.2⟩
theorem qaO0{E:D9}{en:VEnds}{F:γ->Prop}{H:Hp}{σ:St}{ds:Ds}{A:List γ}(d:VG c X tg g)(S:Ob c F H σ ds A)(l:Lk c E F H A en)(q:Dm g t en (Bj lo n) ds) :
   ∃ W:Nat->Nat->St->Hp->Prop,(∃ m,W 0 m σ H)/\∀ i m σ H,W i m σ H ->
     ((Itr lo n).stop i H/\E.nx σ H)∨((Itr lo n).go i H/\∃ N:St->Hp->Prop,(∀ σ' H',N σ' H'->∃ b,b < m/\W (i+1) b σ' H')/\∀ x H',(Itr lo n).yld i H x H'->Fg c g x σ H' λ σ2 H2=>Ex c t { E with nx:=N,ct:=N,bk:=E.nx } σ2 H2):=by
 refine qan1 (λ i σ H=>∃ F ds A,Ob c F H σ ds A/\Lk c E F H A en/\Dm g t en ((Bj lo n).drop i) ds) ⟨F,ds,A,S,l,q⟩ ?_ ?_
 . rintro i σ H e ⟨F,ds,A,S,l,q⟩
   rw[ql4 (qZ6 e)] at q;exact qW7 d S l (.int _) (λ a σ' H' F' A' f S' h=>⟨F',a,A',S',l.step h,f⟩) q
 rintro σ H ⟨F,ds,A,S,l,q⟩;rw[K5 (by rw[qaq9];exact zA4 _)] at q;exact l.nx _ _ _ _ _ q S Oa.refl
noncomputable def Ja:Ds->Option Int
 | [.int j]=>some j
 | _=>none
theorem qas3{xs:Ds}{j:Int}(h:Ja xs=some j):xs=[.int j]:=by
 unfold Ja at h;split at h
 . cases h;rfl
 cases h
def qaj4(tr:VTA)(g:VTG)(t:VTS):VTS:=λ e ds=>tr ds (λ xs ds1=>orF (Ja xs) λ j=>Ft j=true/\Dm g t e (Bj 0 j.toNat) ds1) e.xe
theorem qU2{tr:VTA}{p cpos:Pos}(s:PassesOwn (Kh X.prog X.w) X.A X.env X.xe)(hm:X.mg "range" = none)(d:VOs c X [a] tr)(e:VG c X tg g)(k:VSs c X body t)(f:Gl X "range" := by rfl)(hs:Js [a] X.env=[(false,eval a X.env)]:=by rfl)(u:X.calm=true:=by rfl) :
   VS c X (.For tg (.Call (.Name "range" p) [a] [] cpos) body [] pos) (qaj4 tr g t):=by
 refine⟨PS.mono (qax6 s u (qD3 f hm d.h hs) e.h k.h) λ E σ H i=>?_,λ n x o r=>d.m _ _ _ _ _ (λ y b=>qa4 λ j=>Nb (qp4 e k r _ b)) r.xe⟩;obtain⟨F,o,A,n,S,l,q⟩:=i;refine⟨F,o,A,n.xe,S,l.xe,d.m _ _ _ _ _ (λ y b q J H1 F1 T A1 B S1 C=>?_) (λ _ _ z=>z) q⟩;obtain⟨j,D,hm,G⟩:=qa6.mp q;cases qas3 D;obtain⟨v,rfl,I⟩:=B.one_inv;cases I
 have:=qab2 hm
 exact⟨j,rfl,this.1,this.2,qaO0 e S1 (l.step C) G⟩
def tFzV(te:VT):VT:=λ ds Q xe=>te ds (λ d ds1=>Q d.fz ds1) xe
theorem efzV(h:VE c X e te):VE c X e (tFzV te):=by
 refine⟨PE.mono h.h λ σ H Q a=>?_,λ i Q Q' j n o p=>h.m _ _ _ _ _ (λ d g=>o _ _) p⟩;obtain⟨F,i,A,j,S,x,q⟩:=a;refine⟨F,i,A,j,S,x,h.m _ _ _ _ _ (λ d g q v H1 F1 T A1 k S1 r s=>?_) (λ _ _ z=>z) q⟩;have t:=k.fz (F':=λ b=>F1 b∨b∈T) (λ b f=>.inl f) λ b u=>.inr u
 obtain⟨l,w⟩:=share (A:=T++A1) (B:=T) (C:=A1) r (λ b=>by rw[zA0]) k.cells (A':=A1) (λ b=>rfl);have L:=S1.loc.keep (Kp.more (H:=H1) λ b f=>N0 (b:=b∈T) f) λ _ _ z=>z
 exact q v H1 _ [] A1 t ⟨L,l,S1.len,S1.ag⟩ l (s.trans w)
end
def bk1(i:Nat)(p:List Nat)(w:V)(d0:D)(ds:Ds):Option Ds:=As [.pl i p w] [d0] ds
def Hb(i:Nat)(p:List Nat)(w:V)(d0:D)(e:VEnds):VEnds where
 nx ds:=orF (bk1 i p w d0 ds) e.nx
 rt d ds:=orF (bk1 i p w d0 ds) (e.rt d)
 bk ds:=orF (bk1 i p w d0 ds) e.bk
 ct ds:=orF (bk1 i p w d0 ds) e.ct
 xe x ds:=orF (bk1 i p w d0 ds) (e.xe x)
section
variable{c:Vc}{X:Cx}{a b e tg o:Kl}{body:List Km}{g:VTG}{t:VTS}{pos:Pos}{pf:PF}{F F1:γ->Prop}{H H1:Hp}{σ:St}{ds ds1:Ds}{A A1 B:List γ}{E:D9}{en:VEnds}
theorem qp1{p:List Nat}{d0:D}{F':γ->Prop}{H':Hp}{a d:Ds}{A':List γ}(f:Ok F1 H1 (B++A1))(S1:Ob c F1 H1 σ ds1 A1)(r:N9 F1 H1 w d0 B)(S':Ob c F' H' σ' a A')(s':Oa F1 H1 A1 F' H' A')(h:bk1 i p w d0 a=some d) :
   ∃ A2,Ob c F' H' σ' d A2/\Ok F' H' (B++A')/\Oa F1 H1 (B++A1) F' H' (B++A')/\∀ b,A2.count b<=B.count b+A'.count b:=by
 obtain⟨g,j⟩:=s'.frame f r.cells S'.ok;have k:N9 F' H' w d0 B:=r.keep (s'.kp S1.ok S1.loc.cells) λ b l e=>by
   have:=f.sep b
   rw[zA0] at this
   have:=qb1.mp l
   lia
 obtain⟨A2,m,q2⟩:=qt1 (pls:=[.pl i p w]) (vs:=[w]) (more:=[]) (ys:=[d0]) (.so .nil) (.cons k .nil) S'.loc h;have e:∀ b,A2.count b<=B.count b+A'.count b:=λ b=>by have:=q2 b;simp only[zAe] at this;exact this
 exact⟨A2,⟨m,g.count λ b=>by rw[zA0];exact e b,S'.len,S'.ag⟩,g,j,e⟩
theorem Lk.lend{p:List Nat}{d0:D}(l:Lk c E F H A en)(k:Oa F H A F1 H1 (B++A1))(j:Ok F1 H1 (B++A1))(S1:Ob c F1 H1 σ ds1 A1)(r:N9 F1 H1 w d0 B):Lk c E F1 H1 A1 (Hb i p w d0 en) where
 nx ds' σ' H' F' A' q S' s':=by
   obtain⟨a,f,q⟩:=qa6.mp q;obtain⟨A2,S2,n,h,g⟩:=qp1 j S1 r S' s' f;exact l.nx _ _ _ _ A2 q S2 ((k.trans h).count λ b=>by rw[zA0];exact g b)
 bk ds' σ' H' F' A' q S' s':=by
   obtain⟨a,f,q⟩:=qa6.mp q;obtain⟨A2,S2,n,h,g⟩:=qp1 j S1 r S' s' f;exact l.bk _ _ _ _ A2 q S2 ((k.trans h).count λ b=>by rw[zA0];exact g b)
 ct ds' σ' H' F' A' q S' s':=by
   obtain⟨a,f,q⟩:=qa6.mp q;obtain⟨A2,S2,n,h,g⟩:=qp1 j S1 r S' s' f;exact l.ct _ _ _ _ A2 q S2 ((k.trans h).count λ b=>by rw[zA0];exact g b)
 xe x ds' σ' e H' F' A' q rx S' s':=by
   obtain⟨a,f,q⟩:=qa6.mp q;obtain⟨A2,S2,n,h,g⟩:=qp1 j S1 r S' s' f;exact l.xe x a σ' e H' F' A2 q rx S2 ((k.trans h).count λ b=>by rw[zA0];exact g b)
 rt d ds' v σ' H' F' T A' q rv S' oT s':=by
   obtain⟨a,f,q⟩:=qa6.mp q;have o:Oa F1 H1 A1 F' H' A':=s'.count λ b=>by rw[zA0];lia
   obtain⟨A2,S2,n,h,g⟩:=qp1 j S1 r S' o f;obtain⟨s,t⟩:=s'.frame j r.cells oT;have m:∀ b,(T++A2).count b<=(B++(T++A')).count b:=λ b=>by simp only[zA0];have:=g b;lia
   exact l.rt d a v σ' H' F' T A2 q rv S2 (s.count m) ((k.trans t).count m)
theorem qaL3{p:List Nat}{d0:D}{en a:VEnds}(b:en.Le a):(Hb i p w d0 en).Le (Hb i p w d0 a) :=
 ⟨λ c=>qa4 b.nx,λ d c=>qa4 (b.rt d),λ c=>qa4 b.bk,λ c=>qa4 b.ct,λ x c=>qa4 (b.xe x)⟩
structure Held(F:γ->Prop)(H:Hp)(a:γ)(vs:List V)(z:Bool)(ys:Ds)(T A:List γ):Prop where
 r:N9 F H (.ref a) (.l z ys) T
 h:H a=some (.l vs)
 o:Ok F H (T++A)
theorem Held.step{ys:Ds}{T:List γ}{a:γ}{F':γ->Prop}{H':Hp}{e:Ds}{A':List γ}(h:Held F H a vs z ys T A)(S:Ob c F H σ ds A)(S':Ob c F' H' σ' e A')(s':Oa F H A F' H' A'):Held F' H' a vs z ys T A':=by
 obtain⟨r,g,o⟩:=h;have d:=s'.kp S.ok S.loc.cells;have i:∀ b∈T,¬ (A.count b≠0):=λ b j k=>by
   have:=o.sep b
   rw[zA0] at this
   have:=qb1.mp j
   lia
 refine⟨r.keep d i,?_,(s'.frame o r.cells S'.ok).1⟩;cases r with
 | l h _=>exact d.fr _ _ g (i _ zA7)
 | lstZ h f _=>exact d.fr _ _ g λ w=>d.wf _ w f
theorem Held.get{ys:Ds}{T:List γ}{a:γ}{x:V}(h:Held F H a vs z ys T A)(hm:D.imms ys=true)(f:vs[i]? = some x):∃ y,ys[i]? = some y/\N9 F H x y []:=by
 obtain⟨k,g,Ael',j,b,c,_⟩:=h.r.lst_inv;cases j
 have:=h.h
 rw[b] at this;cases this;obtain⟨y,B,d,e⟩:=c.getV f
 have:=e.imm (qs1 hm d)
 subst this;exact⟨y,d,e⟩
theorem Held.len{ys:Ds}{T:List γ}{a:γ}(h:Held F H a vs z ys T A):vs.length=ys.length:=by
 obtain⟨f,d,Ael',e,b,c,_⟩:=h.r.lst_inv;cases e
 have:=h.h
 rw[b] at this;cases this;exact c.len
theorem qM7{K:Nf}{ys:Ds}{T:List γ}{a:γ}(j:VG c X tg g)(S:Ob c F H σ ds A)(l:Lk c E F H A en)(b:Held F H a vs z ys T A)(hm:D.imms ys=true)(q:Dm g t en ys ds) :
   ∃ W:Nat->Nat->St->Hp->Prop,(∃ m,W 0 m σ H)/\∀ i m σ H,W i m σ H ->
     ((Itl K a).stop i H/\E.nx σ H)∨((Itl K a).go i H/\∃ N:St->Hp->Prop,(∀ σ' H',N σ' H'->∃ e,e < m/\W (i+1) e σ' H')/\∀ x H',(Itl K a).yld i H x H'->Fg c g x σ H' λ σ2 H2=>Ex c t { E with nx:=N,ct:=N,bk:=E.nx } σ2 H2):=by
 refine qae6 (xs:=vs) (λ i σ H=>∃ F ds A,Ob c F H σ ds A/\Lk c E F H A en/\Held F H a vs z ys T A/\Dm g t en (ys.drop i) ds) ⟨F,ds,A,S,l,b,q⟩ ?_ ?_ ?_
 . rintro i σ H _ ⟨F,ds,A,S,l,b,q⟩
   exact .inl (.inl b.h)
 . rintro i x σ H k ⟨F,ds,A,S,l,b,q⟩
   obtain⟨y,n,o⟩:=b.get hm k;rw[ql4 n] at q;exact qW7 j S l o (λ d σ' H' F' A' p S' f=>⟨F',d,A',S',l.step f,b.step S S' f,p⟩) q
 rintro σ H ⟨F,ds,A,S,l,b,q⟩;rw[b.len,Lg] at q;exact l.nx _ _ _ _ _ q S Oa.refl
def sForP(pf:PF)(g:VTG)(t:VTS):VTS:=λ e ds=>orF (pf ds) λ q=>orF (Bc ds q.1 q.2) λ d=>orF d.lstOf λ ys=>D.imms ys=true/\∀ w,Dm g t (Hb q.1 q.2 w d e) ys (Be ds q.1 q.2 (.hole w))
theorem Jb(J:PassesOwn (Kh X.prog X.w) X.A X.env X.xe)(hi:VP c X o pf)(j:VG c X tg g)(y:VSs c X body t)(K:X.calm=true:=by rfl)(k:∀ v,Jv o X.env v=pure v:=by intro _;rfl):VS c X (.For tg o body [] pos) (sForP pf g t):=by
 refine⟨PS.mono (qax6 J K (qv9 hi.h) j.h y.h k) λ E σ H m=>?_,λ L M n N=>qa4 λ q=>qa4 λ d=>qa4 λ O=>Nb λ h w=>qp4 j y (qaL3 N) _ _ (h w)⟩;obtain⟨F,n,A,L,S,l,q⟩:=m;obtain⟨⟨i,p⟩,P,q⟩:=qa6.mp q;obtain⟨d,e2,q⟩:=qa6.mp q;obtain⟨O,Q,R,q⟩:=qa6.mp q;obtain⟨z,rfl⟩:=qr9 Q;refine⟨F,n,A,i,p,_,S,P,e2,D.noConfusion,λ u w H1 T U s=>?_⟩;obtain⟨B,C,r,G,V⟩:=(S.same s).place e2 D.noConfusion T U;obtain⟨A1,W,q2⟩:=V (.hole w) [] (Kp.same (F:=F) λ _ _ z=>z) (λ _ _ z=>z) (.hole w);have x:Ok F H1 (B++A1):=(S.same s).ok.count λ b=>by rw[zA0,q2,G];simp
 have Y:Oa F H A F H1 (B++A1):=⟨λ b o e _=>s b o e,λ b o e z=>by rw[zA0,q2];have:=G b;simp;lia,λ _ f=>f,λ _ _ _ _ f=>f⟩
 have S1:Ob c F H1 σ (Be n i p (.hole w)) A1:=⟨W,x.right,S.len,S.ag⟩
 obtain⟨a,Z,Ael,rfl,I,rs,_⟩:=r.lst_inv;exact⟨a,rfl,⟨Z,.inl (.inl I)⟩,qM7 j S1 (l.lend Y x S1 r) ⟨r,I,x⟩ R (q _)⟩
noncomputable def enD(ys:Ds):List D:=ys.zipIdx.map λ p=>.q [.int (p.2:Int),p.1]
theorem qaW3{ys:Ds}{y:D}(h:ys[i]? = some y):(enD ys)[i]? = some (.q [.int (i:Int),y]):=by
 unfold enD;rw[zAy,List.getElem?_zipIdx,h];simp
theorem qaD0(ys:Ds):(enD ys).length=ys.length:=by simp[enD]
end
noncomputable def fin(W:Nat->Bool):Nat->Ds->Ds->Ds
 | k,d::r,d'::r'=>(if W k=true then d' else d)::fin W (k+1) r r'
 | _,_,_=>[]
noncomputable def Gr(W:Nat->Bool):Nat->Ds->Bool
 | _,[]=>true
 | k,d::r=>(W k||d.imm)&&Gr W (k+1) r
def Jc(W:Nat->Bool)(ds:Ds)(Q:DK)(xe:XKd):VEnds where
 nx ds':=Q .non (fin W 0 ds ds')
 rt d ds':=Q d (fin W 0 ds ds')
 bk _:=False
 ct _:=False
 xe x ds':=xe x (fin W 0 ds ds')
section
variable{F F':γ->Prop}{H H':Hp}
theorem qaW1{W:Nat->Bool}{Wr:γ->Prop}(q:Kp F H Wr F' H'):∀{vs:List V}{ds:Ds}{A:List γ}{k:Nat}{w':List (Option V)}{a:Ds}{A':List γ},N3 F H vs ds A->Gr W k ds=true->Locs F' H' w' a A'->vs.length<=w'.length->(∀ i,i < vs.length->W (k+i)=true->w'[i]? = (vs.map some)[i]?) ->
   ∃ A2,N3 F' H' vs (fin W k ds a) A2/\∀ b,A2.count b<=A'.count b:=by
 intro vs
 induction vs with
 | nil =>
   intro ds A k w' a A' r g L n l;cases r;exact⟨[],by cases a<;>exact .nil,λ b=>by simp⟩
 | cons v vs s =>
   intro ds A k w' a A' r g L n l;cases r with
   | @cons _ d B _ ds B2 r1 t =>
     have g:=zAn.mp g;have step:∀{σ2:List (Option V)}{f:Ds}{A2:List γ}(o:Option V),w'=o::σ2->Locs F' H' σ2 f A2->∃ A3,N3 F' H' vs (fin W (k+1) ds f) A3/\∀ b,A3.count b<=A2.count b:=λ{σ2 f A2} o e L2=>by
       subst e;refine s t g.2 L2 (by simpa using n) λ i j c=>?_
       have:=l (i+1) (by simpa using j) (by rw[<- c];congr 1;lia)
       simpa using this
     cases L with
     | nil=>simp at n
     | no L2 =>
       obtain⟨A3,m,q2⟩:=step none rfl L2;by_cases c:W k=true
       . have:=l 0 (by simp) (by simpa using c)
         simp at this
       have j:d.imm=true:=by
         rcases Bool.or_eq_true_iff.mp g.1 with h | h
         . exact absurd h c
         exact h
       have:=r1.imm j
       subst this;refine⟨[]++A3,?_,λ b=>by simpa using q2 b⟩;show N3 F' H' (v::vs) ((if W k=true then _ else d)::_) _;rw[if_neg c];exact .cons (r1.keep q λ b p=>by cases p) m
     | @so v' d' B' σ2 f A2 rr L2 =>
       obtain⟨A3,m,q2⟩:=step (some v') rfl L2;by_cases c:W k=true
       . have:=l 0 (by simp) (by simpa using c)
         simp at this;subst this;refine⟨B'++A3,?_,λ b=>by simp only[zA0];have:=q2 b;lia⟩;show N3 F' H' (v'::vs) ((if W k=true then d' else d)::_) _;rw[if_pos c];exact .cons rr m
       have j:d.imm=true:=by
         rcases Bool.or_eq_true_iff.mp g.1 with h | h
         . exact absurd h c
         exact h
       have:=r1.imm j
       subst this;refine⟨[]++A3,?_,λ b=>by simp only[zB0,zA0];have:=q2 b;lia⟩;show N3 F' H' (v::vs) ((if W k=true then d' else d)::_) _;rw[if_neg c];exact .cons (r1.keep q λ b p=>by cases p) m
theorem N3.locs{ds:Ds}{A:List γ}(r:N3 F H vs ds A):Locs F H (vs.map some) ds A:=by
 induction vs generalizing ds A with
 | nil=>cases r;exact .nil
 | cons v vs a=>cases r with | cons h t=>exact .so h (a t)
theorem qE0:∀ n:Nat,Locs F H (K3 n none) (K3 n .u) []
 | 0=>.nil
 | n+1=>.no (qE0 n)
end
structure FunE(K:Nf)(x qual:Str)(st:Km)(f:γ)(fd:δ):Prop where
 ex:∃(oc:V')(od:Option γ)(dV kV doc pm:V')(an:Option γ)(cdv ct:V')(osl:Array (Option V')),
   fd=W.fnOf x qual (qe1 st) (qc6 st) (qa3 st) dV kV doc pm an cdv ct/\K.lookup f=some ⟨oc,od,.func fd,osl⟩/\W.codeIn K cdv qual=true
theorem FunE.of{K:Nf}{x qual:Str}{st:Km}{f:γ}{fd:δ}(F:Fun K x qual st f fd):FunE K x qual st f fd :=
 by obtain⟨g,h,kV,a,i,j,b,k,c,e,l,d⟩:=F.ex;exact⟨⟨g,h,.none,kV,a,i,j,b,k,c,e,l,d⟩⟩
theorem FunE.okX{P:Ki}{w:Kk}{K:Nf}{x qual:Str}{st:Km}{f:γ}{fd:δ}{ps:List Str}{k:Nat}{sp:Sp}(F:FunE K x qual st f fd)(S:qa9 N ps (qa3 st))(len:∀ vs H Q E,sp vs H Q E->vs.length=ps.length)(hbody:∀(a:V')(A:Kj)(outer:List Env)(s:Sh)(H:Hp)(vs:List V)(Q:VK)(E:XK),Oc cm k (A.deeper (PyProof.Rows.envOfC qual (qa3 st) s.heap.objs.size f a))->sp vs H Q E ->
     ∃ t,PSs (Eg cm (CX1 P w) P w K mg base N qual (qa3 st) f a A outer s H E) (qc6 st) t/\t { nx:=λ _ H'=>Q .non H',rt:=Q } (L2.start N vs) H):Dv cm P w K mg base (CX1 P w) (k+1) f fd ps sp:=by
 obtain⟨i,j,l,kV,d,m,n,a,o,e,rfl,g,b⟩:=F.ex;exact Ie g b S len λ A outer s H vs Q E h c=>hbody a A outer s H vs Q E h c
theorem VFn.mkE{P:Ki}{w:Kk}{K:Nf}{x qual:Str}{st:Km}{f:γ}{fd:δ}{ps:List Str}{k:Nat}{s:VSp}(Fu:FunE K x qual st f fd)(Sc:qa9 N ps (qa3 st))(W:Nat->Bool)(hs:Bl s)(j:∀ ds Q xe,s ds Q xe->ds.length=ps.length)(n:∀ ds Q xe,s ds Q xe->Gr W 0 ds=true)(hbody:∀(g:V')(A:Kj)(outer:List Env)(B:Sh)(H:Hp)(E:XK)(av:List (Option V)),Oc cm k (A.deeper (PyProof.Rows.envOfC qual (qa3 st) B.heap.objs.size f g)) ->
     ∃ t,VSs ⟨λ _=>E,W,av,[]⟩ (Eg cm (CX1 P w) P w K mg base N qual (qa3 st) f g A outer B H E) (qc6 st) t/\∀ ds Q xe,s ds Q xe->t (Jc W ds Q xe) (ds++K3 (N.length - ds.length) .u)) :
   Fb cm P w K mg base (k+1) f fd ps s:=by
 refine⟨Fu.okX Sc (λ l H Q E ⟨F,ds,A,r,o,h⟩=>by rw[r.len];exact j _ _ _ h) λ g Ar outer B H l Q E G C=>?_,hs⟩;obtain⟨F,ds,A,r,o,h⟩:=C;obtain⟨t,I,J⟩:=hbody g Ar outer B H E (L2.start N l) G;have U:=j _ _ _ h;have L:=n _ _ _ h;have X:ps.length<=N.length:=by have:=congrArg K9 Sc.pre;rw[zBh] at this;lia
 have L0:Locs F H (L2.start N l++[]) (ds++K3 (N.length - ds.length) .u) A:=by
   rw[zAe];unfold L2.start;rw[r.len]
   have:=r.locs.append (qE0 (F:=F) (H:=H) (N.length - ds.length))
   rwa[zAe] at this
 have S0:Ob ⟨λ _=>E,W,L2.start N l,[]⟩ F H (L2.start N l) (ds++K3 (N.length - ds.length) .u) A:=⟨L0,o,by simp,λ i _=>by simp⟩
 have m:∀{Y':St}{H':Hp}{F':γ->Prop}{a:Ds}{A' A2:List γ},Ob ⟨λ _=>E,W,L2.start N l,[]⟩ F' H' Y' a A'->Oa F H A F' H' A2->∃ A3,N3 F' H' l (fin W 0 ds a) A3/\∀ b,A3.count b<=A'.count b:=λ{Y' H' F' a A' A2} S' c=>by
   have hlen':=S'.len;simp only[zAe] at hlen';refine qaW1 (c.kp o r.cells) r L (by have:=S'.loc;simpa using this) ?_ λ i D M=>?_
   . rw[<- hlen'];unfold L2.start;simp
   have:=S'.ag i (by simpa using M)
   simp only[zAe] at this;rw[this];show (L2.start N l)[i]? = _;unfold L2.start;rw[zB2 (by simpa using D)]
 refine⟨_,I.h,F,_,A,Jc W ds _ _,S0,⟨?_,?_,λ _ _ _ _ _ z=>Ny z,λ _ _ _ _ _ z=>Ny z,?_⟩,J _ _ _ h⟩
 . intro a Y' H' F' A' q S' c
   obtain⟨A3,p,q2⟩:=m S' c;have u:∀ b,([]++A3).count b<=A'.count b:=λ b=>by simpa using q2 b
   exact q .non H' F' [] A3 .non p (S'.ok.count u) (c.count u)
 . intro d a v Y' H' F' T A' q O S' R c
   obtain⟨A3,p,q2⟩:=m S' c;have u:∀ b,(T++A3).count b<=(T++A').count b:=λ b=>by simp only[zA0];have:=q2 b;lia
   exact q v H' F' T A3 O p (R.count u) (c.count u)
 intro y a Y' e H' F' A' q S S' c;obtain⟨A3,p,q2⟩:=m S' c;exact q e H' F' A3 S p (S'.ok.count q2) (c.count q2)
theorem VFn.mk'{P:Ki}{w:Kk}{K:Nf}{x qual:Str}{st:Km}{f:γ}{fd:δ}{ps:List Str}{k:Nat}{s:VSp}(Fu:Fun K x qual st f fd)(Sc:qa9 N ps (qa3 st))(W:Nat->Bool)(hs:Bl s)(a:∀ ds Q xe,s ds Q xe->ds.length=ps.length)(b:∀ ds Q xe,s ds Q xe->Gr W 0 ds=true)(hbody:∀(c:V')(A:Kj)(outer:List Env)(d:Sh)(H:Hp)(E:XK)(av:List (Option V)),Oc cm k (A.deeper (PyProof.Rows.envOfC qual (qa3 st) d.heap.objs.size f c)) ->
     ∃ t,VSs ⟨λ _=>E,W,av,[]⟩ (Eg cm (CX1 P w) P w K mg base N qual (qa3 st) f c A outer d H E) (qc6 st) t/\∀ ds Q xe,s ds Q xe->t (Jc W ds Q xe) (ds++K3 (N.length - ds.length) .u)) :
   Fb cm P w K mg base (k+1) f fd ps s:=VFn.mkE (FunE.of Fu) Sc W hs a b hbody
def Bs:List (Option Nat)->Ds->Ds×Ds
 | [],ds=>([],ds)
 | none::r,ds=>(.u::(Bs r ds).1,(Bs r ds).2)
 | some j::r,ds=>((ds[j]?).getD .u::(Bs r (ds.set j .u)).1,(Bs r (ds.set j .u)).2)
def E3:List (Option Nat)->Ds->Ds->Ds
 | none::r,_::i,o=>E3 r i o
 | some j::r,d::i,o=>E3 r i (o.set j d)
 | _,_,o=>o
def Dz(g:VTG)(qf:VTT)(te:VT)(K:Ds->Ds->Prop):List D->Ds->Ds->Prop
 | [],acc,a=>K acc a
 | x::xs,acc,a=>g x a λ ι1=>qf ι1 (λ b ι2=>if b=true then te ι2 (λ d ι3=>acc.length < big/\Dz g qf te K xs (acc++[d]) ι3) (λ _ _=>False) else Dz g qf te K xs acc ι2) (λ _ _=>False)
noncomputable def capW(src:List (Option Nat)):Nat->Bool:=λ i=>match src[i]? with | some (some _)=>true | _=>false
abbrev cIn(src:List (Option Nat))(av:List (Option V)):Vc:=⟨λ _ _ _ _=>False,capW src,av,[]⟩
structure VF(c:Vc)(X:Cx)(ifs:List Kl)(t:VTT):Prop where
 h:PFs X ifs (Dx c t)
 m:∀ ds (Q Q':Bool->Ds->Prop) (xe xe':XKd),(∀ d ds',Q d ds'->Q' d ds')->(∀ x ds',xe x ds'->xe' x ds')->t ds Q xe->t ds Q' xe'
def qYes:VTT:=λ ds Q _=>Q true ds
theorem Dn{c:Vc}{X:Cx}:VF c X [] qYes:=⟨λ D8 s f H Q I ⟨F,a,A,b,S,x,q⟩=>qaI3 D8 s f H Q I (q H F A S Oa.refl),λ a Q Q' b d e _=>e _ _⟩
theorem Ec{c:Vc}{X:Cx}{e:Kl}{t:VTT}(h:VTe c X e t):VF c X [e] t:=⟨qaR9 h.h,h.m⟩
section
variable{F F':γ->Prop}{H H':Hp}
theorem qX1:∀{src:List (Option Nat)}{J a:List (Option V)}{ds:Ds}{A:List γ},Locs F H (J++a) ds A->(∀ j,some j∈src->j < J.length) ->
   ∃ Ai Ao,Locs F H (Di J src) (Bs src ds).1 Ai/\Locs F H (J++a) (Bs src ds).2 Ao/\∀ b,A.count b=Ai.count b+Ao.count b
 | [],J,a,ds,A,L,_=>⟨[],A,.nil,L,λ b=>by simp⟩
 | none::r,J,a,ds,A,L,h=>by
   obtain⟨Ai,Ao,f,q2,g⟩:=qX1 (src:=r) L λ j c=>h j (zA3 _ c)
   exact⟨Ai,Ao,.no f,q2,g⟩
 | some j::r,J,a,ds,A,L,h=>by
   have c:=h j zA7;have t:=L.len;rw[zAk] at t;obtain⟨z,e⟩:∃ d,ds[j]? = some d:=⟨_,zB3 (by lia)⟩
   obtain⟨σ1,o,σ2,i,k,A1,B,A2,m,e2,u,w,x,n,p,q⟩:=L.split e;have s:(J++a)[j]? = some o:=by rw[m];exact qA8 u
   rw[zB2 c] at s;have y:ds.set j .u=i++.u::k:=by
     have:=congrArg (λ l=>l.set j .u) e2
     rw[this,qo2 w]
   have L':Locs F H (J++a) (ds.set j .u) (A1++A2):=by
     rw[m,y];cases p with
     | no=>exact n.append (.no q)
     | @so v _ _ _=>exact n.append (.so (B:=[]) (.u v) q)
   obtain⟨Ai,Ao,f,q2,g⟩:=qX1 (src:=r) L' λ j c=>h j (zA3 _ c)
   refine⟨B++Ai,Ao,?_,q2,λ b=>by rw[x];have:=g b;simp only[zA0] at *;lia⟩;show Locs F H (((J[j]?).getD none)::Di J r) ((ds[j]?).getD .u::_) _;rw[s,e];exact Locs.cons p f
theorem qH3:∀{src:List (Option Nat)}{J c J':List (Option V)}{K o:Ds}{Ai Ao:List γ},Locs F H J' K Ai->Locs F H (J++c) o Ao->(∀ j,some j∈src->j < J.length)->(∀(i j:Nat),src[i]? = some (some j)->J'[i]? = some ((J[j]?).getD none))->J'.length=src.length ->
   ∃ A',Locs F H (J++c) (E3 src K o) A'/\∀ b,A'.count b<=Ai.count b+Ao.count b
 | [],J,c,J',K,o,Ai,Ao,L,Lo,_,_,_=>⟨Ao,by cases K<;>exact Lo,λ b=>by lia⟩
 | none::r,J,c,J',K,o,Ai,Ao,L,Lo,h,k,f=>by
   cases L with
   | nil=>simp at f
   | no L2 =>
     obtain⟨A',g,q2⟩:=qH3 (src:=r) L2 Lo (λ j a=>h j (zA3 _ a)) (λ i j e=>by simpa using k (i+1) j (by simpa using e)) (by simpa using f);exact⟨A',g,q2⟩
   | so w L2 =>
     obtain⟨A',g,q2⟩:=qH3 (src:=r) L2 Lo (λ j a=>h j (zA3 _ a)) (λ i j e=>by simpa using k (i+1) j (by simpa using e)) (by simpa using f);exact⟨A',g,λ b=>by rw[zA0];have:=q2 b;lia⟩
 | some j::r,J,c,J',K,o,Ai,Ao,L,Lo,h,k,f=>by
   have a:=h j zA7;have m:=Lo.len;rw[zAk] at m;obtain⟨G,n⟩:∃ d,o[j]? = some d:=⟨_,zB3 (by lia)⟩
   obtain⟨σ1,p,σ2,q,s,A1,B,A2,t,e2,D,E,x,y,I,z⟩:=Lo.split n;have A:(J++c)[j]? = some p:=by rw[t];exact qA8 D
   rw[zB2 a] at A;have u:=k 0 j rfl;rw[A] at u;have C:∀ d,o.set j d=q++d::s:=λ d=>by
     have:=congrArg (λ l=>l.set j d) e2
     rw[this,qo2 E]
   cases L with
   | nil=>simp at f
   | no L2 =>
     have:p=none:=by simpa using u.symm
     subst this;have Lo':Locs F H (J++c) (o.set j .u) (A1++A2):=by rw[t,C];exact y.append (.no z)
     obtain⟨A',g,q2⟩:=qH3 (src:=r) L2 Lo' (λ j a=>h j (zA3 _ a)) (λ i j e=>by simpa using k (i+1) j (by simpa using e)) (by simpa using f);exact⟨A',g,λ b=>by rw[x];have:=q2 b;simp only[zA0] at *;lia⟩
   | @so v d Bv _ _ _ w L2 =>
     have:p=some v:=by simpa using u.symm
     subst this;have Lo':Locs F H (J++c) (o.set j d) (A1++(Bv++A2)):=by rw[t,C];exact y.append (.so w z)
     obtain⟨A',g,q2⟩:=qH3 (src:=r) L2 Lo' (λ j a=>h j (zA3 _ a)) (λ i j e=>by simpa using k (i+1) j (by simpa using e)) (by simpa using f);exact⟨A',g,λ b=>by rw[x];have:=q2 b;simp only[zA0] at *;lia⟩
theorem qay0(J:St)(src:List (Option Nat)):(Di J src).length=src.length:=by simp[Di]
theorem qay1{J:St}{src:List (Option Nat)}(h:src[i]? = some (some j)):(Di J src)[i]? = some ((J[j]?).getD none):=by
 unfold Di;rw[zAy,h];rfl
structure Hu(Pp:(γ->Prop)->Hp->Prop)(T:List γ):Prop where
 keep:∀{F F':γ->Prop}{H H':Hp}{W:γ->Prop},Kp F H W F' H'->(∀ b∈T,¬ W b)->Pp F H->Pp F' H'
 cells:∀{F:γ->Prop}{H:Hp},Pp F H->∀ b∈T,∃ o,H b=some o/\Ea o=true
end
section
variable{c:Vc}{F F':γ->Prop}{H H':Hp}{J:(γ->Prop)->Hp->Prop}{E:List (Option V)}{o:Ds}{G:γ}{I:Ds}{T A A' K:List γ}{C:St}{ds:Ds}
noncomputable def Tot(B T Ao A:List γ):List γ:=B++(T++(Ao++A))
theorem qu2(st:Hu J T){B:List γ}(r:N9 F H (.ref G) (.l false I) B)(g:J F H)(L:Locs F H E o Ao)(ok:Ok F H (Tot B T Ao A))(S:Ob c F H C ds A)(s:Oa F H A F' H' A')(o':Ok F' H' A') :
   N9 F' H' (.ref G) (.l false I) B/\J F' H'/\Locs F' H' E o Ao/\Ok F' H' (Tot B T Ao A')/\Oa F H (Tot B T Ao A) F' H' (Tot B T Ao A'):=by
 unfold Tot at *
 have f:=s.kp S.ok S.loc.cells;have h:∀ b,(B++(T++(Ao++A))).count b=((B++(T++Ao))++A).count b:=λ b=>by simp only[zA0];lia
 have d:∀ b,b∈B∨b∈T∨b∈Ao->¬ (A.count b≠0):=λ b a i=>by
   have:=ok.sep b
   simp only[zA0] at this;rcases a with a | a | a<;>have:=qb1.mp a<;>lia
 have j:∀ b∈B++(T++Ao),∃ o,H b=some o/\Ea o=true:=λ b a=>by
   rcases zAj.mp a with a | a
   . exact r.cells b a
   rcases zAj.mp a with a | a
   . exact st.cells g b a
   exact L.cells b a
 obtain⟨k,l⟩:=s.frame (T:=B++(T++Ao)) (ok.count λ b=>by rw[h];exact zA4 _) j o';have e:∀ b,(B++(T++(Ao++A'))).count b=((B++(T++Ao))++A').count b:=λ b=>by simp only[zA0];lia
 exact⟨r.keep f λ b a=>d b (.inl a),st.keep f (λ b a=>d b (.inr (.inl a))) g,L.keep f λ b a=>d b (.inr (.inr a)),k.count λ b=>by rw[e];exact zA4 _,(l.pre λ b=>by rw[h]).count λ b=>by rw[e];exact zA4 _⟩
theorem qaz0(st:Hu J T){B:List γ}{d:D}(r:N9 F H (.ref G) (.l false I) B)(n:J F H)(L:Locs F H E o Ao)(S:Ob c F H C ds A)(p:N9 F H v d K)(ok:Ok F H (Tot B T Ao (K++A))) :
   ∃ vs B',H G=some (.l vs)/\vs.length=I.length/\N9 F (upd H G (.l (vs++[v]))) (.ref G) (.l false (I++[d])) B'/\J F (upd H G (.l (vs++[v])))/\Locs F (upd H G (.l (vs++[v]))) E o Ao/\Ob c F (upd H G (.l (vs++[v]))) C ds A/\Ok F (upd H G (.l (vs++[v]))) (Tot B' T Ao A)/\Oa F H (Tot B T Ao (K++A)) F (upd H G (.l (vs++[v]))) (Tot B' T Ao A):=by
 unfold Tot at *
 obtain⟨a,vs,Ael,q,i,j,rfl⟩:=qab9 r;cases q;have s:=ok.sep G;simp only[zA0,zAu,zB9,if_true] at s;have l:¬ F G:=λ f=>by have:=ok.fro G f;simp only[zA0,zAu,zB9,if_true] at this;lia
 have k:=qI7 (F:=F) (o':=.l (vs++[v])) i rfl l;have h:∀ X:List γ,X.count G=0->∀ b∈X,¬ b=G:=λ X t b y w=>by subst w;exact(qb1.mp y) t
 have g:∀ b,(G::(Ael++(K++[]))++(T++(Ao++A))).count b<=(G::Ael++(T++(Ao++(K++A)))).count b:=λ b=>by simp only[zA0,zAu,Lb];lia
 have m:∀ b,F b->∃ o,upd H G (.l (vs++[v])) b=some o:=λ b f=>by
   obtain⟨x,e⟩:=ok.ex b f;exact⟨x,by rw[qc7 (show b≠G from λ w=>l (w ▸ f))];exact e⟩
 refine⟨vs,G::(Ael++(K++[])),i,j.len,?_,st.keep k (h T (by lia)) n,L.keep k (h Ao (by lia)),⟨S.loc.keep k (h A (by lia)),⟨S.ok.sep,S.ok.fro,m⟩,S.len,S.ag⟩,⟨λ b=>zAm (g b) (ok.sep b),λ b f=>by have:=ok.fro b f;have:=g b;lia,m⟩,λ b u e z=>?_,λ b u e z=>by have:=g b;lia,λ _ f=>f,λ _ _ _ _ f=>f⟩
 . exact .l qb8 ((j.append (.cons p .nil)).keep k (h _ (by simp only[zA0,Lb];lia)))
 rw[qc7 λ w=>?_]
 . exact e
 subst w;simp only[zA0,zAu,zB9,if_true] at z;lia
end
def qm1(src:List (Option Nat))(g:VTG):TG:=λ v a H Q=>∃ av,Fg (cIn src av) g v a H Q
def qm0(src:List (Option Nat))(q:VTT):TT:=λ a H Q=>∃ av,Dx (cIn src av) q a H Q
def Bm(src:List (Option Nat))(t:VT):TE:=λ a H Q=>∃ av,Bd (cIn src av) t a H Q
structure Blk(X:Cx)(NY:List Str)(sc:Scope)(src:List (Option Nat))(tg:Kl)(ifs:List Kl)(elt:Kl)(g:VTG)(qf:VTT)(te:VT):Prop where
 g:∀ av C s0 H0 ex,VG (cIn src av) (qj8 X NY sc C s0 H0 ex) tg g
 f:∀ av C s0 H0 ex,VF (cIn src av) (qj8 X NY sc C s0 H0 ex) ifs qf
 e:∀ av C s0 H0 ex,VE (cIn src av) (qj8 X NY sc C s0 H0 ex) elt te
 lt:∀ D8 a H s,Inv X D8 a H s->∀ j,some j∈src->j < a.length
section
variable{c:Vc}{X:Cx}{NY:List Str}{sc:Scope}{src:List (Option Nat)}{tg elt e:Kl}{ifs:List Kl}{g:VTG}{qf:VTT}{te:VT}
theorem Blk.pg(b:Blk X NY sc src tg ifs elt g qf te):∀ C a H0 ex,PG (qj8 X NY sc C a H0 ex) tg (qm1 src g):=λ C a H0 ex D8 s Y H v u Q I r ⟨c,q⟩=>(b.g c C a H0 ex).h D8 s Y H v u Q I r q
theorem Blk.pf(b:Blk X NY sc src tg ifs elt g qf te):∀ C a H0 ex,PFs (qj8 X NY sc C a H0 ex) ifs (qm0 src qf):=λ C a H0 ex D8 s Y H Q I ⟨c,q⟩=>(b.f c C a H0 ex).h D8 s Y H Q I q
theorem Blk.pe(b:Blk X NY sc src tg ifs elt g qf te):∀ C a H0 ex,PE (qj8 X NY sc C a H0 ex) elt (Bm src te):=λ C a H0 ex D8 s Y H Q I ⟨c,q⟩=>(b.e c C a H0 ex).h D8 s Y H Q I q
theorem Blk.gm(b:Blk X NY sc src tg ifs elt g qf te):∀ d ds (Q Q':Ds->Prop),(∀ a,Q a->Q' a)->g d ds Q->g d ds Q':=(b.g [] 0 {} (λ _=>none) []).m
theorem Blk.fm(b:Blk X NY sc src tg ifs elt g qf te):∀ ds (Q Q':Bool->Ds->Prop) (xe c:XKd),(∀ d a,Q d a->Q' d a)->(∀ x a,xe x a->c x a)->qf ds Q xe->qf ds Q' c:=(b.f [] 0 {} (λ _=>none) []).m
theorem Blk.em(b:Blk X NY sc src tg ifs elt g qf te):∀ ds (Q Q':DK) (xe c:XKd),(∀ d a,Q d a->Q' d a)->(∀ x a,xe x a->c x a)->te ds Q xe->te ds Q' c:=(b.e [] 0 {} (λ _=>none) []).m
theorem qh9(b:Blk X NY sc src tg ifs elt g qf te){K K':Ds->Ds->Prop}(h:∀ acc Z,K acc Z->K' acc Z):∀(xs:List D) acc Z,Dz g qf te K xs acc Z->Dz g qf te K' xs acc Z
 | [],acc,Z=>h acc Z
 | x::xs,acc,Z=>b.gm _ _ _ _ λ ι1=>b.fm _ _ _ _ _ (λ k ι2=>qH0 (b.em _ _ _ _ _ (λ d ι3=>Nb (qh9 b h xs _ _)) λ _ _ z=>z) (qh9 b h xs _ _)) λ _ _ z=>z
variable{F F0:γ->Prop}{H H0:Hp}{Pp:(γ->Prop)->Hp->Prop}{τ:List (Option V)}{o0:Ds}{Dd:γ}{acc:Ds}{T A A0:List γ}{Y:St}{ds Z:Ds}{av:List (Option V)}{K:Ds->Ds->Prop}
def Mid(src:List (Option Nat))(av:List (Option V))(Pp:(γ->Prop)->Hp->Prop)(T:List γ)(τ:List (Option V))(o0:Ds)(Dd:γ)(F0:γ->Prop)(H0:Hp)(A0:List γ)(g:VTG)(qf:VTT)(te:VT)(K:Ds->Ds->Prop)(xs:List D)(Y:St)(H:Hp):Prop :=
 ∃ F Z A acc B Ao,Ob (cIn src av) F H Y Z A/\N9 F H (.ref Dd) (.l false acc) B/\Pp F H/\Locs F H τ o0 Ao/\Ok F H (Tot B T Ao A)/\Oa F0 H0 A0 F H (Tot B T Ao A)/\Dz g qf te K xs acc Z
theorem qF1(b:Blk X NY sc src tg ifs elt g qf te)(st:Hu Pp T){B:List γ}{x:V}{y:D}{xs:List D}(S:Ob (cIn src av) F H Y Z A)(r:N9 F H (.ref Dd) (.l false acc) B)(t:Pp F H)(L:Locs F H τ o0 Ao)(ok:Ok F H (Tot B T Ao A))(p:Oa F0 H0 A0 F H (Tot B T Ao A))(u:N9 F H x y [])(q:Dz g qf te K (y::xs) acc Z) :
   qm1 src g x Y H λ σ2 H2=>qm0 src qf σ2 H2 λ h H3=>if h=true then Bm src te σ2 H3 λ v H4=>∃ ys,H4 Dd=some (.l ys)/\ys.length < Jt/\Mid src av Pp T τ o0 Dd F0 H0 A0 g qf te K xs σ2 (upd H4 Dd (.l (ys++[v]))) else Mid src av Pp T τ o0 Dd F0 H0 A0 g qf te K xs σ2 H3:=by
 have a:∀(F:γ->Prop)(H:Hp)(A:List γ),Xc (cIn src av) (λ _ _=>False) F H A:=λ F H A x w Y' e H' F' A' z=>z.elim
 refine⟨av,F,Z,A,[],y,u,S,S.ok,b.gm _ _ _ _ (λ ι1 q σ1 H1 F1 A1 S1 C=>?_) q⟩;obtain⟨E,i,L1,j,t1⟩:=qu2 st r t L ok S (show Oa F H A F1 H1 A1 from C) S1.ok;refine⟨av,F1,ι1,A1,_,S1,a _ _ _,b.fm _ _ _ _ _ (λ k ι2 q H2 F2 A2 S2 G=>?_) (λ _ _ z=>z) q⟩;obtain⟨s,c,L2,f,t2⟩:=qu2 st E i L1 j S1 G S2.ok;cases k with
 | false =>
   rw[if_neg (by decide)] at q ⊢;exact⟨F2,ι2,A2,acc,B,Ao,S2,s,c,L2,f,(p.trans t1).trans t2,q⟩
 | true =>
   rw[if_pos rfl] at q ⊢;refine⟨av,F2,ι2,A2,_,S2,a _ _ _,b.em _ _ _ _ _ (λ d ι3 q v H3 F3 Tv A3 I S3 J M=>?_) (λ _ _ z=>z) q⟩;obtain⟨N,l,L3,m,O⟩:=qu2 st s c L2 f S2 M J;obtain⟨P,B',Q,e2,R,n,L4,S4,o,U⟩:=qaz0 st N l L3 S3 I m;exact⟨P,Q,by rw[e2];exact zAp q.1 qg8,F3,ι3,A3,acc++[d],B',Ao,S4,R,n,L4,o,((p.trans t1).trans t2).trans (O.trans U),q.2⟩
theorem qx8{xs:List D}(f:∀ j,some j∈src->j < Y.length)(S:Ob c F H Y ds A)(ok:Ok F H (T++A))(m:Pp F H)(st:Hu Pp T)(h:H Dd=none)(q:Dz g qf te K xs [] (Bs src ds).1) :
   Mid src (Di Y src) Pp T (Y++c.gv) (Bs src ds).2 Dd F H (T++A) g qf te K xs (Di Y src) (upd H Dd (.l [])):=by
 obtain⟨Ai,Ao,o,q2,p⟩:=qX1 S.loc f;have a:=Same.new (u:=.l []) h;have r:=Kp.same (F:=F) a;have k:Ok F (upd H Dd (.l [])) ([Dd]++(T++A)):=(qf0 h).ok ok (λ b d=>by
   rcases zAj.mp d with d | d
   . exact st.cells m b d
   exact S.loc.cells b d) a
 have n:∀ b,(Tot [Dd] T Ao Ai).count b=([Dd]++(T++A)).count b:=λ b=>by unfold Tot;simp only[zA0,p];lia
 have e:Ok F (upd H Dd (.l [])) (Tot [Dd] T Ao Ai):=k.count λ b=>by rw[n];exact zA4 _
 have l:Ok F (upd H Dd (.l [])) Ai:=e.count λ b=>by unfold Tot;simp only[zA0];lia
 refine⟨F,_,Ai,[],[Dd],Ao,⟨by rw[zAe];exact o.same a,l,by simp,λ i _=>by simp⟩,.l qb8 .nil,st.keep r (λ _ _=>id) m,q2.same a,e,((qf0 h).stp a).count λ b=>by rw[n];exact zA4 _,q⟩
theorem qx9{H':Hp}{Fz:γ->Prop}{Hz:Hp}{Az:List γ}(d:∀ j,some j∈src->j < Y.length)(S:Ob c Fz Hz Y ds Az)(m:Mid src (Di Y src) Pp T (Y++c.gv) o0 Dd F0 H0 A0 g qf te (λ acc Z'=>∀ v H' F' B A',N9 F' H' v (.l false acc) B->Ob c F' H' Y (E3 src Z' o0) A'->Pp F' H'->Ok F' H' (B++(T++A'))->Oa F0 H0 A0 F' H' (B++(T++A'))->Q v H') [] Y' H'):Q (.ref Dd) H':=by
 obtain⟨F,Z,A,acc,B,Ao,S1,r,k,L,l,s,q⟩:=m;have a:=S1.len;simp only[zAe] at a;obtain⟨A',n,o⟩:=qH3 (src:=src) (by have:=S1.loc;simpa using this) L d (λ i j e=>by
   have:=S1.ag i (by show capW src i=true;unfold capW;rw[e])
   simp only[zAe] at this;rw[this];exact qay1 e) (by rw[<- a,qay0])
 have f:∀ b,(B++(T++A')).count b<=(Tot B T Ao A).count b:=λ b=>by unfold Tot;simp only[zA0];have:=o b;lia
 have h:=l.count f;exact q (.ref Dd) H' F B A' r ⟨n,h.right.right,S.len,S.ag⟩ k h (s.count f)
theorem qn1{a:γ}{ys:Ds}{T:List γ}:Hu (λ F H=>N9 F H (.ref a) (.l z ys) T/\H a=some (.l vs)) T where
 keep:=λ{F F' H H' W} k h p=>by
   refine⟨p.1.keep k h,?_⟩;cases p.1 with
   | l _ _=>exact k.fr _ _ p.2 (h _ zA7)
   | lstZ _ f _=>exact k.fr _ _ p.2 λ w=>k.wf _ w f
 cells:=λ p=>p.1.cells
theorem qO9:Hu (λ _ _=>True) [] where
 keep:=λ _ _ p=>p
 cells:=λ _ b a=>by cases a
theorem qaN3{a:γ}{ys:Ds}{T:List γ}{x:V}(r:N9 F H (.ref a) (.l z ys) T)(h:H a=some (.l vs))(hm:D.imms ys=true)(f:vs[i]? = some x):∃ y,ys[i]? = some y/\N9 F H x y []:=by
 obtain⟨k,g,Ael',j,b,c,_⟩:=r.lst_inv;cases j;rw[h] at b;cases b;obtain⟨y,B,d,e⟩:=c.getV f
 have:=e.imm (qs1 hm d)
 subst this;exact⟨y,d,e⟩
theorem qaL6{a:γ}{ys:Ds}{T:List γ}(r:N9 F H (.ref a) (.l z ys) T)(h:H a=some (.l vs)):vs.length=ys.length:=by
 obtain⟨f,d,Ael',e,b,c,_⟩:=r.lst_inv;cases e;rw[h] at b;cases b;exact c.len
theorem qJ0{K':Nf}{a:γ}{ys:Ds}{Q:Hp->Prop}(b:Blk X NY sc src tg ifs elt g qf te)(hm:D.imms ys=true)(m:Mid src av (λ F H=>N9 F H (.ref a) (.l z ys) T/\H a=some (.l vs)) T τ o0 Dd F0 H0 A0 g qf te K ys Y' H)(f:∀ σ2 H2,Mid src av (λ F H=>N9 F H (.ref a) (.l z ys) T/\H a=some (.l vs)) T τ o0 Dd F0 H0 A0 g qf te K [] σ2 H2->Q H2):qu6 (Itl K' a) (qm1 src g) (qm0 src qf) (Bm src te) Dd Q Y' H:=by
 obtain⟨_,_,_,_,_,_,_,_,c,_⟩:=id m;have d:=qaL6 c.1 c.2;refine qS1 (xs:=vs) (λ i Y H=>Mid src av (λ F H=>N9 F H (.ref a) (.l z ys) T/\H a=some (.l vs)) T τ o0 Dd F0 H0 A0 g qf te K (ys.drop i) Y H) m ?_ ?_ ?_
 . rintro i Y H _ ⟨_,_,_,_,_,_,_,_,e,_⟩
   exact .inl (.inl e.2)
 . rintro i x Y H h ⟨F,Z,A,j,B,Ao,S1,r,e,L,k,s,q⟩
   obtain⟨y,l,n⟩:=qaN3 e.1 e.2 hm h;rw[ql4 l] at q;exact qF1 b qn1 S1 r e L k s n q
 intro Y H m;rw[d,Lg] at m;exact f _ _ m
theorem qO3{K':Nf}{a:γ}{ys:Ds}{Q:Hp->Prop}(b:Blk X NY sc src tg ifs elt g qf te)(hm:D.imms ys=true)(m:Mid src av (λ F H=>N9 F H (.ref a) (.l z ys) T/\H a=some (.l vs)) T τ o0 Dd F0 H0 A0 g qf te K (enD ys) Y' H)(o:∀ σ2 H2,Mid src av (λ F H=>N9 F H (.ref a) (.l z ys) T/\H a=some (.l vs)) T τ o0 Dd F0 H0 A0 g qf te K [] σ2 H2->Q H2):qu6 (Ite K' a) (qm1 src g) (qm0 src qf) (Bm src te) Dd Q Y' H:=by
 obtain⟨_,_,_,_,_,_,_,_,c,_⟩:=id m;have d:=qaL6 c.1 c.2;refine qao5 (xs:=vs) (λ i Y H=>Mid src av (λ F H=>N9 F H (.ref a) (.l z ys) T/\H a=some (.l vs)) T τ o0 Dd F0 H0 A0 g qf te K ((enD ys).drop i) Y H) m ?_ ?_ ?_
 . rintro i Y H _ ⟨_,_,_,_,_,_,_,_,e,_⟩
   exact .inl (.inl e.2)
 . rintro i x Y H n p ⟨F,Z,A,t,B,Ao,S1,r,e,L,v,s,q⟩ f
   obtain⟨y,w,C⟩:=qaN3 e.1 e.2 hm p;rw[ql4 (qaW3 w)] at q;have h:=Same.new (u:=.q [.int (i:Int),x]) f;have j:N9 F (upd H n (.q [.int (i:Int),x])) (.ref n) (.q [.int (i:Int),y]) []:=qab0 f (.cons (A:=[]) (B:=[]) (.int _) (.cons (A:=[]) (B:=[]) C .nil));obtain⟨E,k,L1,l,t1⟩:=qu2 qn1 r e L v S1 (Oa.same h) (S1.ok.same h);exact qF1 b qn1 (S1.same h) E k L1 l (s.trans t1) j q
 intro Y H m;rw[K5 (by rw[qaD0,d];exact zA4 _)] at m;exact o _ _ m
theorem qav0{Q:Hp->Prop}(b:Blk X NY sc src tg ifs elt g qf te)(m:Mid src av (λ _ _=>True) [] τ o0 Dd F0 H0 A0 g qf te K (Bj lo n) Y' H)(a:∀ σ2 H2,Mid src av (λ _ _=>True) [] τ o0 Dd F0 H0 A0 g qf te K [] σ2 H2->Q H2):qu6 (Itr lo n) (qm1 src g) (qm0 src qf) (Bm src te) Dd Q Y' H:=by
 refine qaf9 (λ i Y H=>Mid src av (λ _ _=>True) [] τ o0 Dd F0 H0 A0 g qf te K ((Bj lo n).drop i) Y H) m ?_ ?_
 . rintro i Y H c ⟨F,Z,A,d,B,Ao,S1,r,e,L,f,s,q⟩
   rw[ql4 (qZ6 c)] at q;exact qF1 b qO9 S1 r e L f s (.int _) q
 intro Y H m;rw[K5 (by rw[qaq9];exact zA4 _)] at m;exact a _ _ m
end
def Imp(c:Vc)(X:Cx)(t:VT)(tc:TE):Prop:=∀ D8 s a H Q,Inv X D8 a H s->Bd c t a H Q->tc a H Q
def E4(t:VT):Prop:=∀ ds (Q Q':DK) (xe xe':XKd),(∀ d a,Q d a->Q' d a)->(∀ x a,xe x a->xe' x a)->t ds Q xe->t ds Q' xe'
section
variable{c:Vc}{X:Cx}{NY:List Str}{sc:Scope}{src:List (Option Nat)}{tg elt e o:Kl}{ifs:List Kl}{g:VTG}{qf:VTT}{te t0:VT}{pf:PF}
theorem qT2{tc:TE}{t:VT}(h:PE X e tc)(i:Imp c X t tc)(m:E4 t):VE c X e t:=⟨λ D8 s σ H Q I q=>h D8 s σ H Q I (i D8 s σ H Q I q),m⟩
theorem qaE6{tc:TE}{t:VT}{x:Str}{px spos:Pos}(h:PS X (.Assign [.Name x px] e spos) (Hg tc (Ep i)))(j:Imp c X t tc)(m:E4 t)(k:c.W i=false)(hi:X.N[i]? = some x):VS c X (.Assign [.Name x px] e spos) (Dt t (gNm i)):=by
 refine⟨λ D8 s σ H E I q=>h D8 s σ H E I (j D8 s σ H _ I ?_),λ b n f g=>m _ _ _ _ _ (λ d a=>g.nx _) g.xe⟩;obtain⟨F,f,A,b,S,l,q⟩:=q;refine⟨F,f,A,b.xe,S,l.xe,m _ _ _ _ _ (λ d a q v H' F' T A' r S' o p=>?_) (λ _ _ z=>z) q⟩;obtain⟨A2,S2,u⟩:=S'.store k (qr8 hi D8 σ H s I) r o;exact l.nx _ _ H' F' A2 q S2 (p.trans u)
def E5(src:List (Option Nat))(g:VTG)(qf:VTT)(te:VT)(ys:List D):Ds->DK->Prop:=λ ds1 Q=>Dz g qf te (λ acc ι'=>Q (.l false acc) (E3 src ι' (Bs src ds1).2)) ys [] (Bs src ds1).1
theorem qu7(b:Blk X NY sc src tg ifs elt g qf te){ys:List D}{ds1:Ds}{Q Q':DK}(h:∀ d a,Q d a->Q' d a):E5 src g qf te ys ds1 Q->E5 src g qf te ys ds1 Q':=qh9 b (λ c ι=>h _ _) _ _ _
def tCL(src:List (Option Nat))(t0:VT)(g:VTG)(qf:VTT)(te:VT):VT:=λ ds Q xe=>t0 ds (λ d ds1=>orF d.lstOf λ ys=>D.imms ys=true/\E5 src g qf te ys ds1 Q) xe
def tCE(src:List (Option Nat))(t0:VT)(g:VTG)(qf:VTT)(te:VT):VT:=λ ds Q xe=>t0 ds (λ d ds1=>orF d.lstOf λ ys=>D.imms ys=true/\E5 src g qf te (enD ys) ds1 Q) xe
theorem qav2(b:Blk X NY sc src tg ifs elt g qf te)(hi:VE c X e t0):E4 (tCL src t0 g qf te):=λ j Q Q' k a f h=>hi.m _ _ _ _ _ (λ d i=>qa4 λ l=>Nb (qu7 b f)) h
theorem qav3(b:Blk X NY sc src tg ifs elt g qf te)(hi:VE c X e t0):E4 (tCE src t0 g qf te):=λ j Q Q' k a f h=>hi.m _ _ _ _ _ (λ d i=>qa4 λ l=>Nb (qu7 b f)) h
theorem qaV6{K:Nf}(b:Blk X NY sc src tg ifs elt g qf te)(hi:VE c X e t0):Imp c X (tCL src t0 g qf te) (Dw (Gy K (Bd c t0)) src (qm1 src g) (qm0 src qf) (Bm src te)):=by
 rintro D8 s σ H Q I ⟨F,k,A,l,S,x,q⟩;have f:=b.lt D8 σ H s I;refine⟨F,k,A,l,S,x,hi.m _ _ _ _ _ (λ d n q v H1 F1 T A1 i S1 o p=>?_) (λ _ _ z=>z) q⟩;obtain⟨E,t,u,h⟩:=qa6.mp q;obtain⟨z,rfl⟩:=qr9 t;obtain⟨a,w,Ael,rfl,j,G,_⟩:=i.lst_inv;refine⟨a,rfl,⟨w,.inl (.inl j)⟩,λ Dd y=>qJ0 b u (qx8 f S1 o ⟨i,j⟩ qn1 y (qh9 b (λ C ι q v H' F' B A' r S' _ D s=>q v H' F' B A' r S' (D.count λ b=>by simp only[zA0];lia) ((p.trans s).count λ b=>by simp only[zA0];lia)) _ _ _ h)) λ σ2 H2 m=>qx9 f S1 m⟩
theorem qaV7{K:Nf}(b:Blk X NY sc src tg ifs elt g qf te)(hi:VE c X e t0):Imp c X (tCE src t0 g qf te) (Dw (Ij K (G1 (Bd c t0) Ib)) src (qm1 src g) (qm0 src qf) (Bm src te)):=by
 rintro D8 s σ H Q I ⟨F,k,A,l,S,x,q⟩;have f:=b.lt D8 σ H s I;refine⟨F,k,A,l,S,x,hi.m _ _ _ _ _ (λ d n q v H1 F1 T A1 i S1 o p=>?_) (λ _ _ z=>z) q⟩;obtain⟨E,t,u,h⟩:=qa6.mp q;obtain⟨z,rfl⟩:=qr9 t;obtain⟨a,w,Ael,rfl,j,G,_⟩:=i.lst_inv;refine⟨a,rfl,⟨w,.inl (.inl j)⟩,λ Dd y=>qO3 b u (qx8 f S1 o ⟨i,j⟩ qn1 y (qh9 b (λ C ι q v H' F' B A' r S' _ D s=>q v H' F' B A' r S' (D.count λ b=>by simp only[zA0];lia) ((p.trans s).count λ b=>by simp only[zA0];lia)) _ _ _ h)) λ σ2 H2 m=>qx9 f S1 m⟩
def tCPx(en:Ds->List D)(src:List (Option Nat))(pf:PF)(g:VTG)(qf:VTT)(te:VT):VT:=λ ds Q xe=>orF (pf ds) λ q=>orF (Bc ds q.1 q.2) λ d=>orF d.lstOf λ ys=>D.imms ys=true/\∀ w,Dz g qf te (λ acc ι'=>orF (bk1 q.1 q.2 w d (E3 src ι' (Bs src (Be ds q.1 q.2 (.hole w))).2)) λ a=>Q (.l false acc) a) (en ys) [] (Bs src (Be ds q.1 q.2 (.hole w))).1
theorem qai3{en:Ds->List D}(b:Blk X NY sc src tg ifs elt g qf te):E4 (tCPx en src pf g qf te):=λ f Q Q' i a c j=>qa4 λ q=>qa4 λ d=>qa4 λ k=>Nb λ h w=>qh9 b (λ e ι=>qa4 λ z=>c _ _) _ _ _ (h w)
theorem qaP0{K:Nf}{en:Ds->List D}{wi:TI}{J:γ->It}(b:Blk X NY sc src tg ifs elt g qf te)(M:∀{a:γ}{vs:List V}{z:Bool}{ys:Ds}{T:List γ}{τ:List (Option V)}{o0:Ds}{Dd:γ}{F0:γ->Prop}{H0 H:Hp}{A0:List γ}{K0:Ds->Ds->Prop}{av:List (Option V)}{Q:Hp->Prop}{σ':St},D.imms ys=true->Mid src av (λ F H=>N9 F H (.ref a) (.l z ys) T/\H a=some (.l vs)) T τ o0 Dd F0 H0 A0 g qf te K0 (en ys) σ' H ->
     (∀ σ2 H2,Mid src av (λ F H=>N9 F H (.ref a) (.l z ys) T/\H a=some (.l vs)) T τ o0 Dd F0 H0 A0 g qf te K0 [] σ2 H2->Q H2)->qu6 (J a) (qm1 src g) (qm0 src qf) (Bm src te) Dd Q σ' H)(j:∀ σ H R,G9 c pf σ H (λ x H1=>∃ a,x=.ref a/\(∃ xs,SqL K H1 a xs)/\R (J a) H1)->wi σ H R):Imp c X (tCPx en src pf g qf te) (Dw wi src (qm1 src g) (qm0 src qf) (Bm src te)):=by
 rintro D8 s σ H Q I ⟨F,t,A,xe,S,x,q⟩;have h:=b.lt D8 σ H s I;refine j σ H _ ?_;obtain⟨⟨i,p⟩,N,q⟩:=qa6.mp q;obtain⟨d,e2,q⟩:=qa6.mp q;obtain⟨ys,O,P,q⟩:=qa6.mp q;obtain⟨z,rfl⟩:=qr9 O;refine⟨F,t,A,i,p,_,S,N,e2,D.noConfusion,λ u w H1 U k l=>?_⟩;obtain⟨B,C,r,y,Y⟩:=(S.same l).place e2 D.noConfusion U k;obtain⟨A1,Z,q2⟩:=Y (.hole w) [] (Kp.same (F:=F) λ _ _ z=>z) (λ _ _ z=>z) (.hole w);have E:Ok F H1 (B++A1):=(S.same l).ok.count λ b=>by rw[zA0,q2,y];simp
 have s1:Oa F H A F H1 (B++A1):=⟨λ b o e _=>l b o e,λ b o e z=>by rw[zA0,q2];have:=y b;simp;lia,λ _ f=>f,λ _ _ _ _ f=>f⟩
 have S1:Ob c F H1 σ (Be t i p (.hole w)) A1:=⟨Z,E.right,S.len,S.ag⟩
 obtain⟨a,vs,Ael,rfl,G,rs,_⟩:=r.lst_inv;refine⟨a,rfl,⟨vs,.inl (.inl G)⟩,λ Dd hD=>M P (qx8 h S1 E ⟨r,G⟩ qn1 hD (qh9 b (λ a0 ι q v H' F' B' A' rv S' hp L s=>?_) _ _ _ (q (.ref a)))) λ σ2 H2 m=>qx9 h S1 m⟩;obtain⟨a1,eb,q⟩:=qa6.mp q;obtain⟨A2,k1,k2⟩:=qt1 (pls:=[.pl i p (.ref a)]) (vs:=[.ref a]) (more:=[]) (ys:=[.l z ys]) (.so .nil) (.cons hp.1 .nil) S'.loc eb;have n:∀ b,(B'++A2).count b<=(B'++(B++A')).count b:=λ b=>by have:=k2 b;simp only[zAe,zA0] at *;lia
 exact q v H' F' B' A2 rv ⟨k1,(L.count n).right,S.len,S.ag⟩ (L.count n) ((s1.trans s).count n)
theorem qaV5{K:Nf}(b:Blk X NY sc src tg ifs elt g qf te):Imp c X (tCPx (λ ys=>ys) src pf g qf te) (Dw (Gy K (G9 c pf)) src (qm1 src g) (qm0 src qf) (Bm src te)) :=
 qaP0 (K:=K) (J:=Itl K) b (λ a m d=>qJ0 b a m d) λ σ H R h=>h
def Jd(src:List (Option Nat))(tr:VTA)(g:VTG)(qf:VTT)(te:VT):VT:=λ ds Q xe=>tr ds (λ xs ds1=>orF (Ja xs) λ j=>Ft j=true/\E5 src g qf te (Bj 0 j.toNat) ds1 Q) xe
theorem qO8{es:List Kl}{tr:VTA}(b:Blk X NY sc src tg ifs elt g qf te)(hi:VOs c X es tr):E4 (Jd src tr g qf te):=λ i Q Q' j a e f=>hi.m _ _ _ _ _ (λ d h=>qa4 λ k=>Nb (qu7 b e)) f
theorem qax2{F:γ->Prop}{H:Hp}{A:List γ}{F1:γ->Prop}{H1:Hp}{A1:List γ}{σ:St}{ds1:Ds}(b:Blk X NY sc src tg ifs elt g qf te)(a:∀ j,some j∈src->j < σ.length)(S1:Ob c F1 H1 σ ds1 A1)(f:Oa F H A F1 H1 A1)(q:E5 src g qf te (Bj lo n) ds1 (λ d e=>∀ v H' F' T A',N9 F' H' v d T->Ob c F' H' σ e A'->Ok F' H' (T++A')->Oa F H A F' H' (T++A')->Q v H')):∀ Dd,H1 Dd=none->qu6 (Itr lo n) (qm1 src g) (qm0 src qf) (Bm src te) Dd (λ H'=>Q (.ref Dd) H') (Di σ src) (upd H1 Dd (.l [])):=λ Dd h =>
 qav0 b (qx8 (T:=[]) a S1 S1.ok trivial qO9 h (qh9 b (λ i ι q v H' F' B A' r S' _ k s=>q v H' F' B A' r S' k (f.trans s)) _ _ _ q)) λ σ2 H2 m=>qx9 a S1 m
theorem qat0{es:List Kl}{tr:VTA}(b:Blk X NY sc src tg ifs elt g qf te)(hi:VOs c X es tr):Imp c X (Jd src tr g qf te) (Dw (iRng1 (qaA4 c tr)) src (qm1 src g) (qm0 src qf) (Bm src te)):=by
 rintro D8 s σ H Q I ⟨F,e,A,f,S,x,q⟩;have a:=b.lt D8 σ H s I;refine⟨F,e,A,f,S,x,hi.m _ _ _ _ _ (λ p h q r H1 F1 T A1 i S1 k=>?_) (λ _ _ z=>z) q⟩;obtain⟨j,l,n,d⟩:=qa6.mp q;cases qas3 l;obtain⟨v,rfl,o⟩:=i.one_inv;cases o
 have:=qab2 n
 exact⟨j,rfl,this.1,this.2,qax2 b a S1 k d⟩
noncomputable def capOk(X:Cx)(src:List (Option Nat)):Bool:=src.all λ o=>match o with | none=>true | some j=>decide (j < X.N.length)
theorem blk(b:∀ av C a H0 ex,VG (cIn src av) (qj8 X NY sc C a H0 ex) tg g)(c:∀ av C a H0 ex,VF (cIn src av) (qj8 X NY sc C a H0 ex) ifs qf)(d:∀ av C a H0 ex,VE (cIn src av) (qj8 X NY sc C a H0 ex) elt te)(hs:capOk X src=true:=by rfl):Blk X NY sc src tg ifs elt g qf te :=
 ⟨b,c,d,λ D8 σ H s I j e=>by
   have:=zC9.mp hs _ e
   rw[I.len];exact zAc this⟩
end
section
variable{c:Vc}{X:Cx}{NY:List Str}{u:Scope}{src:List (Option Nat)}{y s t e a:Kl}{r:List Kl}{g:VTG}{w:VTT}{te A:VT}{v B z:Pos}{pf:PF}{x:Str}
theorem ecL(hi:VE c X t A)(bl:Blk X NY u src y r s g w te)(a:X.calm=true:=by rfl)(b:qp6 X NY src u=true:=by rfl)(hs:∀ x,Jv t X.env x=pure x:=by intro _;rfl):VE c X (.ListComp s [⟨y,t,r,0⟩] u v) (tCL src A g w te) :=
 qT2 (qw0 NY src (qv9 hi.h) bl.pg bl.pf bl.pe a b hs) (qaV6 bl hi) (qav2 bl hi)
theorem ecP(hi:VP c X t pf)(bl:Blk X NY u src y r s g w te)(a:X.calm=true:=by rfl)(b:qp6 X NY src u=true:=by rfl)(hs:∀ x,Jv t X.env x=pure x:=by intro _;rfl):VE c X (.ListComp s [⟨y,t,r,0⟩] u v) (tCPx (λ ys=>ys) src pf g w te) :=
 qT2 (qw0 NY src (qv9 hi.h) bl.pg bl.pf bl.pe a b hs) (qaV5 bl) (qai3 bl)
theorem ecR1{tr:VTA}{p cpos:Pos}(hm:X.mg "range" = none)(b:VOs c X [a] tr)(bl:Blk X NY u src y r s g w te)(d:Gl X "range" := by rfl)(e:Js [a] X.env=[(false,eval a X.env)]:=by rfl)(f:X.calm=true:=by rfl)(i:qp6 X NY src u=true:=by rfl)(hs:∀ x,Jv (.Call (.Name "range" p) [a] [] cpos) X.env x=pure x:=by intro _;rfl):VE c X (.ListComp s [⟨y,.Call (.Name "range" p) [a] [] cpos,r,0⟩] u v) (Jd src tr g w te) :=
 qT2 (qw0 NY src (qD3 d hm b.h e) bl.pg bl.pf bl.pe f i hs) (qat0 bl b) (qO8 bl b)
theorem ecE{elts:List Kl}{d:Nat}{p cpos:Pos}(hm:X.mg "enumerate" = none)(hi:VE c X e A)(bl:Blk X NY u src (.Tuple elts d tpos) r s g w te)(b:Gl X "enumerate" := by rfl)(a:Js [e] X.env=[(false,eval e X.env)]:=by rfl)(f:X.calm=true:=by rfl)(i:qp6 X NY src u=true:=by rfl)(hs:∀ x,Jv (.Call (.Name "enumerate" p) [e] [] cpos) X.env x=pure x:=by intro _;rfl):VE c X (.ListComp s [⟨.Tuple elts d tpos,.Call (.Name "enumerate" p) [e] [] cpos,r,0⟩] u v) (tCE src A g w te) :=
 qT2 (qw0 NY src (qar7 b hm (qg5 hi.h qy7 a) a) bl.pg bl.pf bl.pe f i hs) (qaV7 bl hi) (qav3 bl hi)
theorem scR1{tr:VTA}{p cpos:Pos}(i:Nat)(l:X.N.Nodup)(hm:X.mg "range" = none)(d:VOs c X [a] tr)(bl:Blk X NY u src y r s g w te)(m:c.W i=false:=by rfl)(e:Gl X "range" := by rfl)(f:Js [a] X.env=[(false,eval a X.env)]:=by rfl)(b:X.N[i]? = some x:=by rfl)(n:Loc X.env.scope x:=by first | exact N0 rfl | exact Nz rfl)(o:X.calm=true:=by rfl)(q:qp6 X NY src u=true:=by rfl)(j:swapsWith (.ListComp s [⟨y,.Call (.Name "range" p) [a] [] cpos,r,0⟩] u v) (some (.Name x B)) z.line X.env=pure true:=by rfl)(hs:∀ x,Jv (.Call (.Name "range" p) [a] [] cpos) X.env x=pure x:=by intro _;rfl)(k:X.fn x=true∨X.env.scope.names.lookup x=some .local:=by first | exact .inl rfl | exact .inr rfl | assumption):VS c X (.Assign [.Name x B] (.ListComp s [⟨y,.Call (.Name "range" p) [a] [] cpos,r,0⟩] u v) z) (Dt (Jd src tr g w te) (gNm i)) :=
 qaE6 (qar3 i NY src l (qD3 e hm d.h f) bl.pg bl.pf bl.pe b n o q j hs k) (qat0 bl d) (qO8 bl d) m b
end
section
variable{c:Vc}{X:Cx}{t:List Kl}{p:VTB}
def Gs(p:VTB):VTA:=λ ds Q xe=>p ds (λ xs _ ds1=>Q xs ds1) xe
theorem Da(h:VAs c X t p):VOs c X t (Gs p):=⟨PA.mono h.h λ n H Q ⟨F,d,A,e,S,x,q⟩=>⟨F,d,A,e,S,x,h.m _ _ _ _ _ (λ f g a q i H' F' T A' r _ S' o s=>q i H' F' T A' r S' (s.count λ b=>by rw[zA0];lia)) (λ _ _ z=>z) q⟩,λ d Q Q' e j k l=>h.m _ _ _ _ _ (λ f g a=>k _ _) l⟩
end
structure Bg(x y z:Int)(ns:List Int):Prop where
 x0:0<=x
 y0:0<=y
 y1:y < 2147483647
 z0:0<=z
 nn:∀ n∈ns,0<=n
noncomputable def bagD(x y z:Int)(ns:List Int):D:=.l false [.int x,.int y,.int z,.l false (ns.map .int)]
def lawE:VEnds where
 nx _:=False
 rt d _:=d.asB=some true
 bk _:=False
 ct _:=False
 xe _ _:=False
theorem qam1{c:Vc}{X:Cx}{rest:List Km}{t:VTS}{H:Hp}{E:D9}{p L:γ}{x y z:Int}{ns:List Int}(e:c.av.length=2+n)(k:∀ i,c.W i=false)(a:c.gv=[])(l:H p=some (.l [.int x,.int y,.int z,.ref L]))(m:H L=some (.l (ns.map V.int)))(o:L≠p)(s:∀ H',E.rt (.bl true) H')(u:t lawE (.hole w::bagD x y z ns::K3 n .u)):Ex c t E (some w::some (.ref p)::K3 n none) H:=by
 have L0:Locs (λ _=>False) H (some w::some (.ref p)::K3 n none) (.hole w::bagD x y z ns::K3 n .u) ([]++((p::([]++([]++([]++((L::[])++[])))))++[])) :=
   .so (.hole w) (.so (.l l (.cons (.int x) (.cons (.int y) (.cons (.int z) (.cons (.l m (qC8 ns)) .nil))))) (qE0 n))
 refine⟨λ _=>False,_,_,lawE,⟨by rw[a,zAe];exact L0,⟨λ b=>?_,λ b f=>f.elim,λ b f=>f.elim⟩,by rw[a,e];simp;lia,λ i h=>by rw[k i] at h;cases h⟩,⟨λ _ _ _ _ _ z=>Ny z,λ d A v B' H' F' T A' q r _ _ _=>by rw[r.asB q];exact s H',λ _ _ _ _ _ z=>Ny z,λ _ _ _ _ _ z=>Ny z,λ _ _ _ _ _ _ _ z=>Ny z⟩,u⟩;simp only[zB0,zAe,zAu,Lb];by_cases g:p=b
 . subst g;simp[o]
 by_cases j:L=b
 . subst j;simp[g]
 simp[g,j]
section
variable{c:Vc}{b d e o:Kl}{oa ob oc:Bool}{Y Z fc:FV}
def f3(g g':D->D->Option D)(Y Z fc:FV):FV:=λ ds=>(Y ds).bind λ x=>(Z ds).bind λ y=>(g x y).bind λ z=>z.asB.bind λ k=>if k=true then (fc ds).bind λ u=>g' y u else some (.bl false)
theorem qaD6{r l:R2}{g g':D->D->Option D}(h:Bb true r g)(h':Bb true l g'):∀ X H Q,liftV c true (f3 g g' Y Z fc) X H Q->qaF4 r l (liftV c oa Y) (liftV c ob Z) (liftV c oc fc) X H Q:=by
 rintro X H Q ⟨F,f,A,d,S,e,q⟩;obtain⟨x,C,e⟩:=zA1.mp e;obtain⟨y,e2,e⟩:=zA1.mp e;obtain⟨z,E,e⟩:=zA1.mp e;obtain⟨k,G,e⟩:=zA1.mp e;refine⟨F,f,A,x,S,C,λ v H1 B1 I m T=>⟨F,f,A,y,S.same m,e2,λ w H2 B2 n p U=>?_⟩⟩;have i:=m.trans p;refine h F H2 v w x y _ z _ (Fp (I.same p) n) E λ u H3 B3 J s V=>⟨k,J.asB G,?_⟩
 have a:=i.trans s;cases k with
 | false=>rw[if_neg (by decide)] at e ⊢;cases e;exact q _ H3 [] (.bl _) a λ _=>New.nil
 | true =>
   rw[if_pos rfl] at e ⊢;obtain⟨t,K,L⟩:=zA1.mp e;refine⟨F,f,A,t,S.same a,K,λ M H4 B4 N j W=>?_⟩;refine h' F H4 w M y t _ d Q (Fp ((n.same s).same j) N) L λ O H5 B5 P R B=>q O H5 B5 P ((a.trans j).trans R) λ _=>⟨B.one,λ b o e=>B.new b o (j b o (a b o e))⟩
end
section
variable{c:Vc}{X:Cx}{a b d e:Kl}{N:Pos}{U Z Y:Bool}{O V W:FV}{R:VT}
theorem vch{e:CmpOp}{r i:R2}{g g':D->D->Option D}(j:OpR X (Ju op) r)(h:Bb true r g)(f:OpR X (Ju e) i)(h':Bb true i g')(k:VV c X a U O)(l:VV c X b Z V)(m:VV c X d Y W)(hm:lastMarks [op,e] [b,d]=false:=by with_unfolding_all rfl) :
   VV c X (.Compare a [op,e] [b,d] N) true (f3 g g' O V W):=⟨PE.mono (qay7 j f k.h l.h m.h hm) (qaD6 h h')⟩
def Hc(x:D):Option D:=match x with
 | .l _ ys=>(intsD ys).bind λ ns=>gd (ns.length<=1000) (.int (ql1 ns))
 | _=>none
theorem vlenS{p cpos:Pos}(g:X.mg "len" = none)(i:X.mg "set" = none)(o:VV c X a U O)(j:Gl X "len" := by rfl)(k:Gl X "set" := by rfl)(r:X.calm=true:=by rfl)(n:Js [a] X.env=(false,eval a X.env)::Js [] X.env:=by rfl)(l:((backTo cpos (Js [] X.env)).any λ x=>x.1)=false:=by rfl)(b:Js [.Call (.Name "set" p2) [a] [] cpos] X.env=(false,eval (.Call (.Name "set" p2) [a] [] cpos) X.env)::Js [] X.env:=by rfl)(f:((backTo N (Js [] X.env)).any λ x=>x.1)=false:=by rfl) :
   VV c X (.Call (.Name "len" p) [.Call (.Name "set" p2) [a] [] cpos] [] N) true (f1 Hc O):=by
 refine⟨PE.mono (cbi qap0 g (qg5 (cty (qao6 r) i (qg5 o.h qy7 n) k (by rfl) (by decide) (by decide) n l) qy7 b) j (by rfl) (by decide) (by decide) b f) λ M H Q m=>?_⟩;obtain⟨F,s,A,d,S,e,q⟩:=m;obtain⟨x,t,e2⟩:=qaC6.mp e;cases x with
 | l z J =>
   obtain⟨u,w,y⟩:=zA1.mp e2;obtain⟨B,rfl⟩:=qi7 y;refine⟨F,s,A,_,S,t,λ v H1 B1 C D K=>?_⟩;obtain⟨a,L,A2,rfl,E,G,_⟩:=C.lst_inv;cases G.intsD w;refine⟨a,u,rfl,.inl (.inl E),B,λ p St I=>⟨p,St,_,rfl,qb8,?_⟩⟩;exact q _ _ [] (.int _) (D.trans (Same.new I)) λ _=>New.nil
 | _=>cases e2
theorem erev{p q:Pos}(f:VE c X a R):VE c X (.Subscript a (.Slice none none (some (.UnaryOp .USub (.Constant (.int 1) i p) q)) p2) N) (t1 gRev R):=by
 refine⟨PE.mono (qaS1 f.h) λ M H Q g=>?_,qaF7 f⟩;obtain⟨F,k,A,l,S,x,q⟩:=g;refine⟨F,k,A,l,S,x,f.m _ _ _ _ _ (λ n o q v H1 F1 T A1 r S1 B s=>?_) (λ _ _ z=>z) q⟩;have j:Oa F H A F1 H1 A1:=s.count λ b=>by rw[zA0];lia
 obtain⟨C,e,q⟩:=qa6.mp q;cases n with
 | l z D =>
   obtain⟨t,rfl⟩:=qi7 e;obtain⟨a,u,A2,rfl,w,y,_⟩:=r.lst_inv;refine⟨a,u,rfl,.inl (.inl w),λ p d=>?_⟩;exact q _ _ F1 [p] A1 (qs5 d (y.imms0 t).rev) (S1.same (Same.new d)) (S1.new (qf0 d) (Same.new d)) (j.trans ((qf0 d).stp (Same.new d)))
 | _=>cases e
def B7(f:Ds->Option D):VSp:=λ ds Q _=>orF (f ds) λ d=>Q d ds
theorem qu3{f:Ds->Option D}:Bl (B7 f):=λ a Q Q' e b c _=>qa4 λ d=>c d a
noncomputable def wOf(l:List Bool)(i:Nat):Bool:=l.getD i false
end
section
variable{c:Vc}{X:Cx}{NY:List Str}{sc:Scope}{src:List (Option Nat)}{tg elt e o a b:Kl}{ifs:List Kl}{g:VTG}{qf:VTT}{te:VT}{pos px spos p0:Pos}{x xn:Str}
def Gu(en:Ds->List D)(src:List (Option Nat))(i:Nat)(g:VTG)(qf:VTT)(te:VT):VT:=λ ds Q xe=>orF (rdN i ds) λ d=>orF d.lstOf λ ys=>D.imms ys=true/\Dz g qf te (λ acc ι'=>Q (.l false acc) ((E3 src ι' (Bs src (ds.set i .u)).2).set i d)) (en ys) [] (Bs src (ds.set i .u)).1
theorem qB6{en:Ds->List D}(bl:Blk X NY sc src tg ifs elt g qf te):E4 (Gu en src i g qf te):=λ e Q Q' f a b h=>qa4 λ d=>qa4 λ j=>Nb (qh9 bl (λ c ι=>b _ _) _ _ _)
theorem qau3{K:Nf}{en:Ds->List D}{wi:TI}{J:γ->It}(bl:Blk X NY sc src tg ifs elt g qf te)(E:X.N[i]? = some xn)(G:∀{a:γ}{vs:List V}{z:Bool}{ys:Ds}{T:List γ}{τ:List (Option V)}{o0:Ds}{Dd:γ}{F0:γ->Prop}{H0 H:Hp}{A0:List γ}{K0:Ds->Ds->Prop}{av:List (Option V)}{Q:Hp->Prop}{σ':St},D.imms ys=true->Mid src av (λ F H=>N9 F H (.ref a) (.l z ys) T/\H a=some (.l vs)) T τ o0 Dd F0 H0 A0 g qf te K0 (en ys) σ' H ->
     (∀ σ2 H2,Mid src av (λ F H=>N9 F H (.ref a) (.l z ys) T/\H a=some (.l vs)) T τ o0 Dd F0 H0 A0 g qf te K0 [] σ2 H2->Q H2)->qu6 (J a) (qm1 src g) (qm0 src qf) (Bm src te) Dd Q σ' H)(j:∀ σ H R,E9 i σ H (λ x H1=>∃ a,x=.ref a/\(∃ xs,SqL K H1 a xs)/\R (J a) H1)->wi σ H R):Imp c X (Gu en src i g qf te) (Dw wi src (qm1 src g) (qm0 src qf) (Bm src te)):=by
 rintro D8 s σ H Q I ⟨F,L,A,xe,S,x,q⟩;have h:=bl.lt D8 σ H s I;have M:=qr8 E D8 σ H s I;refine j σ H _ ?_;obtain⟨d,k,q⟩:=qa6.mp q;obtain⟨k,hk⟩:=qm5.mp k;obtain⟨ys,O,P,q⟩:=qa6.mp q;obtain⟨z,rfl⟩:=qr9 O;obtain⟨v,B,C,l,r,t,U⟩:=S.put1 k D.noConfusion;have n:=l;rw[zB2 M] at l;obtain⟨A1,Y,q2⟩:=U .u [] (Kp.same (F:=F) λ _ _ z=>z) (λ _ _ z=>z) (.u v);have u:Ok F H (B++A1):=S.ok.count λ b=>by rw[zA0,q2,t];simp
 have Z:Oa F H A F H (B++A1):=⟨λ b o e _=>e,λ b o e z=>by rw[zA0,q2];have:=t b;simp;lia,λ _ f=>f,λ _ _ _ _ f=>f⟩
 have S1:Ob c F H σ (L.set i .u) A1:=⟨Y,u.right,S.len,S.ag⟩
 obtain⟨a,vs,Ael,rfl,w,rs,_⟩:=r.lst_inv;refine⟨.ref a,l,a,rfl,⟨vs,.inl (.inl w)⟩,λ Dd hD=>G P (qx8 h S1 u ⟨r,w⟩ qn1 hD (qh9 bl (λ a0 ι q v H' F' B' A' rv S' hp y s=>?_) _ _ _ q)) λ σ2 H2 m=>qx9 h S1 m⟩;obtain⟨A2,k1,k2⟩:=qB8 S'.loc n hp.1;have p:∀ b,(B'++A2).count b<=(B'++(B++A')).count b:=λ b=>by have:=k2 b;simp only[zA0] at *;lia
 exact q v H' F' B' A2 rv ⟨k1,(y.count p).right,S.len,S.ag⟩ (y.count p) ((Z.trans s).count p)
theorem qaM9{K:Nf}(bl:Blk X NY sc src tg ifs elt g qf te)(a:X.N[i]? = some xn):Imp c X (Gu (λ ys=>ys) src i g qf te) (Dw (Gy K (E9 i)) src (qm1 src g) (qm0 src qf) (Bm src te)) :=
 qau3 (K:=K) (J:=Itl K) bl a (λ b m d=>qJ0 bl b m d) λ σ H R h=>h
theorem qaN0{K:Nf}(bl:Blk X NY sc src tg ifs elt g qf te)(b:X.N[i]? = some xn):Imp c X (Gu enD src i g qf te) (Dw (Ij K (G1 (E9 i) Ib)) src (qm1 src g) (qm0 src qf) (Bm src te)) :=
 qau3 (K:=K) (J:=Ite K) bl b (λ d m f=>qO3 bl d m f) λ σ H R ⟨v,h,a,e,j,k⟩=>⟨v,h,a,by rw[e],j,k⟩
theorem ecN(i:Nat)(bl:Blk X NY sc src tg ifs elt g qf te)(b:X.N[i]? = some xn:=by rfl)(d:Vis X.env.scope xn:=by first | exact N0 rfl | exact Nz (N0 rfl) | exact Nz (Nz rfl))(e:N' xn:=by decide)(a:(xn == ("__classdict__" : Str))=false:=by decide)(f:X.calm=true:=by rfl)(h:qp6 X NY src sc=true:=by rfl)(hs:∀ x,Jv (.Name xn p0) X.env x=pure x:=by intro _;rfl):VE c X (.ListComp elt [⟨tg,.Name xn p0,ifs,0⟩] sc pos) (Gu (λ ys=>ys) src i g qf te) :=
 qT2 (qw0 NY src (qv9 (qr2 b d e a)) bl.pg bl.pf bl.pe f h hs) (qaM9 bl b) (qB6 bl)
theorem ecEN(i:Nat){elts:List Kl}{e:Nat}{p cpos:Pos}(hm:X.mg "enumerate" = none)(bl:Blk X NY sc src (.Tuple elts e tpos) ifs elt g qf te)(f:X.N[i]? = some xn:=by rfl)(h:Vis X.env.scope xn:=by first | exact N0 rfl | exact Nz (N0 rfl) | exact Nz (Nz rfl))(j:N' xn:=by decide)(b:(xn == ("__classdict__" : Str))=false:=by decide)(d:Gl X "enumerate" := by rfl)(a:Js [.Name xn p0] X.env=[(false,eval (.Name xn p0) X.env)]:=by rfl)(k:X.calm=true:=by rfl)(l:qp6 X NY src sc=true:=by rfl)(hs:∀ x,Jv (.Call (.Name "enumerate" p) [.Name xn p0] [] cpos) X.env x=pure x:=by intro _;rfl):VE c X (.ListComp elt [⟨.Tuple elts e tpos,.Call (.Name "enumerate" p) [.Name xn p0] [] cpos,ifs,0⟩] sc pos) (Gu enD src i g qf te) :=
 qT2 (qw0 NY src (qar7 d hm (qg5 (qr2 f h j b) qy7 a) a) bl.pg bl.pf bl.pe k l hs) (qaN0 bl f) (qB6 bl)
theorem scN(i j:Nat)(b:X.N.Nodup)(bl:Blk X NY sc src tg ifs elt g qf te)(k:c.W i=false:=by rfl)(h:X.N[j]? = some xn:=by rfl)(l:Vis X.env.scope xn:=by first | exact N0 rfl | exact Nz (N0 rfl) | exact Nz (Nz rfl))(m:N' xn:=by decide)(d:(xn == ("__classdict__" : Str))=false:=by decide)(a:X.N[i]? = some x:=by rfl)(n:Loc X.env.scope x:=by first | exact N0 rfl | exact Nz rfl)(o:X.calm=true:=by rfl)(p:qp6 X NY src sc=true:=by rfl)(e:swapsWith (.ListComp elt [⟨tg,.Name xn p0,ifs,0⟩] sc pos) (some (.Name x px)) spos.line X.env=pure true:=by rfl)(hs:∀ x,Jv (.Name xn p0) X.env x=pure x:=by intro _;rfl)(f:X.fn x=true∨X.env.scope.names.lookup x=some .local:=by first | exact .inl rfl | exact .inr rfl | assumption):VS c X (.Assign [.Name x px] (.ListComp elt [⟨tg,.Name xn p0,ifs,0⟩] sc pos) spos) (Dt (Gu (λ ys=>ys) src j g qf te) (gNm i)) :=
 qaE6 (qar3 i NY src b (qv9 (qr2 h l m d)) bl.pg bl.pf bl.pe a n o p e hs f) (qaM9 bl h) (qB6 bl) k a
theorem qag7{d0:D}{ds:Ds}(h:ds[i]? = some (.hole w)):bk1 i [] w d0 ds=some (ds.set i d0):=by
 unfold bk1 As;rw[qE7 h];simp only[if_true];unfold As;rw[qB9 h]
theorem qe2{g:VTG}{qf:VTT}{te:VT}{K:Ds->Ds->Prop}(I:Ds->Prop)(f:D->Option D):∀(xs:List D)(acc ι:Ds),acc.length+xs.length < big->I ι->(∀ x∈xs,∀ ι acc,I ι->∀ R:Ds->Ds->Prop,(∀ ι',I ι'->R (acc++(f x).toList) ι')->acc.length < big->g x ι λ ι1=>qf ι1 (λ b ι2=>if b=true then te ι2 (λ d ι3=>acc.length < big/\R (acc++[d]) ι3) (λ _ _=>False) else R acc ι2) (λ _ _=>False))->(∀ ι',I ι'->K (acc++xs.filterMap f) ι')->Dz g qf te K xs acc ι
 | [],acc,ι,_,h,_,hK=>by
   have:=hK ι h
   rw[Lp,zAe] at this;exact this
 | x::xs,acc,ι,hl,h,hs,hK=>by
   refine hs x zA7 ι acc h (λ a i=>Dz g qf te K xs a i) (λ ι' hι=>?_) (by simp at hl;lia);refine qe2 I f xs _ ι' ?_ hι (λ y e=>hs y (zA3 _ e)) λ ι2 j=>?_
   . cases c:f x with
     | none=>simp at hl ⊢;lia
     | some y=>simp at hl ⊢;lia
   have:=hK ι2 j
   rw[zAz] at this;cases c:f x with
   | none=>rw[c] at this;simpa using this
   | some y=>rw[c] at this;simpa using this
end
section
variable{X:Cx}
theorem qz9(ns:List Int):∀ n:Nat,preSum (λ i=>ns.getD i 0) n=(ns.take n).sum
 | 0=>rfl
 | n+1=>by
   show preSum (λ i=>ns.getD i 0) n+ns.getD n 0=_;rw[qz9 ns n,sum_take_succ]
theorem qN5(w:X.calm=true):CallR X (.builtin "sum") (λ xs H Q=>∃(a:γ)(ns:List Int),xs=[.ref a]/\SqL X.K H a (ns.map V.int)/\Q (.int ns.sum) H):=by
 intro D8 s L H xs E Q I r h;obtain⟨a,ns,rfl,y,q⟩:=h;obtain⟨u,rfl,j⟩:=Bf r;cases j;have z:=I.ok.hd w;obtain⟨c,k,l,F⟩:=I.list y;refine call_sum_walkG (wpAny_pyIter_list l.isList ?_);have d:a < s.heap.objs.size:=let ⟨o,ho,_⟩:=l.isList;zAd ho
 refine⟨s.heap.objs.size,_,_,_,_,_,λ i=>ns.getD i 0,rfl,Walks.list (A:=X.A.in1) z _ a (zAq d) c.toArray,⟨⟨_,zAs _ rfl,rfl,rfl⟩,?_⟩,?_,?_,?_⟩
 . exact l.isList.at λ o e=>zA2 _ e
 . intro b m
   show b < (s.heap.push _).objs.size;rw[zCp];simp only[zAh,zBn,or_false] at m;rcases m with rfl | rfl
   . exact zCo _
   exact Nat.lt_succ_of_lt d
 . intro i v f
   have f:c[i]? = some v:=by simpa using f
   have n:i < ns.length:=by
     have G:=(zA5.mp f).1;have g:=k.length;rw[zA8] at g;lia
   obtain⟨u,p,j⟩:=k.get (i:=i) (x:=.int ns[i]) (by simp[n]);rw[f] at p;cases p;obtain⟨t,rfl⟩:=j;exact⟨t,by simp[Ln,n]⟩
 intro J B C D;have e:preSum (λ i=>ns.getD i 0) c.toArray.size=ns.sum:=by
   have g:=k.length;rw[zA8] at g;rw[qz9,zA6,<- g,zC1]
 rw[e];refine⟨.int _,H,?_,⟨_,rfl⟩,q⟩;exact I.kept (t':=B) λ b o e=>D b o (by simp;exact zAq (zAd e)) (zA2 _ e)
def gSum(x:D):Option D:=match x with
 | .l _ ys=>(intsD ys).map λ ns=>.int ns.sum
 | _=>none
theorem qaD3{K:Nf}:CS1 true (λ xs H Q=>∃(a:γ)(ns:List Int),xs=[.ref a]/\SqL K H a (ns.map V.int)/\Q (.int ns.sum) H) gSum:=by
 intro F H v x B d Q r h q;cases x with
 | l z f =>
   obtain⟨ns,b,rfl⟩:=zAa.mp h;obtain⟨a,g,A,rfl,c,e,_⟩:=r.lst_inv;cases e.intsD b;exact⟨a,ns,rfl,.inl (.inl c),q _ H [] (.int _) (λ _ _ z=>z) New.nil⟩
 | _=>cases h
end
section
def isMax(ns:List Int)(m:Int):Prop:=m∈ns/\∀ x∈ns,x<=m
end
structure MdN(K:Nf)(C:γ)(m qual:Str)(st:Km)(f:γ)(fd:δ)(ps:List Str):Prop where
 F:FunE K m qual st f fd
 b:Binds K fd ps []
 bn:Binds K fd ps [.none]
 me:Ia K C m f
 isf:W.isFn K (.ref f)=true
theorem mdmkN{K:Nf}{C:γ}{m qual:Str}{st:Km}{f T:γ}{ps:List Str}{oc to:V'}{v td g:Option γ}{p q:Array (Option V')}{kV e h d j:V'}(l:K.lookup f=some ⟨oc,v,.func (W.fnOf m qual (qe1 st) (qc6 st) (qa3 st) (.ref T) kV e h g d j),p⟩)(c:W.codeIn K d qual=true)(k:W.keepIn K (.ref f)=true)(a:W.findIn K (.ref C) m=some (some (.ref f)))(i:W.isFn K (.ref f)=true)(t:K.lookup T=some ⟨to,td,.seq #[.none] n,q⟩)(b:∀(kV e h:V')(g:Option γ)(d j:V')(us:List V'),us.length=ps.length->∃ k,bindArgs (W.fnOf m qual (qe1 st) (qc6 st) (qa3 st) (.ref T) kV e h g d j) ⟨us,[]⟩=seqItems? (.ref T) >>= k/\k (some #[.none])=pure (ps.zip us))(w:∀(kV e h:V')(g:Option γ)(d j:V')(us:List V'),us.length+1=ps.length->∃ k,bindArgs (W.fnOf m qual (qe1 st) (qc6 st) (qa3 st) (.ref T) kV e h g d j) ⟨us,[]⟩=seqItems? (.ref T) >>= k/\k (some #[.none])=pure (ps.zip (us++[.none]))) :
   MdN K C m qual st f (W.fnOf m qual (qe1 st) (qc6 st) (qa3 st) (.ref T) kV e h g d j) ps :=
 ⟨⟨⟨_,_,_,_,_,_,_,_,_,_,rfl,l,c⟩⟩,λ s us X o=>(by
   rw[zAe] at o ⊢;obtain⟨k,r,u⟩:=b kV e h g d j us o;exact W.binds_K X rfl t rfl r u),λ s us X o=>(by
   obtain⟨k,r,u⟩:=w kV e h g d j us (by rw[zAk] at o;exact o);exact W.binds_K X rfl t rfl r u),⟨a,i,k⟩,i⟩
end LV
namespace LV
open PySem L2
section
variable{c:Vc}{X:Cx}{e o:Kl}{Y:List Kl}{W:VTB}{own:Bool}{g:FV}{T U:Pos}{qual m:Str}{st:Km}{f C:γ}{fd:δ}{ps:List Str}{k:Nat}{s:VSp}{dvs:List V}{Z:Ds}
def qX4(C:γ)(m:Str)(s:VSp)(Z:Ds)(g:FV)(W:VTB):VT:=λ ds Q xe=>orF (g ds) λ d=>d.imm=true/\d.isM C m=true/\W ds (λ xs ps ds1=>s (d::(xs++Z)) (λ r ys=>orF (As (.no::ps) ys ds1) λ a=>Q r a) (λ x ys=>orF (As (.no::ps) ys ds1) λ a=>xe x a)) xe
theorem qab4(hs:Bl s)(f:VAs c X Y W):∀ ds (Q Q':DK) (xe b:XKd),(∀ d a,Q d a->Q' d a)->(∀ x a,xe x a->b x a)->qX4 C m s Z g W ds Q xe->qX4 C m s Z g W ds Q' b :=
 λ ds Q Q' xe b h e=>qa4 λ d=>Nb (Nb (f.m _ _ _ _ _ (λ k l i=>hs _ _ _ _ _ (λ d j=>qa4 λ z=>h _ _) (λ x j=>qa4 λ z=>e _ _)) e))
theorem qaz9(p:Go dvs Z)(hs:Bl s)(t:VAs c X Y W):∀ R H Q,Bd c (qX4 C m s Z g W) R H Q->G2 C m (Ff s) dvs c.E (liftV c own g) (Ew c W) R H Q:=by
 rintro R H Q ⟨F,k,A,u,S,x,q⟩;obtain⟨d,w,y,D,q⟩:=qa6.mp q;refine⟨F,k,A,d,S,w,λ v H1 B r e _=>?_⟩;obtain rfl:=r.imm y;obtain⟨a,G,I,rfl,f,i⟩:=r.isM D;refine⟨a,G,I,rfl,f,i,F,k,A,u,S.same e,x.step (Oa.same e),t.m _ _ _ _ _ (λ l P J q n H2 F2 T2 A2 K L S2 M o=>?_) (λ _ _ z=>z) q⟩;have j:N9 F2 H2 (.ref a) d []:=r.keep (o.kp (S.same e).ok (S.same e).loc.cells) λ b N=>by cases N
 exact qau4 (vs:=.ref a::n) (xs:=d::l) p hs S x (.cons j K) (.no L) S2 M ((Oa.same e).trans o) (λ d O h=>h) q
theorem qaD1{pl:Sem Bool}(D:Md X.K C m qual st f fd ps)(j:Cls X.K C)(G:Fb cm X.prog X.w X.K X.mg X.base k f fd ps s)(l:Lands X c.E)(n:Oc cm k X.A)(p:VV c X o own g)(a:VAs c X (e::Y) W)(d:Js (e::Y) X.env=(false,eval e X.env)::Js Y X.env:=by rfl)(i:(backTo T (Js Y X.env)).any (·.1)=false:=by rfl)(q:eval (.Call (.Attribute o m U) (e::Y) [] T) X.env=(do
     let ov <- eval o X.env
     standAt U.atName
     let (f,first) <- holding [ov] (getMethod ov m pl)
     callWith T f first (backTo T (Js (e::Y) X.env)) (backToKw T (J' [] X.env))):=by rfl):VE c X (.Call (.Attribute o m U) (e::Y) [] T) (qX4 C m s [] g W) :=
 ⟨PE.mono (qar9 p.h j D.me G.ok n D.b .nil l.passes a.h d i q) (qaz9 qx6 G.m a),qab4 G.m a⟩
end
theorem rm{cm:Bool}{j k:Nat}{A:Kj}(r:Oc cm k A)(h:j<=k:=by decide):Oc cm j A:=r.mono h
theorem VFn.mk2{cm:Bool}{P:Ki}{w:Kk}{K:Nf}{mg:Str->Option V'}{base:Heap}{x qual:Str}{st:Km}{f:γ}{fd:δ}{N ps:List Str}{k:Nat}{s:VSp}(Fu:Fun K x qual st f fd)(Sc:qa9 N ps (qa3 st))(W:Nat->Bool)(hs:Bl s)(h:∀ ds Q xe,s ds Q xe->ds.length=ps.length/\Gr W 0 ds=true)(hbody:∀(a:V')(A:Kj)(outer:List Env)(b:Sh)(H:Hp)(E:XK)(av:List (Option V)),Oc cm k (A.deeper (PyProof.Rows.envOfC qual (qa3 st) b.heap.objs.size f a)) ->
     ∃ t,VSs ⟨λ _=>E,W,av,[]⟩ (Eg cm (CX1 P w) P w K mg base N qual (qa3 st) f a A outer b H E) (qc6 st) t/\∀ ds Q xe,s ds Q xe->t (Jc W ds Q xe) (ds++K3 (N.length - ds.length) .u)) :
   Fb cm P w K mg base (k+1) f fd ps s:=VFn.mk' Fu Sc W hs (λ ds Q xe z=>(h ds Q xe z).1) (λ ds Q xe z=>(h ds Q xe z).2) hbody
end LV
namespace S6
open PySem PyProof.Rows
variable{N bs q:Nat}{arr xs:Array Ku}{f:Nat->Ku}{key:Ku}{kf:V'->Int×Int}{l:Bool}{vs:List V'}
section
variable{f:Type}{le:f->f->Bool}
theorem mg_l{A2:List f}:∀{A1 Y:List f},(∀ a∈A1,∀ y∈Y,le a y=true)->K4 (A1++A2) Y le=A1++K4 A2 Y le
 | [],_,_=>rfl
 | x::A1,[],_=>by simp
 | x::A1,y::Y,h=>by
   rw[zC0,zBd,if_pos (h x (by simp) y (by simp)),mg_l λ a b=>h a (by simp[b])];rfl
theorem mg_r{B2:List f}:∀{B1 X:List f},(∀ b∈B1,∀ x∈X,le x b=false)->K4 X (B1++B2) le=B1++K4 X B2 le
 | [],_,_=>rfl
 | b::B1,[],_=>by simp
 | b::B1,x::X,h=>by
   rw[zC0,zBd,if_neg (by simp[h b (by simp) x (by simp)]),mg_r λ a c=>h a (by simp[c])];rfl
theorem Je{A2:List f}:∀{A1 Y:List f},(∀ a∈A2,∀ y∈Y,le a y=false)->K4 (A1++A2) Y le=K4 A1 Y le++A2
 | [],Y,h=>by
   have:=mg_r (B2:=[]) (B1:=Y) (X:=A2) (le:=le) λ y c a b=>h a b y c
   simpa using this
 | x::A1,[],_=>by simp
 | x::A1,y::Y,h=>by
   rw[zC0,zBd,zBd];split
   . rw[Je h];rfl
   rw[<- zC0,Je λ a b z d=>h a b z (by simp[d])];rfl
theorem Hd{B2:List f}:∀{B1 X:List f},(∀ b∈B2,∀ x∈X,le x b=true)->K4 X (B1++B2) le=K4 X B1 le++B2
 | [],X,h=>by
   have:=mg_l (A2:=[]) (A1:=X) (Y:=B2) (le:=le) λ y d a c=>h a c y d
   simpa using this
 | b::B1,[],_=>by simp
 | b::B1,x::X,h=>by
   rw[zC0,zBd,zBd];split
   . rw[<- zC0,Hd λ a c z e=>h a c z (by simp[e])];rfl
   rw[Hd h];rfl
end
noncomputable def gal:Bool->Ku->Array Ku->Nat->Nat->Nat->StateT Kv Sem (Option Nat):=sortPriv% PySem.Builtin.gallop
def bey(l:Bool)(key:Ku)(arr:Array Ku)(i:Nat):StateT Kv Sem (Option Bool):=do
 let x <- elem' arr i
 if l then lt' x key else return (<- lt' key x).map (!·)
theorem qaV9(l:Bool)(key:Ku)(arr:Array Ku)(bs n g:Nat):gal l key arr bs n g=(do
 let mut p:=0
 let mut o:=1
 let mut u:=0
 let mut v:=0
 let some t <- bey l key arr (bs+g) | return none
 if t then
   let mo:=n - g
   for _ in [0:n] do
     if o ≥ mo then break
     let some c <- bey l key arr (bs+(g+o)) | return none
     if !c then break
     p:=o
     o:=2 * o+1
   u:=g+p+1
   v:=g+min o mo
 else
   let mo:=g+1
   for _ in [0:n] do
     if o ≥ mo then break
     let some c <- bey l key arr (bs+(g - o)) | return none
     if c then break
     p:=o
     o:=2 * o+1
   u:=g+1 - min o mo
   v:=g - p
 for _ in [0:n] do
   if u ≥ v then break
   let m:=u+(v - u) / 2
   let some c <- bey l key arr (bs+m) | return none
   if c then u:=m+1 else v:=m
 return some v):=rfl
section
variable{M:Model}{A:Kj}{E:V'->Sh->Prop}{s:Sh}{l n o:Type}{Q:o->l->Prop}{m:l}
theorem gB{f:l->StateT l Sem o}(h:wpS M A E s (f m) Q m):wpS M A E s (get >>= f) Q m:=Kn (wpS_get h)
theorem rB{t:String}{f:Unit->StateT l Sem o}(h:wpS M A E s (f ()) Q m):wpS M A E s (liftM (rule t) >>= f) Q m:=Kn (wpS_lift (Kb ⟨rfl,h⟩))
theorem fB{a b:Nat}{f:Nat->n->StateT l Sem (ForInStep n)}{g:n->StateT l Sem o}{c:n}(I:Nat->n->l->Prop)(R:n->l->Prop)(h1:∀ F,f=F->∀ i c m,a<=i->i < b->I i c m->∀ K:ForInStep n->l->Prop,(∀ e d,R e d->K (.done e) d)->(∀ e d,I (i+1) e d->K (.yield e) d)->wpS M A E s (F i c) K m)(h2:∀ c m,I (max a b) c m->R c m)(j:I a c m)(k:∀ F,g=F->∀ c m,R c m->wpS M A E s (F c) Q m):wpS M A E s (forIn [a:b] c f >>= g) Q m :=
 Kn (wpS_mono (wpS_forRange I (λ i c m x y z=>h1 f rfl i c m x y z _ (λ _ _ h=>h) λ _ _ h=>h) h2 j) (k g rfl))
end
structure Od(lt:Ku->Ku->Bool):Prop where
 as:∀ x y,lt x y=true->lt y x=false
 tr:∀ x y z,lt y x=false->lt z y=false->lt z x=false
def Cm(prog:Ki)(w:Kk)(A:Kj)(s:Sh)(kd:SortKind)(P:Ku->Prop)(lt:Ku->Ku->Bool):Prop :=
 ∀ x y,P x->P y->∀(E:V'->Sh->Prop)(Q:Bool->Sh->Prop),Q (lt x y) s->Kg (Kh prog w) A (keyLt' kd x.1 y.1) Q E s
section
variable{prog:Ki}{w:Kk}{A:Kj}{E:V'->Sh->Prop}{s:Sh}{kd:SortKind}{P:Ku->Prop}{lt:Ku->Ku->Bool}{st:Kv}
theorem Od.ir(h:Od lt)(x:Ku):lt x x=false:=by
 cases e:lt x x with
 | false=>rfl
 | true=>rw[h.as x x e] at e;cases e
theorem wlt{x y:Ku}{Q:Option Bool->Kv->Prop}(a:Cm prog w A s kd P lt)(b:Kw st=kd)(c:P x)(d:P y)(h:Q (some (lt x y)) st):wpS (Kh prog w) A E s (lt' x y) Q st:=by
 rw[lt'_eq];refine gB ?_;rw[b];exact Kn (wpS_lift (wpAny_attempt (a x y c d _ _ ⟨rfl,Ko h⟩)))
theorem wel{i:Nat}{p:Ku}{Q:Ku->Kv->Prop}(hi:arr[i]? = some p)(h:Q p st):wpS (Kh prog w) A E s (elem' arr i) Q st:=by
 rw[elem'_eq,hi];exact Ko h
def B(lt:Ku->Ku->Bool)(l:Bool)(key x:Ku):Bool:=if l then lt x key else !lt key x
theorem wif{α:Type}{c:Prop}[Decidable c]{m n:StateT Kv Sem α}{Q:α->Kv->Prop}(h1:c->wpS (Kh prog w) A E s m Q st)(h2:¬ c->wpS (Kh prog w) A E s n Q st):wpS (Kh prog w) A E s (if c then m else n) Q st:=by
 by_cases h:c
 . rw[if_pos h];exact h1 h
 rw[if_neg h];exact h2 h
section
variable{u v n x i g o p:Nat}
theorem l2o(o:Nat):o+1<=2 * o+1:=by lia
theorem g1(c:¬ u ≥ v)(h:v - u<=n - x):u+(v - u) / 2 < v/\v - (u+(v - u) / 2+1)<=n - (x+1)/\u+(v - u) / 2 - u<=n - (x+1):=by
 have q:=Nat.div_lt_self (Nat.sub_pos_of_lt (Nat.lt_of_not_le c)) (zA4 2);generalize (v - u) / 2=m at *
 have t:=Nat.sub_le_sub_right h 1;exact⟨Nat.add_lt_of_lt_sub' q,zAm (Nat.sub_le_sub_left (zCn (Nat.le_add_right u m)) v) t,by rw[Nat.add_sub_cancel_left];exact zAm (Nat.le_pred_of_lt q) t⟩
theorem g2(h:v - u<=n - max 0 n)(hi:i < v):i < u:=by lia
theorem g3(h:max 0 n+1<=o)(h':o < n - g):False:=by lia
theorem g8(h:max 0 n+1<=o)(a:g < n)(h':o < g+1):False:=by lia
theorem g4(h:p < o)(h':g+p < n):g+p+1<=g+min o (n - g)/\g+min o (n - g)<=n:=by lia
theorem g5(h:g+min o (n - g)<=i)(h':i < n):g+o<=i/\o < n - g:=by lia
theorem g6(h:p < o)(h':p<=g):g+1 - min o (g+1)<=g - p:=by lia
theorem g7(h:i < g+1 - min o (g+1)):i<=g - o/\o < g+1:=by
 by_cases c:o < g+1
 . rw[zCt (zBf c)] at h;exact⟨by lia,c⟩
 rw[Nat.min_eq_right (Nat.le_of_not_lt c),Nat.sub_self] at h;exact absurd h (zC5 _)
end
theorem yB{β:Type}{x:Ku}{i:Nat}{f:Option Bool->StateT Kv Sem β}{Q:β->Kv->Prop}(a:Cm prog w A s kd P lt)(b:Kw st=kd)(hi:arr[i]? = some x)(c:P x)(d:P key)(h:B lt l key x=true->wpS (Kh prog w) A E s (f (some true)) Q st)(h':B lt l key x=false->wpS (Kh prog w) A E s (f (some false)) Q st):wpS (Kh prog w) A E s (bey l key arr i >>= f) Q st:=by
 have e:wpS (Kh prog w) A E s (f (some (B lt l key x))) Q st:=by cases e:B lt l key x with | true=>exact h e | false=>exact h' e
 refine Kn ?_;unfold bey;refine Kn (wel hi ?_);cases l with
 | true=>exact wlt a b c d e
 | false=>exact Kn (wlt a b d c (Ko e))
theorem wgal{n g:Nat}{Q:Option Nat->Kv->Prop}(O:Cm prog w A s kd P lt)(R:Kw st=kd)(S:P key)(T:∀ i,i < n->arr[bs+i]? = some (f i))(U:∀ i,i < n->P (f i))(hm:∀ i j,i<=j->j < n->B lt l key (f j)=true->B lt l key (f i)=true)(J:g < n)(h:∀ k,k<=n->(∀ i,i < k->B lt l key (f i)=true)->(∀ i,k<=i->i < n->B lt l key (f i)=false)->Q (some k) st):wpS (Kh prog w) A E s (gal l key arr bs n g) Q st:=by
 have L:∀ i j,i<=j->j < n->B lt l key (f i)=false->B lt l key (f j)=false:=λ i j a b c=>by
   cases e:B lt l key (f j) with
   | false=>rfl
   | true=>rw[hm i j a b e] at c;cases c
 have fin:∀ u v,u<=v->v<=n->(∀ i,i < u->B lt l key (f i)=true)->(∀ i,v<=i->i < n->B lt l key (f i)=false) ->
    wpS (Kh prog w) A E s (do
      let mut u:=u
      let mut v:=v
      for _ in [0:n] do
       if u ≥ v then break
       let m:=u+(v - u) / 2
       let some c <- bey l key arr (bs+m) | return none
       if c then u:=m+1 else v:=m
      return some v) Q st:=by
   intro u v Z X a3 a4;refine fB (λ x c d=>d=st/\c.1=none/\c.2.1<=c.2.2/\c.2.2<=n/\c.2.2 - c.2.1<=n - x/\(∀ i,i < c.2.1->B lt l key (f i)=true)/\(∀ i,c.2.2<=i->i < n->B lt l key (f i)=false)) (λ c d=>d=st/\c.1=none/\c.2.2<=n/\(∀ i,i < c.2.2->B lt l key (f i)=true)/\(∀ i,c.2.2<=i->i < n->B lt l key (f i)=false)) ?_ ?_ ⟨rfl,rfl,Z,X,zAm (zCh v u) X,a3,a4⟩ ?_
   . rintro F z x ⟨_,u,v⟩ d - Y ⟨rfl,rfl,y,C,t,r,H⟩ K p q
     subst z;refine wif (λ c=>Ko (p _ _ ⟨rfl,rfl,C,λ i I=>r i (zAp I c),H⟩)) λ c=>?_
     have m:=g1 (u:=u) (v:=v) c t;have V:=zAp m.1 C;exact yB O R (T _ V) (U _ V) S (λ G=>Ko (q _ _ ⟨rfl,rfl,m.1,C,m.2.1,λ i I=>hm i _ (zC3 I) V G,H⟩)) λ G=>Ko (q _ _ ⟨rfl,rfl,Nat.le_add_right _ _,zBf V,m.2.2,r,λ i D M=>L _ i D M G⟩)
   . exact λ c d ⟨N,D,y,C,t,r,H⟩=>⟨N,D,C,λ i I=>r i (g2 t I),H⟩
   rintro F z ⟨_,u,v⟩ d ⟨rfl,rfl,C,r,H⟩;subst z;exact Ko (h v C r H)
 rw[qaV9];refine yB O R (T _ J) (U _ J) S (λ W=>wif (λ _=>?_) λ c=>absurd rfl c) λ W=>wif (λ c=>nomatch c) λ _=>?_
 . refine fB (λ x c d=>d=st/\c.1=none/\c.2.1 < c.2.2/\x+1<=c.2.2/\g+c.2.1 < n/\B lt l key (f (g+c.2.1))=true) (λ c d=>d=st/\c.1=none/\c.2.1 < c.2.2/\g+c.2.1 < n/\B lt l key (f (g+c.2.1))=true/\(c.2.2 < n - g->B lt l key (f (g+c.2.2))=false)) ?_ ?_ ⟨rfl,rfl,Nat.one_pos,zA4 _,J,W⟩ ?_
   . rintro F z x ⟨_,p,o⟩ d - Y ⟨rfl,rfl,y,C,t,r⟩ K u v
     subst z;refine wif (λ c=>Ko (u _ _ ⟨rfl,rfl,y,t,r,λ h=>absurd h (Nat.not_lt_of_le c)⟩)) λ c=>?_
     have m:g+o < n:=Nat.add_lt_of_lt_sub' (Nat.lt_of_not_le c);exact yB O R (T _ m) (U _ m) S (λ G=>Ko (v _ _ ⟨rfl,rfl,l2o o,zAm (zCn C) (l2o o),m,G⟩)) λ G=>Ko (u _ _ ⟨rfl,rfl,y,t,r,λ _=>G⟩)
   . exact λ c d ⟨N,D,y,C,t,r⟩=>⟨N,D,y,t,r,λ h=>(g3 C h).elim⟩
   rintro F z ⟨_,p,o⟩ d ⟨rfl,rfl,y,t,r,H⟩;subst z;exact fin (g+p+1) (g+min o (n - g)) (g4 y t).1 (g4 y t).2 (λ i I=>hm i _ (zC3 I) t r) λ i D M=>L (g+o) i (g5 D M).1 M (H (g5 D M).2)
 refine fB (λ x c d=>d=st/\c.1=none/\c.2.1 < c.2.2/\x+1<=c.2.2/\c.2.1<=g/\B lt l key (f (g - c.2.1))=false) (λ c d=>d=st/\c.1=none/\c.2.1 < c.2.2/\c.2.1<=g/\B lt l key (f (g - c.2.1))=false/\(c.2.2 < g+1->B lt l key (f (g - c.2.2))=true)) ?_ ?_ ⟨rfl,rfl,Nat.one_pos,zA4 _,zBi _,W⟩ ?_
 . rintro F z x ⟨_,p,o⟩ d - Y ⟨rfl,rfl,y,C,t,r⟩ K u v
   subst z;have m:g - o < n:=zCd (zCh g o) J;exact wif (λ c=>Ko (u _ _ ⟨rfl,rfl,y,t,r,λ h=>absurd h (Nat.not_lt_of_le c)⟩)) λ c=>yB O R (T _ m) (U _ m) S (λ G=>Ko (u _ _ ⟨rfl,rfl,y,t,r,λ _=>G⟩)) λ G=>Ko (v _ _ ⟨rfl,rfl,l2o o,zAm (zCn C) (l2o o),zC3 (Nat.lt_of_not_le c),G⟩)
 . exact λ c d ⟨N,D,y,C,t,r⟩=>⟨N,D,y,t,r,λ h=>(g8 C J h).elim⟩
 rintro F z ⟨_,p,o⟩ d ⟨rfl,rfl,y,t,r,H⟩;subst z;exact fin (g+1 - min o (g+1)) (g - p) (g6 y t) (zAm (zCh g p) (zBf J)) (λ i I=>hm i (g - o) (g7 I).1 (zCd (zCh g o) J) (H (g7 I).2)) λ i D M=>L _ i D M r
end
noncomputable abbrev lee(lt:Ku->Ku->Bool):Ku->Ku->Bool:=λ x y=>!lt y x
section
variable{d:Type}{le:d->d->Bool}
theorem Jf{A2 Y:List d}{y:d}:∀{A1:List d},(∀ a∈A1,le a y=true)->K4 (A1++A2) (y::Y) le=A1++K4 A2 (y::Y) le
 | [],_=>rfl
 | x::A1,h=>by rw[zC0,zBd,if_pos (h x (by simp)),Jf λ a b=>h a (by simp[b])];rfl
theorem Jg{B2 X:List d}{x:d}:∀{B1:List d},(∀ b∈B1,le x b=false)->K4 (x::X) (B1++B2) le=B1++K4 (x::X) B2 le
 | [],_=>rfl
 | b::B1,h=>by rw[zC0,zBd,if_neg (by simp[h b (by simp)]),Jg λ a c=>h a (by simp[c])];rfl
end
noncomputable def att(a:Array Ku)(i:Nat):Ku:=a.getD i (M4,M4)
theorem qO0{a:Array Ku}{i:Nat}(h:i < a.size):a[i]? = some (att a i):=by simp[att,Array.getD,h]
theorem Ed{a:Array Ku}{i:Nat}(h:i < a.size):a.toList.drop i=att a i::a.toList.drop (i+1):=by
 rw[zCe (by simpa using h)];simp[att,Array.getD,h]
def Srt(lt:Ku->Ku->Bool)(f:Nat->Ku)(n:Nat):Prop:=∀ i j,i<=j->j < n->lt (f j) (f i)=false
theorem Srt.drop{lt:Ku->Ku->Bool}{n k:Nat}(h:Srt lt f n):Srt lt (λ i=>f (k+i)) (n - k):=λ i j a b=>h _ _ (by lia) (by lia)
theorem qs7{a:Array Ku}{i k:Nat}{x:Ku}(h:x∈(a.toList.drop i).take k):∃ j,j < k/\i+j < a.size/\x=att a (i+j):=by
 obtain⟨j,b,e⟩:=List.mem_iff_getElem.mp h;rw[zBh,zBz,zBb] at b;refine⟨j,by lia,by lia,?_⟩;rw[<- e,Mh,Mi];simp[att,Array.getD,show i+j < a.size by lia]
theorem qc5{a:Array Ku}{i j:Nat}:(a.extract i j).toList=(a.toList.drop i).take (j - i):=by simp[List.take_drop]
section
variable{prog:Ki}{w:Kk}{A:Kj}{E:V'->Sh->Prop}{s:Sh}{kd:SortKind}{P:Ku->Prop}{lt:Ku->Ku->Bool}{st:Kv}
theorem wgs{n g:Nat}{Q:Option Nat->Kv->Prop}(b:Od lt)(m:Cm prog w A s kd P lt)(o:Kw st=kd)(p:P key)(v:bs+n<=arr.size)(q:∀ i,i < arr.size->P (att arr i))(hs:Srt lt (λ i=>att arr (bs+i)) n)(r:g < n)(h:∀ k,k<=n->(∀ i,i < k->B lt l key (att arr (bs+i))=true)->(∀ i,k<=i->i < n->B lt l key (att arr (bs+i))=false)->Q (some k) st):wpS (Kh prog w) A E s (gal l key arr bs n g) Q st:=by
 refine wgal (f:=λ i=>att arr (bs+i)) m o p (λ i t=>qO0 (by lia)) (λ i t=>q _ (by lia)) (λ i j a u c=>?_) r h;have d:=hs i j a u;cases l with
 | false =>
   have e:lt key (att arr (bs+j))=false:=by simpa[B] using c
   show (!lt key (att arr (bs+i)))=true;rw[b.tr _ _ _ d e];rfl
 | true =>
   show lt (att arr (bs+i)) key=true;cases e:lt (att arr (bs+i)) key with
   | true=>rfl
   | false=>have:=b.tr _ _ _ e d;rw[show lt (att arr (bs+j)) key=true from c] at this;cases this
def R(st a:Kv):Prop:=Kw a=Kw st/\Kt a=Kt st/\Kq a=Kq st/\Kr a=Kr st
noncomputable def mlo:Array Ku->Array Ku->StateT Kv Sem (Array Ku):=sortPriv% PySem.Builtin.mergeLo
noncomputable def smg:Nat->StateT Kv Sem Unit:=sortPriv% PySem.Builtin.setMinGallop
theorem qaU0(a b:Array Ku):mlo a b=(do
 rule "list.sort.merge-lo"
 let tt:=a.size+b.size
 let dn (o:Array Ku) (i j:Nat):=o++a.extract i a.size++b.extract j b.size
 let la (o:Array Ku) (i j:Nat):=o++b.extract j b.size++a.extract i a.size
 let mut o:Array Ku:=#[<- elem' b 0]
 let mut i:=0
 let mut j:=1
 if j == b.size then return dn o i j
 if i+1 == a.size then return la o i j
 let mut g:=gallopOf (<- get)
 for _ in [0:tt] do
   let mut x:=0
   let mut y:=0
   for _ in [0:tt] do
     let some t <- lt' (<- elem' b j) (<- elem' a i) | return dn o i j
     if t then
       o:=o.push (<- elem' b j);j:=j+1;y:=y+1;x:=0
       if j == b.size then return dn o i j
       if y ≥ g then break
     else
       o:=o.push (<- elem' a i);i:=i+1;x:=x+1;y:=0
       if i+1 == a.size then return la o i j
       if x ≥ g then break
   rule "list.sort.gallop"
   g:=g+1
   for _ in [0:tt] do
     if g > 1 then g:=g - 1
     smg g
     let some k <- gal false (<- elem' b j) a i (a.size - i) 0 | return dn o i j
     x:=k
     if k > 0 then
       o:=o++a.extract i (i+k);i:=i+k
       if i+1 == a.size then return la o i j
       if i == a.size then return dn o i j
     o:=o.push (<- elem' b j);j:=j+1
     if j == b.size then return dn o i j
     let some k <- gal true (<- elem' a i) b j (b.size - j) 0 | return dn o i j
     y:=k
     if k > 0 then
       o:=o++b.extract j (j+k);j:=j+k
       if j == b.size then return dn o i j
     o:=o.push (<- elem' a i);i:=i+1
     if i+1 == a.size then return la o i j
     if x < 7&&y < 7 then break
   g:=g+1
   smg g
 unsupported "internal:list.sort.merge-bound"):=rfl
def Eq2(lt:Ku->Ku->Bool)(a b o:Array Ku)(i j:Nat):Prop:=o.toList++K4 (a.toList.drop i) (b.toList.drop j) (lee lt)=K4 a.toList b.toList (lee lt)
variable{a b o:Array Ku}{i j k:Nat}
theorem Eq2.done(h:Eq2 lt a b o i j)(c:j=b.size∨i=a.size):(o++a.extract i a.size++b.extract j b.size).toList=K4 a.toList b.toList (lee lt):=by
 rw[<- h,zBa,zBa,qc5,qc5,zAw];congr 1;rw[zAr (by simp),zAr (by simp)];rcases c with rfl | rfl
 . rw[show b.toList.drop b.size=[] by simp,zAe,Mo]
 rw[show a.toList.drop a.size=[] by simp,zB0,Mp]
theorem Eq2.last(h:Eq2 lt a b o i j)(hi:i+1=a.size)(d:∀ n,n < b.size->lt (att b n) (att a i)=true):(o++b.extract j b.size++a.extract i a.size).toList=K4 a.toList b.toList (lee lt):=by
 rw[<- h,zBa,zBa,qc5,qc5,zAw];congr 1;rw[zAr (by simp),zAr (by simp),Ed (a:=a) (i:=i) (by lia),show a.toList.drop (i+1)=[] from List.drop_eq_nil_of_le (by simp;lia)]
 have:=Jg (le:=lee lt) (B2:=[]) (X:=[]) (x:=att a i) (B1:=b.toList.drop j) λ x c=>by
   rw[<- zAr (l:=b.toList.drop j) (zA4 _)] at c;obtain⟨n,_,e,rfl⟩:=qs7 c;simp[d _ e]
 rw[zAe] at this;rw[this];simp
theorem Eq2.pb(h:Eq2 lt a b o i j)(hi:i < a.size)(c:j < b.size)(d:lt (att b j) (att a i)=true):Eq2 lt a b (o.push (att b j)) i (j+1):=by
 unfold Eq2 at h ⊢;rw[<- h,Array.toList_push,zAw,Ed hi,Ed c,zBd,if_neg (by simp[d])];rfl
theorem Eq2.pa(h:Eq2 lt a b o i j)(hi:i < a.size)(c:j < b.size)(d:lt (att b j) (att a i)=false):Eq2 lt a b (o.push (att a i)) (i+1) j:=by
 unfold Eq2 at h ⊢;rw[<- h,Array.toList_push,zAw,Ed hi,Ed c,zBd,if_pos (by simp[d])];rfl
theorem Eq2.ga(h:Eq2 lt a b o i j)(c:j < b.size)(d:∀ n,n < k->i+n < a.size->lt (att b j) (att a (i+n))=false):Eq2 lt a b (o++a.extract i (i+k)) (i+k) j:=by
 unfold Eq2 at h ⊢;rw[<- h,zBa,qc5,zAw,show i+k - i=k by lia,Ed c];congr 1
 conv=>rhs;rw[<- zBg k (a.toList.drop i)]
 rw[Jf (le:=lee lt),L6];intro x e;obtain⟨n,f,g,rfl⟩:=qs7 e;simp[d n f g]
theorem Eq2.gb(h:Eq2 lt a b o i j)(hi:i < a.size)(c:∀ n,n < k->j+n < b.size->lt (att b (j+n)) (att a i)=true):Eq2 lt a b (o++b.extract j (j+k)) i (j+k):=by
 unfold Eq2 at h ⊢;rw[<- h,zBa,qc5,zAw,show j+k - j=k by lia,Ed hi];congr 1
 conv=>rhs;rw[<- zBg k (b.toList.drop j)]
 rw[Jg (le:=lee lt),L6];intro x d;obtain⟨n,e,f,rfl⟩:=qs7 d;simp[c n e f]
section
variable{β:Type}{Q:β->Kv->Prop}
theorem eB{f:Ku->StateT Kv Sem β}(hi:i < a.size)(h:wpS (Kh prog w) A E s (f (att a i)) Q st):wpS (Kh prog w) A E s (elem' a i >>= f) Q st:=Kn (wel (qO0 hi) h)
theorem lB{x y:Ku}{f:Option Bool->StateT Kv Sem β}(a:Cm prog w A s kd P lt)(b:Kw st=kd)(c:P x)(d:P y)(h:lt x y=true->wpS (Kh prog w) A E s (f (some true)) Q st)(h':lt x y=false->wpS (Kh prog w) A E s (f (some false)) Q st):wpS (Kh prog w) A E s (lt' x y >>= f) Q st:=Kn (wlt a b c d (by cases e:lt x y<;>simp_all))
theorem mB{g:Nat}{a:Kv}{f:Unit->StateT Kv Sem β}(c:R a st)(h:∀ b,R a b->wpS (Kh prog w) A E s (f ()) Q b):wpS (Kh prog w) A E s (smg g >>= f) Q st:=Kn (Ks (h _ c))
theorem sB{f:Option Nat->StateT Kv Sem β}(e:Od lt)(g:Cm prog w A s kd P lt)(j:Kw st=kd)(m:P key)(n:∀ i,i < arr.size->P (att arr i))(hs:Srt lt (att arr) arr.size)(o:bs < arr.size)(h:∀ k,bs+k<=arr.size->(∀ i,i < k->B lt l key (att arr (bs+i))=true)->(bs+k < arr.size->B lt l key (att arr (bs+k))=false)->wpS (Kh prog w) A E s (f (some k)) Q st):wpS (Kh prog w) A E s (gal l key arr bs (arr.size - bs) 0 >>= f) Q st:=Kn (wgs e g j m (by lia) n hs.drop (by lia) λ k a b c=>h k (by lia) b λ d=>c k (zA4 _) (by lia))
end
theorem ltn{x y:Nat}(h:¬ (x == y)=true)(h':x<=y):x < y:=Nat.lt_of_le_of_ne h' λ e=>h (zBx.mpr e)
theorem sa{x i j:Nat}(h:x<=i+j):x+1<=i+1+j:=Nat.succ_add i j ▸ zCn h
theorem la{x i j k:Nat}(h:x<=i+j):x<=i+(j+k):=by lia
theorem lb{x i j k:Nat}(h:x<=i+j):x<=i+k+j:=by lia
theorem nt{b:Bool}(h:(!b)=true):b=false:=by simpa using h
theorem nf{b:Bool}(h:(!b)=false):b=true:=by simpa using h
theorem wmlo{Q:Array Ku->Kv->Prop}(hO:Od lt)(Y:Cm prog w A s kd P lt)(Z:Kw st=kd)(L:∀ n,n < a.size->P (att a n))(M:∀ n,n < b.size->P (att b n))(a0:Srt lt (att a) a.size)(a1:Srt lt (att b) b.size)(V:0 < a.size)(N:0 < b.size)(h0:lt (att b 0) (att a 0)=true)(hl:∀ n,n < b.size->lt (att b n) (att a (a.size - 1))=true)(h:∀ r f,R st f->r.toList=K4 a.toList b.toList (lee lt)->Q r f):wpS (Kh prog w) A E s (mlo a b) Q st:=by
 have H:∀ i,i+1=a.size->∀ n,n < b.size->lt (att b n) (att a i)=true:=λ i e n hn=>by rw[Nat.eq_sub_of_add_eq e];exact hl n hn
 have e1:Eq2 lt a b #[att b 0] 0 1:=Eq2.pb (o:=#[]) (i:=0) (j:=0) rfl V N h0;rw[qaU0];refine rB (eB N (wif (λ c=>Ko (h _ st ⟨rfl,rfl,rfl,rfl⟩ (e1.done (.inl (eq_of_beq c))))) λ c1=>wif (λ c=>Ko (h _ st ⟨rfl,rfl,rfl,rfl⟩ (e1.last (eq_of_beq c) (H 0 (eq_of_beq c))))) λ c2=>gB ?_))
 let D (c:Option (Array Ku)):Prop:=∃ r,c=some r/\r.toList=K4 a.toList b.toList (lee lt)
 let G (n:Nat) (o:Array Ku) (i j:Nat):Prop:=Eq2 lt a b o i j/\i+1 < a.size/\j < b.size/\n<=i+j
 refine fB (λ x c f=>R st f/\c.1=none/\G (x+1) c.2.1 c.2.2.1 c.2.2.2.1) (λ c f=>R st f/\D c.1) ?_ ?_ ⟨⟨rfl,rfl,rfl,rfl⟩,rfl,e1,ltn c2 V,ltn c1 N,zA4 _⟩ ?_
 . rintro F z x ⟨_,o,i,j,g⟩ O - hx ⟨W,rfl,g1,g2,g3,g4⟩ K p n
   subst z;refine fB (λ y c f=>R st f/\c.1=none/\G (x+1+y) c.2.1 c.2.2.1 c.2.2.2.1) (λ c f=>R st f/\(D c.1∨c.1=none/\G (x+2) c.2.1 c.2.2.1 c.2.2.2.1)) ?_ ?_ ⟨W,rfl,g1,g2,g3,g4⟩ ?_
   . rintro F z y ⟨_,o,i,j,_,_⟩ S - hy ⟨m,rfl,v,t,l,B⟩ K p n
     subst z;have I:=zBu t;have k6:=zAm (Nat.le_add_right (x+1) y) B;refine eB l (eB I (lB Y (m.1.trans Z) (M _ l) (L _ I) (λ hb=>?_) λ hb=>?_))
     . have e2:=v.pb I l hb
       exact eB l (wif (λ c=>Ko (p _ _ ⟨m,.inl ⟨_,rfl,e2.done (.inl (eq_of_beq c))⟩⟩)) λ c=>wif (λ _=>Ko (p _ _ ⟨m,.inr ⟨rfl,e2,t,ltn c l,zCn k6⟩⟩)) λ _=>Ko (n _ _ ⟨m,rfl,e2,t,ltn c l,zCn B⟩))
     have e2:=v.pa I l hb;exact eB I (wif (λ c=>Ko (p _ _ ⟨m,.inl ⟨_,rfl,e2.last (eq_of_beq c) (H _ (eq_of_beq c))⟩⟩)) λ c=>wif (λ _=>Ko (p _ _ ⟨m,.inr ⟨rfl,e2,ltn c t,l,sa k6⟩⟩)) λ _=>Ko (n _ _ ⟨m,rfl,e2,ltn c t,l,sa B⟩))
   . rintro c S ⟨m,k0,v,t,l,B⟩
     exact⟨m,.inr ⟨k0,v,t,l,by lia⟩⟩
   rintro F z ⟨c,c'⟩ S ⟨m,⟨r,rfl,e⟩ | ⟨e,v,t,l,B⟩⟩
   . subst z;exact Ko (p _ _ ⟨m,r,rfl,e⟩)
   cases e;subst z;refine rB (fB (λ y c f=>R st f/\c.1=none/\G (x+2) c.2.1 c.2.2.1 c.2.2.2.1) (λ c f=>R st f/\(D c.1∨c.1=none/\G (x+2) c.2.1 c.2.2.1 c.2.2.2.1)) ?_ ?_ ⟨m,rfl,v,t,l,B⟩ ?_)
   . rintro F z y ⟨_,o,i,j,g,_,_⟩ a2 - hy ⟨r3,rfl,v,t,l,B⟩ K p n
     subst z;have I:=zBu t;dsimp -zeta only
     extract_lets +onlyGivenNames _ _ _ _ _ _ _ _ _ _ _ _ J
     suffices u:∀ g,wpS (Kh prog w) A E s (J () g) K a2 from wif (λ _=>u _) λ _=>u _
     intro g;dsimp +zetaDelta -zeta only;refine mB r3 λ T C=>eB l (sB hO Y (C.1.trans Z) (M _ l) L a0 I λ k q1 q2 q3=>?_)
     dsimp -zeta only
     extract_lets +onlyGivenNames _ J
     have ea:=v.ga (k:=k) l λ n h1 _=>nt (q2 n h1)
     suffices u:∀ o i,Eq2 lt a b o i j->i+1 < a.size->x+2<=i+j->lt (att b j) (att a i)=true->wpS (Kh prog w) A E s (J () o i) K T from wif (λ c=>wif (λ d=>Ko (p _ _ ⟨C,.inl ⟨_,rfl,ea.last (eq_of_beq d) (H _ (eq_of_beq d))⟩⟩)) λ d=>wif (λ X=>Ko (p _ _ ⟨C,.inl ⟨_,rfl,ea.done (.inr (eq_of_beq X))⟩⟩)) λ X=>u _ _ ea (ltn d (ltn X q1)) (lb B) (nf (q3 (ltn X q1)))) λ c=>by
       obtain rfl:=Nat.eq_zero_of_not_pos c;exact u _ _ v t B (nf (q3 I))
     intro o i e z1 zb z;dsimp +zetaDelta -zeta only;have U:=zBu z1;have e2:=e.pb U l z;refine eB l (wif (λ d=>Ko (p _ _ ⟨C,.inl ⟨_,rfl,e2.done (.inl (eq_of_beq d))⟩⟩)) λ d=>?_);have z2:=ltn d l;refine eB U (sB hO Y (C.1.trans Z) (L _ U) M a1 z2 λ q p1 p2 p3=>?_);dsimp -zeta only
     extract_lets +onlyGivenNames _ _ J
     have eb:=e2.gb (k:=q) U λ n h1 h2=>p2 n h1
     suffices u:∀ o j,Eq2 lt a b o i j->j < b.size->x+2<=i+j->lt (att b j) (att a i)=false->wpS (Kh prog w) A E s (J () o j) K T from wif (λ c=>wif (λ d=>Ko (p _ _ ⟨C,.inl ⟨_,rfl,eb.done (.inl (eq_of_beq d))⟩⟩)) λ d=>u _ _ eb (ltn d p1) (la (la zb)) (p3 (ltn d p1))) λ c=>by
       obtain rfl:=Nat.eq_zero_of_not_pos c;exact u _ _ e2 z2 (la zb) (p3 z2)
     intro o j e3 z3 zc z4;have z5:=e3.pa U z3 z4;refine eB U (wif (λ d=>Ko (p _ _ ⟨C,.inl ⟨_,rfl,z5.last (eq_of_beq d) (H _ (eq_of_beq d))⟩⟩)) λ d=>?_);exact wif (λ _=>Ko (p _ _ ⟨C,.inr ⟨rfl,z5,ltn d z1,z3,lb zc⟩⟩)) λ _=>Ko (n _ _ ⟨C,rfl,z5,ltn d z1,z3,lb zc⟩)
   . exact λ _ _ z=>⟨z.1,.inr z.2⟩
   rintro F z ⟨c,c'⟩ S ⟨m,⟨r,rfl,e⟩ | ⟨e,v,t,l,B⟩⟩<;>subst z
   . exact Ko (p _ _ ⟨m,r,rfl,e⟩)
   cases e;exact mB m λ T C=>Ko (n _ _ ⟨C,rfl,v,t,l,B⟩)
 . rintro c O ⟨W,_,g1,g2,g3,g4⟩
   lia
 rintro F z ⟨c,c'⟩ O ⟨W,r,rfl,e⟩;subst z;exact Ko (h r O W e)
end
section
variable{prog:Ki}{w:Kk}{A:Kj}{E:V'->Sh->Prop}{s:Sh}{kd:SortKind}{P:Ku->Prop}{lt:Ku->Ku->Bool}{st:Kv}
noncomputable def mhi:Array Ku->Array Ku->StateT Kv Sem (Array Ku):=sortPriv% PySem.Builtin.mergeHi
theorem qaU1(a b:Array Ku):mhi a b=(do
 rule "list.sort.merge-hi"
 let tt:=a.size+b.size
 let dn (o:Array Ku) (i j:Nat):=a.extract 0 i++b.extract 0 j++o.reverse
 let fb (o:Array Ku) (i j:Nat):=b.extract 0 j++a.extract 0 i++o.reverse
 let mut i:=a.size - 1
 let mut j:=b.size
 let mut o:Array Ku:=#[<- elem' a i]
 if i == 0 then return dn o i j
 if j == 1 then return fb o i j
 let mut g:=gallopOf (<- get)
 for _ in [0:tt] do
   let mut x:=0
   let mut y:=0
   for _ in [0:tt] do
     let some t <- lt' (<- elem' b (j - 1)) (<- elem' a (i - 1)) | return dn o i j
     if t then
       i:=i - 1;o:=o.push (<- elem' a i);x:=x+1;y:=0
       if i == 0 then return dn o i j
       if x ≥ g then break
     else
       j:=j - 1;o:=o.push (<- elem' b j);y:=y+1;x:=0
       if j == 1 then return fb o i j
       if y ≥ g then break
   rule "list.sort.gallop"
   g:=g+1
   for _ in [0:tt] do
     if g > 1 then g:=g - 1
     smg g
     let some q <- gal false (<- elem' b (j - 1)) a 0 i (i - 1) | return dn o i j
     let k:=i - q
     x:=k
     if k > 0 then
       o:=o++(a.extract q i).reverse;i:=q
       if i == 0 then return dn o i j
     j:=j - 1;o:=o.push (<- elem' b j)
     if j == 1 then return fb o i j
     let some q <- gal true (<- elem' a (i - 1)) b 0 j (j - 1) | return dn o i j
     let k:=j - q
     y:=k
     if k > 0 then
       o:=o++(b.extract q j).reverse;j:=q
       if j == 1 then return fb o i j
       if j == 0 then return dn o i j
     i:=i - 1;o:=o.push (<- elem' a i)
     if i == 0 then return dn o i j
     if x < 7&&y < 7 then break
   g:=g+1
   smg g
 unsupported "internal:list.sort.merge-bound"):=rfl
def Eq3(lt:Ku->Ku->Bool)(a b o:Array Ku)(i j:Nat):Prop:=K4 (a.toList.take i) (b.toList.take j) (lee lt)++o.toList.reverse=K4 a.toList b.toList (lee lt)
variable{a b o:Array Ku}{i j k:Nat}
theorem Jh{a:Array Ku}{k:Nat}{x:Ku}(h:x∈a.toList.take k):∃ j,j < k/\j < a.size/\x=att a j:=by
 obtain⟨j,b,c,e⟩:=qs7 (i:=0) (k:=k) (by simpa using h);exact⟨j,b,by lia,by rw[e,zAi]⟩
theorem qX0{a:Array Ku}{i:Nat}(h:q<=i):a.toList.take i=a.toList.take q++(a.extract q i).toList:=by
 rw[qc5]
 conv=>lhs;rw[show i=q+(i - q) by lia,Mu]
theorem ext1{a:Array Ku}{i:Nat}(h:0 < i)(hi:i<=a.size):(a.extract (i - 1) i).toList=[att a (i - 1)]:=by
 rw[qc5,Ed (by lia),show i - (i - 1)=1 by lia];rfl
theorem Eq3.done(h:Eq3 lt a b o i j)(c:i=0∨j=0):(a.extract 0 i++b.extract 0 j++o.reverse).toList=K4 a.toList b.toList (lee lt):=by
 rw[<- h,zBa,zBa,qc5,qc5,Array.toList_reverse];congr 1;rcases c with rfl | rfl
 . simp
 simp
theorem Eq3.first(h:Eq3 lt a b o i j)(c:j=1)(k:0 < b.size)(d:∀ n,n < a.size->lt (att b 0) (att a n)=true):(b.extract 0 j++a.extract 0 i++o.reverse).toList=K4 a.toList b.toList (lee lt):=by
 rw[<- h,zBa,zBa,qc5,qc5,Array.toList_reverse];congr 1;subst c
 have:=mg_r (le:=lee lt) (B2:=[]) (B1:=b.toList.take 1) (X:=a.toList.take i) λ y e x f=>by
   obtain⟨n,_,g,rfl⟩:=Jh f;obtain⟨m,l,p,rfl⟩:=Jh e;obtain rfl:m=0:=by lia
   simp[d _ g]
 rw[zAe] at this;rw[this];simp
theorem Eq3.ga(h:Eq3 lt a b o i j)(f:Od lt)(c:Srt lt (att b) b.size)(g:q<=i)(s:0 < j)(k:j<=b.size)(l:∀ n,q<=n->n < i->n < a.size->lt (att b (j - 1)) (att a n)=true) :
   Eq3 lt a b (o++(a.extract q i).reverse) q j:=by
 unfold Eq3 at h ⊢;rw[<- h,qX0 g,Je (le:=lee lt)]
 . simp
 intro x d y p;rw[qc5] at d;obtain⟨n,t,r,rfl⟩:=qs7 d;obtain⟨m,u,v,rfl⟩:=Jh p;have e:=l (q+n) (by lia) (by lia) r;show (!lt (att b m) (att a (q+n)))=false;cases e2:lt (att b m) (att a (q+n)) with
 | true=>rfl
 | false=>rw[f.tr _ _ _ e2 (c m (j - 1) (by lia) (by lia))] at e;cases e
theorem Eq3.gb(h:Eq3 lt a b o i j)(f:Od lt)(c:Srt lt (att a) a.size)(g:q<=j)(hi:0 < i)(k:i<=a.size)(l:∀ n,q<=n->n < j->n < b.size->lt (att b n) (att a (i - 1))=false) :
   Eq3 lt a b (o++(b.extract q j).reverse) i q:=by
 unfold Eq3 at h ⊢;rw[<- h,qX0 g,Hd (le:=lee lt)]
 . simp
 intro y d x p;rw[qc5] at d;obtain⟨n,s,r,rfl⟩:=qs7 d;obtain⟨m,t,u,rfl⟩:=Jh p;have e:=l (q+n) (by lia) (by lia) r;show (!lt (att b (q+n)) (att a m))=true;rw[f.tr _ _ _ (c m (i - 1) (by lia) (by lia)) e];rfl
theorem Eq3.pa(h:Eq3 lt a b o i j)(f:Od lt)(c:Srt lt (att b) b.size)(hi:0 < i)(d:i<=a.size)(g:0 < j)(e:j<=b.size)(k:lt (att b (j - 1)) (att a (i - 1))=true):Eq3 lt a b (o.push (att a (i - 1))) (i - 1) j:=by
 have:=h.ga f c (q:=i - 1) (by lia) g e λ n l m _=>by rw[show n=i - 1 by lia];exact k
 rwa[show o++(a.extract (i - 1) i).reverse=o.push (att a (i - 1)) from Array.toList_inj.mp (by rw[zBa,Array.toList_reverse,ext1 hi d,Array.toList_push];rfl)] at this
theorem Eq3.pb(h:Eq3 lt a b o i j)(f:Od lt)(c:Srt lt (att a) a.size)(hi:0 < i)(d:i<=a.size)(g:0 < j)(e:j<=b.size)(k:lt (att b (j - 1)) (att a (i - 1))=false):Eq3 lt a b (o.push (att b (j - 1))) i (j - 1):=by
 have:=h.gb f c (q:=j - 1) (by lia) hi d λ n l m _=>by rw[show n=j - 1 by lia];exact k
 rwa[show o++(b.extract (j - 1) j).reverse=o.push (att b (j - 1)) from Array.toList_inj.mp (by rw[zBa,Array.toList_reverse,ext1 g e,Array.toList_push];rfl)] at this
theorem pz{x:Nat}(h:¬ (x == 0)=true):0 < x:=Nat.pos_of_ne_zero λ e=>h (zBx.mpr e)
theorem p1{x:Nat}(h:¬ (x == 1)=true)(h':0 < x):1 < x:=Nat.lt_of_le_of_ne h' λ e=>h (zBx.mpr e.symm)
theorem dy{x y i j:Nat}(h:x+y+i+j<=N):x+i+j<=N:=by lia
theorem lc{x i j:Nat}(h:x+i+j<=N)(h':q<=i):x+q+j<=N:=by lia
theorem ld{x i j:Nat}(h:x+i+j<=N)(h':q<=j):x+i+q<=N:=by lia
theorem mw{x i j:Nat}(h:x+i+j<=N)(h':0 < i):x+1+(i - 1)+j<=N:=by lia
theorem mv{x i j:Nat}(h:x+i+j<=N)(h':0 < j):x+1+i+(j - 1)<=N:=by lia
theorem sH{β:Type}{Q:β->Kv->Prop}{n:Nat}{f:Option Nat->StateT Kv Sem β}(e:Od lt)(g:Cm prog w A s kd P lt)(m:Kw st=kd)(o:P key)(p:∀ i,i < arr.size->P (att arr i))(hs:Srt lt (att arr) arr.size)(r:0 < n)(t:n<=arr.size)(h:∀ q,q<=n->(0 < q->B lt l key (att arr (q - 1))=true)->(∀ i,q<=i->i < n->B lt l key (att arr i)=false)->wpS (Kh prog w) A E s (f (some q)) Q st):wpS (Kh prog w) A E s (gal l key arr 0 n (n - 1) >>= f) Q st :=
 Kn (wgs e g m o (by lia) p (λ i j a b=>hs _ _ (by lia) (by lia)) (by lia) λ k a b c=>h k a (λ d=>zAi (k - 1) ▸ b _ (Nat.sub_one_lt_of_lt d)) λ i x y=>zAi i ▸ c i x y)
theorem wmhi{Q:Array Ku->Kv->Prop}(S:Od lt)(hC:Cm prog w A s kd P lt)(hk:Kw st=kd)(W:∀ n,n < a.size->P (att a n))(X:∀ n,n < b.size->P (att b n))(T:Srt lt (att a) a.size)(L:Srt lt (att b) b.size)(Y:0 < a.size)(B:0 < b.size)(h0:∀ n,n < a.size->lt (att b 0) (att a n)=true)(hl:lt (att b (b.size - 1)) (att a (a.size - 1))=true)(h:∀ r f,R st f->r.toList=K4 a.toList b.toList (lee lt)->Q r f):wpS (Kh prog w) A E s (mhi a b) Q st:=by
 have e1:Eq3 lt a b #[att a (a.size - 1)] (a.size - 1) b.size :=
   Eq3.pa (o:=#[]) (i:=a.size) (j:=b.size) (by unfold Eq3;rw[show a.toList.take a.size=a.toList from zAr (Nat.le_of_eq zBb),show b.toList.take b.size=b.toList from zAr (Nat.le_of_eq zBb)];simp) S L Y (zA4 _) B (zA4 _) hl
 rw[qaU1];refine rB (eB (Nat.sub_one_lt_of_lt Y) (wif (λ c=>Ko (h _ st ⟨rfl,rfl,rfl,rfl⟩ (e1.done (.inl (eq_of_beq c))))) λ c1=>wif (λ c=>Ko (h _ st ⟨rfl,rfl,rfl,rfl⟩ (e1.first (eq_of_beq c) B h0))) λ c2=>gB ?_))
 let D (c:Option (Array Ku)):Prop:=∃ r,c=some r/\r.toList=K4 a.toList b.toList (lee lt)
 let G (n:Nat) (o:Array Ku) (i j:Nat):Prop:=Eq3 lt a b o i j/\0 < i/\i<=a.size/\1 < j/\j<=b.size/\n+i+j<=a.size+b.size
 refine fB (λ x c f=>R st f/\c.1=none/\G (x+1) c.2.2.2.1 c.2.1 c.2.2.1) (λ c f=>R st f/\D c.1) ?_ ?_ ⟨⟨rfl,rfl,rfl,rfl⟩,rfl,e1,pz c1,zCh _ _,p1 c2 B,zA4 _,mw (x:=0) (by lia) Y⟩ ?_
 . rintro F z x ⟨_,i,j,o,g⟩ Z - hx ⟨r1,rfl,g1,g2,g3,g4,g5,g6⟩ K p n
   subst z;refine fB (λ y c f=>R st f/\c.1=none/\G (x+1+y) c.2.2.2.1 c.2.1 c.2.2.1) (λ c f=>R st f/\(D c.1∨c.1=none/\G (x+2) c.2.2.2.1 c.2.1 c.2.2.1)) ?_ ?_ ⟨r1,rfl,g1,g2,g3,g4,g5,g6⟩ ?_
   . rintro F z y ⟨_,i,j,o,_,_⟩ a0 - hy ⟨l,rfl,M,k,m,C,v,H⟩ K p n
     subst z;have U:=zBu C;have N:=Nat.sub_one_lt_of_le k m;have I:=Nat.sub_one_lt_of_le U v;refine eB I (eB N (lB hC (l.1.trans hk) (X _ I) (W _ N) (λ hb=>?_) λ hb=>?_))
     . have e2:=M.pa S L k m U v hb
       exact eB N (wif (λ c=>Ko (p _ _ ⟨l,.inl ⟨_,rfl,e2.done (.inl (eq_of_beq c))⟩⟩)) λ c=>wif (λ _=>Ko (p _ _ ⟨l,.inr ⟨rfl,e2,pz c,zBf N,C,v,mw (dy H) k⟩⟩)) λ _=>Ko (n _ _ ⟨l,rfl,e2,pz c,zBf N,C,v,mw H k⟩))
     have e2:=M.pb S T k m U v hb;have y0:=Nat.sub_pos_of_lt C;exact eB I (wif (λ c=>Ko (p _ _ ⟨l,.inl ⟨_,rfl,e2.first (eq_of_beq c) B h0⟩⟩)) λ c=>wif (λ _=>Ko (p _ _ ⟨l,.inr ⟨rfl,e2,k,m,p1 c y0,zBf I,mv (dy H) U⟩⟩)) λ _=>Ko (n _ _ ⟨l,rfl,e2,k,m,p1 c y0,zBf I,mv H U⟩))
   . rintro c a0 ⟨l,k0,M,k,m,C,v,H⟩
     exact⟨l,.inr ⟨k0,M,k,m,C,v,by lia⟩⟩
   rintro F z ⟨c,c'⟩ a0 ⟨l,⟨r,rfl,e⟩ | ⟨e,M,k,m,C,v,H⟩⟩
   . subst z;exact Ko (p _ _ ⟨l,r,rfl,e⟩)
   cases e;subst z;refine rB (fB (λ y c f=>R st f/\c.1=none/\G (x+2) c.2.2.2.1 c.2.1 c.2.2.1) (λ c f=>R st f/\(D c.1∨c.1=none/\G (x+2) c.2.2.2.1 c.2.1 c.2.2.1)) ?_ ?_ ⟨l,rfl,M,k,m,C,v,H⟩ ?_)
   . rintro F z y ⟨_,i,j,o,g,_,_⟩ a2 - hy ⟨r3,rfl,M,k,m,C,v,H⟩ K p n
     subst z;have U:=zBu C;have I:=Nat.sub_one_lt_of_le U v;have y0:=Nat.sub_pos_of_lt C;dsimp -zeta only
     extract_lets +onlyGivenNames _ _ _ _ _ _ _ _ _ _ _ _ J
     suffices u:∀ g,wpS (Kh prog w) A E s (J () g) K a2 from wif (λ _=>u _) λ _=>u _
     intro g;dsimp +zetaDelta -zeta only;refine mB r3 λ a1 O=>eB I (sH S hC (O.1.trans hk) (X _ I) W T k m λ q V q2 q3=>?_)
     dsimp -zeta only
     extract_lets +onlyGivenNames _ _ J
     have ea:=M.ga S L V U v λ n h1 h2 _=>nf (q3 n h1 h2)
     suffices u:∀ i o,Eq3 lt a b o i j->0 < i->i<=a.size->x+2+i+j<=a.size+b.size->lt (att b (j - 1)) (att a (i - 1))=false->wpS (Kh prog w) A E s (J () i o) K a1 from wif (λ c=>wif (λ d=>Ko (p _ _ ⟨O,.inl ⟨_,rfl,ea.done (.inl (eq_of_beq d))⟩⟩)) λ d=>u _ _ ea (pz d) (zAm V m) (lc H V) (nt (q2 (pz d)))) λ c=>by
       obtain rfl:=Nat.le_antisymm V (Nat.le_of_sub_eq_zero (Nat.eq_zero_of_not_pos c));exact u _ _ M k m H (nt (q2 k))
     intro i o e z1 z2 zb z;dsimp +zetaDelta -zeta only;have N:=Nat.sub_one_lt_of_le z1 z2;have e2:=e.pb S T z1 z2 U v z;refine eB I (wif (λ d=>Ko (p _ _ ⟨O,.inl ⟨_,rfl,e2.first (eq_of_beq d) B h0⟩⟩)) λ d=>?_);refine eB N (sH S hC (O.1.trans hk) (W _ N) X L y0 (zBf I) λ q V q2 q3=>?_);dsimp -zeta only
     extract_lets +onlyGivenNames _ _ _ J
     have eb:=e2.gb S T V z1 z2 λ n h1 h2 _=>q3 n h1 h2
     suffices u:∀ j o,Eq3 lt a b o i j->1 < j->j<=b.size->x+2+i+j<=a.size+b.size->lt (att b (j - 1)) (att a (i - 1))=true->wpS (Kh prog w) A E s (J () j o) K a1 from wif (λ c=>wif (λ d=>Ko (p _ _ ⟨O,.inl ⟨_,rfl,eb.first (eq_of_beq d) B h0⟩⟩)) λ d=>wif (λ t=>Ko (p _ _ ⟨O,.inl ⟨_,rfl,eb.done (.inr (eq_of_beq t))⟩⟩)) λ t=>u _ _ eb (p1 d (pz t)) (zAm V (zBf I)) (ld (ld zb (zCh _ 1)) V) (q2 (pz t))) λ c=>by
       obtain rfl:=Nat.le_antisymm V (Nat.le_of_sub_eq_zero (Nat.eq_zero_of_not_pos c));exact u _ _ e2 (p1 d y0) (zBf I) (ld zb (zCh _ 1)) (q2 y0)
     intro j o e3 y1 y2 y5 y4;have e4:=e3.pa S L z1 z2 (zBu y1) y2 y4;exact eB N (wif (λ d=>Ko (p _ _ ⟨O,.inl ⟨_,rfl,e4.done (.inl (eq_of_beq d))⟩⟩)) λ d=>wif (λ _=>Ko (p _ _ ⟨O,.inr ⟨rfl,e4,pz d,zBf N,y1,y2,lc y5 (zCh _ 1)⟩⟩)) λ _=>Ko (n _ _ ⟨O,rfl,e4,pz d,zBf N,y1,y2,lc y5 (zCh _ 1)⟩))
   . exact λ _ _ z=>⟨z.1,.inr z.2⟩
   rintro F z ⟨c,c'⟩ a0 ⟨l,⟨r,rfl,e⟩ | ⟨e,M,k,m,C,v,H⟩⟩<;>subst z
   . exact Ko (p _ _ ⟨l,r,rfl,e⟩)
   cases e;exact mB l λ a1 O=>Ko (n _ _ ⟨O,rfl,M,k,m,C,v,H⟩)
 . rintro c Z ⟨r1,_,g1,g2,g3,g4,g5,g6⟩
   lia
 rintro F z ⟨c,c'⟩ Z ⟨r1,r,rfl,e⟩;subst z;exact Ko (h r Z r1 e)
end
theorem ql5{ys:Array Ku}{i j:Nat}(h:xs[i]? = ys[j]?):att xs i=att ys j:=by
 have e:∀(a:Array Ku) k,att a k=(a[k]?).getD (M4,M4):=λ a k=>by simp[att,Array.getD_eq_getD_getElem?]
 rw[e,e,h]
theorem qah0{src d:Nat}(hs:src < xs.size)(a:d<=src)(k:Nat) :
   att (bubble xs src d) k=if k=src - d then att xs src else if src - d < k/\k<=src then att xs (k - 1) else att xs k:=by
 have e:=getElem?_bubble hs d a k;split at e
 . rw[if_pos (by assumption)];exact ql5 e
 rw[if_neg (by assumption)];split at e
 . rw[if_pos (by assumption)];exact ql5 e
 rw[if_neg (by assumption)];exact ql5 e
theorem qag9{i j:Nat}(a:j<=xs.size)(k:Nat) :
   att (mirror xs i j ((j - i) / 2)) k=if i<=k/\k < j then att xs (i+j - 1 - k) else att xs k:=by
 have e:=getElem?_mirror_all (i:=i) a k;split at e
 . rw[if_pos (by assumption)];exact ql5 e
 rw[if_neg (by assumption)];exact ql5 e
theorem qau6{a:Array Ku}{i:Nat}(h:i < a.size):att a i∈a.toList:=by simp[att,Array.getD,h]
theorem Srt.more{lt:Ku->Ku->Bool}{x:Nat}(h:Srt lt f x)(d:Od lt)(e:0 < x->lt (f x) (f (x - 1))=false):Srt lt f (x+1):=λ i j a b=>by
 by_cases c:j < x
 . exact h i j a c
 obtain rfl:j=x:=by lia
 by_cases q:i=j
 . rw[q];exact d.ir _
 exact d.tr _ _ _ (h i (j - 1) (by lia) (by lia)) (e (by lia))
structure Bt(a0:Array Ku)(lo:Nat)(st st':Kv):Prop where
 kd:Kw st'=Kw st
 fl:Kr st'=Kr st
 pd:Kq st'=Kq st
 pm:(Kt st').Perm a0
 pr:∀ i,i < lo->att (Kt st') i=att (Kt st) i
section
variable{prog:Ki}{w:Kk}{A:Kj}{E:V'->Sh->Prop}{s:Sh}{kd:SortKind}{lt:Ku->Ku->Bool}{Z W:Kv}{Y:Array Ku}{X:Nat}
theorem Bt.sz(h:Bt Y X Z W):(Kt W).size=Y.size:=h.pm.size_eq
theorem Bt.mem(h:Bt Y X Z W){i:Nat}(hi:i < Y.size):att (Kt W) i∈Y.toList:=(zBp.mp h.pm).mem_iff.mp (qau6 (by rw[h.sz];exact hi))
theorem Bt.set(h:Bt Y X Z W)(b:xs.Perm (Kt W))(c:∀ i,i < X->att xs i=att (Kt W) i):Bt Y X Z (Kx W xs) :=
 ⟨h.kd,h.fl,h.pd,b.trans h.pm,λ i a=>(c i a).trans (h.pr i a)⟩
abbrev Cn(prog:Ki)(w:Kk)(A:Kj)(s:Sh)(kd:SortKind)(Y:Array Ku)(lt:Ku->Ku->Bool):Prop:=Cm prog w A s kd (λ x=>x∈Y.toList) lt
theorem aB{β:Type}{i j:Nat}{Q:β->Kv->Prop}{f:Option Bool->StateT Kv Sem β}(b:Cn prog w A s kd Y lt)(c:Kw Z=kd)(h:Bt Y X Z W)(hi:i < Y.size)(a:j < Y.size)(h':lt (att (Kt W) i) (att (Kt W) j)=true->wpS (Kh prog w) A E s (f (some true)) Q W)(d:lt (att (Kt W) i) (att (Kt W) j)=false->wpS (Kh prog w) A E s (f (some false)) Q W):wpS (Kh prog w) A E s (ltAt' i j >>= f) Q W:=by
 refine Kn ?_;rw[ltAt'_eq];refine gB (eB (by rw[h.sz];exact hi) (eB (by rw[h.sz];exact a) (wlt b (h.kd.trans c) (h.mem hi) (h.mem a) ?_)));cases e:lt (att (Kt W) i) (att (Kt W) j) with
 | true=>exact h' e
 | false=>exact d e
theorem wmv{p:Nat}{Q:Unit->Kv->Prop}(h:Q () (Kx W (bubble (Kt W) p (p - q)))):wpS (Kh prog w) A E s (moveDown' p q) Q W:=by
 rw[moveDown'_eq];exact Ks h
theorem qaP3{p i:Nat}(h:p < xs.size)(a:q<=p)(hi:i < q):att (bubble xs p (p - q)) i=att xs i:=by
 rw[qah0 h (zCh _ _),Nat.sub_sub_self a,if_neg (zAq hi),if_neg λ c=>Nat.lt_asymm hi c.1]
theorem qaX0{p:Nat}(h:p < xs.size)(a:q<=p):att (bubble xs p (p - q)) q=att xs p:=by
 rw[qah0 h (zCh _ _),Nat.sub_sub_self a,if_pos rfl]
theorem qaW9{p i:Nat}(h:p < xs.size)(a:q<=p)(h1:q<=i)(h2:i < p):att (bubble xs p (p - q)) (i+1)=att xs i:=by
 rw[qah0 h (zCh _ _),Nat.sub_sub_self a,if_neg (Nat.ne_of_gt (Nat.lt_succ_of_le h1)),if_pos ⟨Nat.lt_succ_of_le h1,h2⟩,Nat.add_sub_cancel]
theorem qaF9{F:Nat->Ku}{x:Ku}{l k:Nat}(e:Od lt)(c:l<=k)(s2:∀ i j,i<=j->j < k->lt (f j) (f i)=false)(g:∀ i,i < l->lt x (f i)=false)(n:∀ i,l<=i->i < k->lt (f i) x=false)(h1:∀ i,i < l->F i=f i)(h2:F l=x)(d:∀ i,l<=i->i < k->F (i+1)=f i)(i j:Nat)(a:i<=j)(o:j < k+1):lt (F j) (F i)=false:=by
 rcases Nat.lt_trichotomy j l with h | h | h
 . rw[h1 j h,h1 i (zCd a h)]
   exact s2 i j a (zAp h c)
 . subst h
   rw[h2];rcases zCq a with q | rfl
   . rw[h1 i q];exact g i q
   rw[h2];exact e.ir _
 cases j with
 | zero=>exact absurd h (zC5 _)
 | succ m =>
   have b:=Nat.lt_of_succ_lt_succ o;rw[d m (zC3 h) b];rcases Nat.lt_trichotomy i l with q | q | q
   . rw[h1 i q];exact s2 i m (zAm (zBf q) (zC3 h)) b
   . subst q;rw[h2];exact n m (zC3 h) b
   cases i with
   | zero=>exact absurd q (zC5 _)
   | succ p=>rw[d p (zC3 q) (zCd (Nat.le_of_succ_le_succ a) b)];exact s2 p m (Nat.le_of_succ_le_succ a) b
theorem wbin{n ok:Nat}{Q:Bool->Kv->Prop}(C:Od lt)(I:Cn prog w A s kd Y lt)(J:Kw Z=kd)(T:X+n<=Y.size)(L:ok<=n)(h1:1<=ok)(M:Bt Y X Z W)(hs:Srt lt (λ i=>att (Kt W) (X+i)) ok)(h:∀ e,Bt Y X Z e->Srt lt (λ i=>att (Kt e) (X+i)) n->Q true e):wpS (Kh prog w) A E s (binarySort' X n ok) Q W:=by
 rw[binarySort'_eq];refine fB (λ k c e=>c=(none,())/\Bt Y X Z e/\Srt lt (λ i=>att (Kt e) (X+i)) (min k n)) (λ c e=>c=(none,())/\Bt Y X Z e/\Srt lt (λ i=>att (Kt e) (X+i)) n) ?_ ?_ ⟨rfl,M,λ i j a b=>hs i j a (by lia)⟩ ?_
 . rintro F z k c f N O ⟨rfl,m,g⟩ K p q
   subst z;rw[show min k n=k by lia] at g;refine fB (λ x c e=>e=f/\∃ l r,c=(none,l,r)/\l<=r/\r<=k/\r - l<=k - x /\
       (∀ i,i < l->lt (att (Kt f) (X+k)) (att (Kt f) (X+i))=false)/\(∀ i,r<=i->i < k->lt (att (Kt f) (X+i)) (att (Kt f) (X+k))=false)) (λ c e=>e=f/\∃ l,c=(none,l,l)/\l<=k /\
       (∀ i,i < l->lt (att (Kt f) (X+k)) (att (Kt f) (X+i))=false)/\(∀ i,l<=i->i < k->lt (att (Kt f) (X+i)) (att (Kt f) (X+k))=false)) ?_ ?_ ⟨rfl,0,k,rfl,by lia,by lia,by lia,λ i t=>by lia,λ i h1 H=>by lia⟩ ?_
   . rintro F z x c o - U ⟨rfl,l,r,rfl,P,u,R,v,B⟩ K p q
     subst z;dsimp only;refine wif (λ d=>?_) λ d=>?_
     . obtain rfl:l=r:=by lia
       exact Ko (p _ _ ⟨rfl,l,rfl,u,v,B⟩)
     exact aB I J m (by lia) (by lia) (λ D=>Ko (q _ _ ⟨rfl,l,_,rfl,by lia,by lia,by lia,v,λ i h1 H=>C.tr _ _ _ (C.as _ _ D) (g _ _ h1 H)⟩)) λ D=>Ko (q _ _ ⟨rfl,_,r,rfl,by lia,by lia,by lia,λ i h1=>C.tr _ _ _ (g i _ (by lia) (by lia)) D,B⟩)
   . rintro c o ⟨rfl,l,r,rfl,P,u,R,v,B⟩
     obtain rfl:l=r:=by lia
     exact⟨rfl,l,rfl,u,v,B⟩
   rintro F z c o ⟨rfl,l,rfl,u,v,B⟩;subst z;dsimp only;have z:X+k < (Kt o).size:=by rw[m.sz];lia
   have y:=Nat.add_le_add_left u X;refine Kn (wmv (Ko (q _ _ ⟨rfl,m.set (bubble_perm _ _ _) λ i t=>?_,?_⟩)))
   . exact qaP3 z y (zAp t (Nat.le_add_right _ _))
   rw[show min (k+1) n=k+1 by lia];exact qaF9 C u g v B (λ i t=>qaP3 z y (Nat.add_lt_add_left t X)) (qaX0 z y) λ i t G=>qaW9 z y (Nat.add_le_add_left t X) (Nat.add_lt_add_left G X)
 . rintro c f ⟨S,m,g⟩
   rw[show min (max (max ok 1) n) n=n by lia] at g;exact⟨S,m,g⟩
 rintro F z c f ⟨rfl,m,g⟩;subst z;exact Ko (h f m g)
def Ds(lt:Ku->Ku->Bool)(Y:Array Ku):Prop:=Y.toList.Pairwise λ x y=>lt x y=true∨lt y x=true
theorem Ds.at(h:Ds lt Y)(b:Bt Y X Z W){i j:Nat}(c:i≠j)(hi:i < Y.size)(n:j < Y.size)(e:lt (att (Kt W) i) (att (Kt W) j)=false):lt (att (Kt W) j) (att (Kt W) i)=true:=by
 have d:(Kt W).toList.Pairwise λ x y=>lt x y=true∨lt y x=true:=((zBp.mp b.pm).pairwise_iff λ h=>h.symm).mpr h
 rw[Ls] at d;have g:∀ k,k < Y.size->∃ a,(Kt W).toList[k]'a=att (Kt W) k:=λ k a=>⟨by rw[zBb,b.sz];exact a,by simp[att,Array.getD,show k < (Kt W).size by rw[b.sz];exact a]⟩
 obtain⟨f,l⟩:=g i hi;obtain⟨m,e2⟩:=g j n;rcases Nat.lt_or_gt_of_ne c with q | q
 . have:=d i j f m q
   rw[l,e2,e] at this;simpa using this
 have:=d j i m f q
 rw[l,e2,e] at this;simpa using this
theorem wcnt{m:Nat}{Q:Option Nat->Kv->Prop}(v:Od lt)(D:Cn prog w A s kd Y lt)(M:Ds lt Y)(G:Kw Z=kd)(T:X+m<=Y.size)(h1:1<=m)(r:Bt Y X Z W)(h:∀ n f,Bt Y X Z f->1<=n->n<=m->Srt lt (λ i=>att (Kt f) (X+i)) n->Q (some n) f):wpS (Kh prog w) A E s (countRun' X m) Q W:=by
 rw[countRun'_eq];refine fB (λ x c f=>f=W/\c=(none,x)/\Srt lt (λ i=>att (Kt W) (X+i)) x) (λ c f=>f=W/\∃ n,c=(none,n)/\1<=n/\n<=m/\Srt lt (λ i=>att (Kt W) (X+i)) n/\(n=m∨lt (att (Kt W) (X+n)) (att (Kt W) (X+n - 1))=true)) ?_ ?_ ⟨rfl,rfl,λ i j a b=>by rw[show i=j by lia];exact v.ir _⟩ ?_
 . rintro F z x c g o N ⟨rfl,rfl,t⟩ K p q
   subst z;exact aB D G r (by lia) (by lia) (λ u=>Ko (p _ _ ⟨rfl,x,rfl,o,by lia,t,.inr u⟩)) λ u=>Ko (q _ _ ⟨rfl,rfl,t.more v λ _=>by rw[<- Nat.add_sub_assoc o];exact u⟩)
 . rintro c g ⟨rfl,rfl,t⟩
   rw[show max 1 m=m by lia] at t ⊢;exact⟨rfl,m,rfl,h1,zA4 _,t,.inl rfl⟩
 rintro F z c g ⟨rfl,n,rfl,J,L,t,d⟩;subst z;dsimp only;refine wif (λ _=>Ko (h n g r J L t)) λ c=>?_
 have d:=d.resolve_left (by simpa using c);refine wif (λ P=>aB D G r (by lia) (by lia) (λ _=>Ko (h n g r J L t)) λ e=>?_) λ P=>?_
 . rw[M.at r (by lia) (by lia) (by lia) (by rw[Nat.add_sub_assoc J];exact t 0 (n - 1) (by lia) (by lia))] at e;cases e
 obtain rfl:n=1:=by lia
 simp at c;refine rB ?_;have O:Od λ x y=>lt y x:=⟨λ x y q=>v.as _ _ q,λ x y z p q=>v.tr _ _ _ q p⟩
 refine fB (λ x c f=>f=g/\c=(none,x,0)/\Srt (λ x y=>lt y x) (λ i=>att (Kt g) (X+i)) x) (λ c f=>f=g/\∃ n,c=(none,n,0)/\2<=n/\n<=m/\Srt (λ x y=>lt y x) (λ i=>att (Kt g) (X+i)) n) ?_ ?_ ⟨rfl,rfl,?_⟩ ?_
 . rintro F z x c l o N ⟨rfl,rfl,B⟩ K p q
   subst z;exact aB D G r (by lia) (by lia) (λ u=>wif (λ _=>wif (λ c=>absurd c (zBj 0)) λ _=>Ko (q _ _ ⟨rfl,rfl,B.more O λ _=>by rw[<- Nat.add_sub_assoc (by lia)];exact v.as _ _ u⟩)) λ c=>absurd rfl c) λ u=>aB D G r (by lia) (by lia) (λ _=>Ko (p _ _ ⟨rfl,x,rfl,o,by lia,B⟩)) λ e=>by rw[M.at r (by lia) (by lia) (by lia) u] at e;cases e
 . rintro c l ⟨rfl,rfl,B⟩
   rw[show max (1+1) m=m by lia] at B ⊢;exact⟨rfl,m,rfl,by lia,zA4 _,B⟩
 . refine Srt.more (λ i j a b=>?_) O λ _=>v.as _ _ d
   obtain rfl:i=j:=by lia
   exact v.ir _
 rintro F z c l ⟨rfl,n,rfl,J,L,B⟩;subst z;refine wif (λ c=>absurd c (zBj 0)) λ _=>?_
 dsimp only;have z:X+n<=(Kt l).size:=by rw[r.sz];lia
 have H:=r.set (mirror_perm (Kt l) X (X+n) ((X+n - X) / 2)) λ i U=>by rw[qag9 z,if_neg (by lia)]
 refine Kn (wpS_reverse ?_);refine fB (λ x c f=>f=Kx l (mirror (Kt l) X (X+n) ((X+n - X) / 2))/\c=(none,x)/\Srt lt (λ i=>att (Kt f) (X+i)) x) (λ c f=>f=Kx l (mirror (Kt l) X (X+n) ((X+n - X) / 2))/\∃ k,c=(none,k)/\1<=k/\k<=m/\Srt lt (λ i=>att (Kt f) (X+i)) k) ?_ ?_ ⟨rfl,rfl,λ i j a b=>?_⟩ ?_
 . rintro F z x c I o N ⟨rfl,rfl,C⟩ K p q
   subst z;exact aB D G H (by lia) (by lia) (λ _=>Ko (p _ _ ⟨rfl,x,rfl,by lia,by lia,C⟩)) λ u=>Ko (q _ _ ⟨rfl,rfl,C.more v λ _=>by rw[<- Nat.add_sub_assoc (by lia)];exact u⟩)
 . rintro c I ⟨rfl,rfl,C⟩
   rw[show max n m=m by lia] at C ⊢;exact⟨rfl,m,rfl,by lia,zA4 _,C⟩
 . show lt (att (mirror _ _ _ _) _) (att (mirror _ _ _ _) _)=false
   rw[qag9 z,qag9 z,if_pos (by lia),if_pos (by lia)]
   have:=B (n - 1 - j) (n - 1 - i) (by lia) (by lia)
   rw[show X+(X+n) - 1 - (X+j)=X+(n - 1 - j) by lia,show X+(X+n) - 1 - (X+i)=X+(n - 1 - i) by lia];exact this
 rintro F z c I ⟨rfl,k,rfl,R,S,C⟩;subst z;exact Ko (h k _ H R S C)
end
theorem qaU2(i:Nat):mergeAt' i=(do
 let s <- get
 let (some (p,n,pw),some (q,m,_)):=((Kq s)[i]?,(Kq s)[i+1]?) | unsupported "internal:list.sort.pending"
 set (Ky s (((Kq s).setIfInBounds i (p,n+m,pw)).eraseIdxIfInBounds (i+1)))
 let some k <- gal false (<- elem' (Kt s) q) (Kt s) p n 0 | return false
 let (p,n):=(p+k,n - k)
 if n == 0 then return true
 let some m <- gal true (<- elem' (Kt s) (p+n - 1)) (Kt s) q m (m - 1) | return false
 if m == 0 then return true
 let x:=(Kt s).extract p q
 let y:=(Kt s).extract q (q+m)
 let r <- if n<=m then mlo x y else mhi x y
 modify λ s=>Kx s (r.toList.zipIdx.foldl (λ a (z,j)=>a.setIfInBounds (p+j) z) (Kt s))
 return (Kr (<- get)).isNone):=rfl
theorem wr{p:Nat}:∀(L:List Ku)(n:Nat)(a:Array Ku),p+n+L.length<=a.size ->
   ((L.zipIdx n).foldl (λ(a:Array Ku)(z:Ku×Nat)=>a.setIfInBounds (p+z.2) z.1) a).toList=a.toList.take (p+n)++L++a.toList.drop (p+n+L.length)
 | [],n,a,_=>by simp
 | x::L,n,a,h=>by
   rw[zAf] at h;rw[List.zipIdx_cons,Lj,wr L (n+1) _ (by rw[Array.size_setIfInBounds];lia),Array.toList_setIfInBounds,<- Nat.add_assoc,zAf,
     List.drop_set_of_lt (by lia),List.take_set,zBk,show a.toList[p+n]?.toList=[att a (p+n)] from ?_,L5 _ _ (by simp;lia),show p+n+1+L.length=p+n+(L.length+1) by lia]
   . simp[show min (p+n) a.size=p+n by lia]
   rw[Array.getElem?_toList,qO0 (by lia)];rfl
theorem qau7{a:Array Ku}{i j n:Nat}(h:i+n < j)(b:j<=a.size):att (a.extract i j) n=att a (i+n) :=
 ql5 (by rw[Array.getElem?_extract];rw[if_pos (by lia)])
section
variable{prog:Ki}{w:Kk}{A:Kj}{E:V'->Sh->Prop}{s:Sh}{kd:SortKind}{lt:Ku->Ku->Bool}{st:Kv}{a0:Array Ku}
theorem wset{a:Kv}{Q:PUnit->Kv->Prop}(h:Q ⟨⟩ a):wpS (Kh prog w) A E s (set a:StateT Kv Sem PUnit) Q st:=by
 unfold wpS;rw[StateT.run_set];exact Jr ⟨rfl,h⟩
theorem wmat{Q:Bool->Kv->Prop}{n m F pv:Nat}(G:Od lt)(I:Cn prog w A s kd a0 lt)(J:Kw st=kd)(K:Kr st=none)(Y:Kq st = #[(0,n,F),(n,m,pv)])(H:(Kt st).Perm a0)(Z:0 < n)(hm:0 < m)(hz:n+m=a0.size)(h1:Srt lt (att (Kt st)) n)(h2:Srt lt (λ i=>att (Kt st) (n+i)) m)(h:∀ u,Kr u=none->Kq u = #[(0,n+m,F)]->(Kt u).toList=K4 ((Kt st).toList.take n) ((Kt st).toList.drop n) (lee lt)->Q true u):wpS (Kh prog w) A E s (mergeAt' 0) Q st:=by
 have a1:(Kt st).size=n+m:=H.size_eq.trans hz.symm;have D:∀ i,i < (Kt st).size->att (Kt st) i∈a0.toList:=λ i C=>(zBp.mp H).mem_iff.mp (qau6 C)
 rw[qaU2];refine gB ?_;rw[Y];have ep:(#[(0,n,F),(n,m,pv)].setIfInBounds 0 (0,n+m,F)).eraseIdxIfInBounds (0+1) = #[(0,n+m,F)]:=by simp[Array.eraseIdxIfInBounds]
 refine Kn (wset ?_);rw[ep];refine eB (by lia) (Kn (wgs G I J (D _ (by lia)) (by lia) D (λ i j a b=>by dsimp only;rw[zAi,zAi];exact h1 i j a b) Z λ k S T N=>?_));simp only[zAi] at T N ⊢;have sD:(Kt st).toList.drop n=att (Kt st) n::(Kt st).toList.drop (n+1):=Ed (by lia);have O:K4 ((Kt st).toList.take n) ((Kt st).toList.drop n) (lee lt)=(Kt st).toList.take k++K4 (((Kt st).toList.drop k).take (n - k)) ((Kt st).toList.drop n) (lee lt):=by
   rw[<- List.drop_take,<- show ((Kt st).toList.take n).take k=(Kt st).toList.take k by rw[Mq,zCt S]]
   conv=>lhs;rw[<- zBg k ((Kt st).toList.take n)]
   rw[sD,Jf (le:=lee lt)];intro x L;rw[Mq,zCt S] at L;obtain⟨i,U,i2,rfl⟩:=Jh L;exact T i U
 refine wif (λ c=>Ko (h _ K rfl ?_)) λ c=>?_
 . obtain rfl:k=n:=by simp at c;lia
   rw[O,Nat.sub_self,Mr,Mp,zBg]
 have c:k < n:=by simp at c;lia
 rw[show k+(n - k) - 1=n - 1 by lia];refine eB (by lia) (Kn (wgs G I J (D _ (by lia)) (by lia) D h2 (by lia) λ v v1 v2 v3=>?_));have V:K4 (((Kt st).toList.drop k).take (n - k)) ((Kt st).toList.drop n) (lee lt)=K4 (((Kt st).toList.drop k).take (n - k)) (((Kt st).toList.drop n).take v) (lee lt)++(Kt st).toList.drop (n+v):=by
   conv=>lhs;rw[<- zBg v ((Kt st).toList.drop n)]
   rw[L6,Hd (le:=lee lt)];intro y W x L;obtain⟨i,U,i2,rfl⟩:=qs7 L;rw[<- zAr (l:=(Kt st).toList.drop (n+v)) (zA4 _)] at W;obtain⟨j,_,j2,rfl⟩:=qs7 W;have e1:=h1 (k+i) (n - 1) (by lia) (by lia);have e2:lt (att (Kt st) (n+(v+j))) (att (Kt st) (n - 1))=false:=v3 (v+j) (by lia) (by lia);rw[<- Nat.add_assoc] at e2;show (!lt _ _)=true;rw[G.tr _ _ _ e1 e2];rfl
 dsimp only;refine wif (λ c=>Ko (h _ K rfl ?_)) λ d=>?_
 . obtain rfl:v=0:=by simpa using c
   rw[O,V,Mr,Mo,Nat.add_zero,<- zAw,<- Mu,show k+(n - k)=n by lia,zBg]
 have d:0 < v:=by simp at d;lia
 have P:((Kt st).extract k n).size=n - k:=by rw[Array.size_extract];lia
 have X:((Kt st).extract n (n+v)).size=v:=by rw[Array.size_extract];lia
 have g:∀ i,i < n - k->att ((Kt st).extract k n) i=att (Kt st) (k+i):=λ i C=>qau7 (by lia) (by lia)
 have o:∀ i,i < v->att ((Kt st).extract n (n+v)) i=att (Kt st) (n+i):=λ i C=>qau7 (by lia) (by lia)
 have post:∀(r:Array Ku)(f:Kv),R (Ky st #[(0,n+m,F)]) f ->
     r.toList=K4 ((Kt st).extract k n).toList ((Kt st).extract n (n+v)).toList (lee lt)->wpS (Kh prog w) A E s (do
       modify λ s=>Kx s (Li (λ(a:Array Ku)(x:Ku×Nat)=>match x with | (z,j)=>a.setIfInBounds (k+j) z) (Kt s) r.toList.zipIdx)
       let t <- get
       pure (Kr t).isNone) Q f:=by
   intro r f M e;have len:r.toList.length=n - k+v:=by rw[e,List.length_merge,zBb,zBb,P,X]
   refine Kn (Ks (gB ?_));show wpS _ _ _ _ (pure (Kr f).isNone) Q _;rw[M.2.2.2];show wpS _ _ _ _ (pure (Kr st).isNone) Q _;rw[K];refine Ko (h _ (M.2.2.2.trans K) M.2.2.1 ?_);show (Li _ (Kt f) _).toList=_;rw[show Kt f=Kt st from M.2.1];have q:=wr (p:=k) r.toList 0 (Kt st) (by lia);rw[Nat.add_zero,len,show k+(n - k+v)=n+v by lia,e,qc5,qc5,show n+v - n=v by lia,zAw,<- V,<- O] at q;rw[e,qc5,qc5,show n+v - n=v by lia];exact q
 refine wif (λ _=>Kn (wmlo G I J (λ i C=>?_) (λ i C=>?_) (λ i j a b=>?_) (λ i j a b=>?_) (by lia) (by lia) ?_ (λ i C=>?_) post)) λ _=>Kn (wmhi G I J (λ i C=>?_) (λ i C=>?_) (λ i j a b=>?_) (λ i j a b=>?_) (by lia) (by lia) (λ i C=>?_) ?_ post)
 . rw[g i (by lia)];exact D _ (by lia)
 . rw[o i (by lia)];exact D _ (by lia)
 . rw[g i (by lia),g j (by lia)];exact h1 _ _ (by lia) (by lia)
 . rw[o i (by lia),o j (by lia)];exact h2 _ _ (by lia) (by lia)
 . rw[g 0 (by lia),o 0 (by lia)];simpa[B] using N k (zA4 _) c
 . rw[P,g _ (by lia),o i (by lia),show k+(n - k - 1)=n - 1 by lia];exact v2 i (by lia)
 . rw[g i (by lia)];exact D _ (by lia)
 . rw[o i (by lia)];exact D _ (by lia)
 . rw[g i (by lia),g j (by lia)];exact h1 _ _ (by lia) (by lia)
 . rw[o i (by lia),o j (by lia)];exact h2 _ _ (by lia) (by lia)
 . rw[g i (by lia),o 0 (by lia)];simpa[B] using N (k+i) (by lia) (by lia)
 rw[P,X,g _ (by lia),o _ (by lia),show k+(n - k - 1)=n - 1 by lia];exact v2 _ (by lia)
end
section
variable{prog:Ki}{w:Kk}{A:Kj}{E:V'->Sh->Prop}{s:Sh}{kd:SortKind}{lt:Ku->Ku->Bool}{st:Kv}{a0:Array Ku}
theorem qav7{i n:Nat}(hs:Srt lt (λ j=>att xs (i+j)) n)(d:i+n<=xs.size):((xs.toList.drop i).take n).Pairwise λ x y=>lee lt x y=true:=by
 rw[Ls];intro p q a b c;rw[zBh,zBz,zBb] at a b;have e:∀ p (h:p < ((xs.toList.drop i).take n).length),((xs.toList.drop i).take n)[p]=att xs (i+p):=λ p h=>by
   rw[Mh,Mi];rw[zBh,zBz,zBb] at h;simp[att,Array.getD,show i+p < xs.size by lia]
 rw[e,e];show (!lt _ _)=true;rw[hs p q (by lia) (by lia)];rfl
def Gv(lt:Ku->Ku->Bool)(a0:Array Ku)(st:Kv):Prop:=(Kt st).toList.Perm a0.toList/\(Kt st).toList.Pairwise (λ x y=>lee lt x y=true)/\Kr st=none
structure One(lt:Ku->Ku->Bool)(kd:SortKind)(a0:Array Ku)(n:Nat)(st:Kv):Prop where
 pm:(Kt st).Perm a0
 k:Kw st=kd
 f:Kr st=none
 p:Kq st = #[(0,n,0)]
 s:Srt lt (att (Kt st)) n
structure Two(lt:Ku->Ku->Bool)(kd:SortKind)(a0:Array Ku)(n m pw:Nat)(st:Kv):Prop where
 pm:(Kt st).Perm a0
 k:Kw st=kd
 f:Kr st=none
 p:Kq st = #[(0,n,pw),(n,m,0)]
 s:Srt lt (att (Kt st)) n
 t:Srt lt (λ i=>att (Kt st) (n+i)) m
theorem One.fin{n:Nat}(h:One lt kd a0 n st)(c:n=a0.size):Gv lt a0 st:=by
 refine⟨zBp.mp h.pm,?_,h.f⟩
 have:=qav7 (i:=0) (n:=n) (xs:=Kt st) (λ i j a b=>by dsimp only;rw[zAi,zAi];exact h.s i j a b) (by rw[h.pm.size_eq];lia)
 rwa[Lm,zAr (by rw[zBb,h.pm.size_eq];lia)] at this
theorem wrun{Q:Unit->Kv->Prop}(D:Od lt)(J:Cn prog w A s kd a0 lt)(T:Ds lt a0)(O:Kw st=kd)(hf:Kr st=none)(P:Kq st = #[])(L:(Kt st).Perm a0)(G:a0.size=64)(h:∀ l,Gv lt a0 l->Q () l):wpS (Kh prog w) A E s sortRuns' Q st:=by
 rw[sortRuns'_eq];refine gB ?_;dsimp only;rw[L.size_eq.trans G];have hm:minRun' 64 64 0=32:=rfl;rw[hm];refine fB (λ x c l=>(x=0/\c=(none,0)/\l=st)∨(x=1/\∃ n,c=(none,n)/\32<=n/\n<=64/\One lt kd a0 n l)∨(2<=x/\c=(none,64)/\∃ n m B,n+m=64/\0 < n/\0 < m/\Two lt kd a0 n m B l)) (λ c l=>c=(none,64)/\(One lt kd a0 64 l∨∃ n m B,n+m=64/\0 < n/\0 < m/\Two lt kd a0 n m B l)) ?_ ?_ (.inl ⟨rfl,rfl,rfl⟩) ?_
 . rintro F z x c u - hx (⟨rfl,rfl,rfl⟩ | ⟨rfl,n,rfl,I,n2,o⟩ | ⟨x2,rfl,n,m,B,e,I,R,o⟩) K p q<;>subst z
   . dsimp only
     refine wif (λ c=>absurd c (by lia)) λ _=>?_
     have S:Bt a0 0 u u:=⟨rfl,rfl,rfl,L,λ _ _=>rfl⟩
     refine Kn (wcnt D J T O (by lia) (by lia) S λ n r C I n2 M=>?_);have fin:∀ k g,Bt a0 0 u g->32<=k->k<=64->Srt lt (λ i=>att (Kt g) (0+i)) k->One lt kd a0 k (Ky g ((Kq g).push (0,k,0))):=λ k g v _ _ H =>
       ⟨v.pm,v.kd.trans O,v.fl.trans hf,by show (Kq g).push _=_;rw[v.pd,P];rfl,λ i j a b=>by have:=H i j a b;dsimp only at this;rwa[zAi,zAi] at this⟩
     refine wif (λ c=>?_) λ c=>?_
     . refine rB ?_
       refine Kn (wbin D J O (by lia) (by lia) I C M λ g v H=>?_);refine wif (λ c=>by cases c) λ _=>?_
       refine gB ?_;rw[show (Kq g).back? = none by rw[v.pd,P];rfl];exact Kn (Ks (Ko (q _ _ (.inr (.inl ⟨rfl,_,rfl,by lia,by lia,fin _ g v (by lia) (by lia) H⟩)))))
     refine gB ?_;rw[show (Kq r).back? = none by rw[C.pd,P];rfl];exact Kn (Ks (Ko (q _ _ (.inr (.inl ⟨rfl,_,rfl,by lia,by lia,by rw[zAi];exact fin _ r C (by lia) (by lia) M⟩)))))
   . dsimp only
     refine wif (λ c=>?_) λ c=>?_
     . obtain rfl:n=64:=by lia
       exact Ko (p _ _ ⟨rfl,.inl o⟩)
     have S:Bt a0 n u u:=⟨rfl,rfl,rfl,o.pm,λ _ _=>rfl⟩
     refine Kn (wcnt D J T o.k (by lia) (by lia) S λ k r C k1 k2 M=>?_);have U:∀ q g,Bt a0 n u g->q=64 - n->Srt lt (λ i=>att (Kt g) (n+i)) q->∀ B,Two lt kd a0 n q B (Ky (Ky g ((Kq g).modify ((Kq g).size - 1) λ x=>(x.fst,x.2.fst,B))) (((Kq g).modify ((Kq g).size - 1) λ x=>(x.fst,x.2.fst,B)).push (n,q,0))):=λ q g v hq H B =>
       ⟨v.pm,v.kd.trans o.k,v.fl.trans o.f,by show ((Kq g).modify _ _).push _=_;rw[v.pd,o.p];rfl,λ i j a b=>by show lt (att (Kt g) j) (att (Kt g) i)=false;rw[v.pr i (by lia),v.pr j b];exact o.s i j a b,H⟩
     have N:∀ g,Bt a0 n u g->(Kq g).back? = some (0,n,0)/\¬ (Kq g).size > 1:=λ g v=>by rw[v.pd,o.p];exact⟨rfl,zBj 1⟩
     refine wif (λ d=>?_) λ d=>?_
     . refine rB ?_
       refine Kn (wbin D J o.k (by lia) (by lia) k1 C M λ g v H=>?_);refine wif (λ c=>by cases c) λ _=>?_
       refine gB ?_;rw[(N g v).1];refine fB (λ x c l=>l=g/\c=(none,())) (λ c l=>l=g/\c=(none,())) ?_ (λ _ _ h=>h) ⟨rfl,rfl⟩ ?_
       . rintro F z x c y - - ⟨rfl,rfl⟩ K p q
         subst z;refine gB ?_;rw[if_neg (N y v).2];exact Ko (p _ _ ⟨rfl,rfl⟩)
       rintro F z c y ⟨rfl,rfl⟩;subst z;exact Kn (Ks (Kn (Ks (Ko (q _ _ (.inr (.inr ⟨zA4 2,by rw[show n+min (64 - n) 32=64 by lia],n,_,_,by lia,by lia,by lia,U _ y v (by lia) H _⟩)))))))
     refine gB ?_;rw[(N r C).1];refine fB (λ x c l=>l=r/\c=(none,())) (λ c l=>l=r/\c=(none,())) ?_ (λ _ _ h=>h) ⟨rfl,rfl⟩ ?_
     . rintro F z x c y - - ⟨rfl,rfl⟩ K p q
       subst z;refine gB ?_;rw[if_neg (N y C).2];exact Ko (p _ _ ⟨rfl,rfl⟩)
     rintro F z c y ⟨rfl,rfl⟩;subst z;exact Kn (Ks (Kn (Ks (Ko (q _ _ (.inr (.inr ⟨zA4 2,by rw[show n+k=64 by lia],n,_,_,by lia,by lia,by lia,U _ y C (by lia) M _⟩)))))))
   dsimp only;exact wif (λ _=>Ko (p _ _ ⟨rfl,.inr ⟨n,m,B,e,I,R,o⟩⟩)) λ c=>absurd (zA4 _) c
 . rintro c u (⟨V,_⟩ | ⟨V,_⟩ | ⟨x2,rfl,o⟩)
   . lia
   . lia
   exact⟨rfl,.inr o⟩
 rintro F z c u ⟨rfl,o⟩;subst z;refine fB (λ x c l=>c=(none,())/\(x=0/\l=u∨Gv lt a0 l/\(Kq l).size<=1)) (λ c l=>c=(none,())/\Gv lt a0 l) ?_ ?_ ⟨rfl,.inl ⟨rfl,rfl⟩⟩ ?_
 . rintro F t x c r - - ⟨rfl,⟨rfl,rfl⟩ | ⟨f,z⟩⟩ K W q'<;>subst t
   . refine gB ?_
     rcases o with o | ⟨n,m,B,e,I,R,o⟩
     . rw[if_pos (by rw[o.p];exact zA4 1)]
       exact Ko (W _ _ ⟨rfl,o.fin G.symm⟩)
     rw[o.p];refine wif (λ c=>absurd c (by simp)) λ _=>?_
     refine Kn (wmat D J o.k o.f o.p o.pm I R (by lia) o.s o.t λ g f3 p3 X=>?_);refine Ko (q' _ _ ⟨rfl,.inr ⟨⟨?_,?_,f3⟩,by rw[p3];exact zA4 1⟩⟩)
     . rw[X]
       have q:=List.merge_perm_append (le:=lee lt) (xs:=(Kt r).toList.take n) (ys:=(Kt r).toList.drop n);rw[zBg] at q;exact q.trans (zBp.mp o.pm)
     rw[X];have sz:(Kt r).size=64:=o.pm.size_eq.trans G;refine List.pairwise_merge (λ a b c Y Z=>?_) (λ a b=>?_) _ _ ?_ ?_
     . simp only[Bool.not_eq_true',lee] at Y Z ⊢
       exact D.tr _ _ _ Y Z
     . cases q:lt b a with
       | false=>simp[lee,q]
       | true=>simp[lee,q,D.as _ _ q]
     . have:=qav7 (i:=0) (n:=n) (xs:=Kt r) (λ i j a b=>by dsimp only;rw[zAi,zAi];exact o.s i j a b) (by lia)
       rwa[Lm] at this
     have:=qav7 o.t (by lia)
     rwa[zAr (by rw[zBz,zBb];lia)] at this
   refine gB ?_;rw[if_pos z];exact Ko (W _ _ ⟨rfl,f⟩)
 . rintro c r ⟨rfl,⟨V,_⟩ | ⟨f,z⟩⟩
   . lia
   exact⟨rfl,f⟩
 rintro F z c r ⟨rfl,f⟩;subst z;exact Ko (h r f)
end
noncomputable def plt(p q:Int×Int):Bool:=decide (p.1 < q.1∨p.1=q.1/\p.2 < q.2)
def TP(h:Heap)(v:V')(p:Int×Int):Prop:=∃ b t u o n,v=.ref b/\h.get? b=some o/\o.cls=.type "tuple" /\ o.data=.seq #[.int p.1 t,.int p.2 u] n
section
variable{prog:Ki}{w:Kk}{A:Kj}{E:V'->Sh->Prop}{s:Sh}{kd:SortKind}{lt:Ku->Ku->Bool}{X:Kv}{U:Array Ku}
theorem wrunS{Q:Unit->Kv->Prop}(D:Od lt)(G:Cn prog w A s kd U lt)(I:Ds lt U)(u:Kw X=kd)(J:Kr X=none)(v:Kq X = #[])(t:(Kt X).Perm U)(h2:2<=U.size)(y:U.size < 64)(h:∀ d,Gv lt U d->Q () d):wpS (Kh prog w) A E s sortRuns' Q X:=by
 rw[sortRuns'_eq];refine gB ?_;obtain⟨f,L⟩:∃ f,U.size=f+1:=⟨U.size - 1,by lia⟩
 have M:minRun' U.size U.size 0=U.size:=by
   conv=>lhs;rw[show minRun' U.size=minRun' (f+1) by rw[L]]
   rw[minRun'_succ,if_pos y];rfl
 dsimp only;rw[t.size_eq,M];refine fB (λ x c d=>(x=0/\c=(none,0)/\d=X)∨(1<=x/\c=(none,U.size)/\One lt kd U U.size d)) (λ c d=>c=(none,U.size)/\One lt kd U U.size d) ?_ ?_ (.inl ⟨rfl,rfl,rfl⟩) ?_
 . rintro F z x c l - R (⟨rfl,rfl,rfl⟩ | ⟨N,rfl,o⟩) K p q<;>subst z
   . dsimp only
     refine wif (λ c=>absurd c (by lia)) λ _=>?_
     have O:Bt U 0 l l:=⟨rfl,rfl,rfl,t,λ _ _=>rfl⟩
     refine Kn (wcnt D G I u (by lia) (by lia) O λ n m B P S H=>?_);have fin:∀ k g,k=U.size->Bt U 0 l g->Srt lt (λ i=>att (Kt g) (0+i)) k->One lt kd U U.size (Ky g ((Kq g).push (0,k,0))):=λ k g e r C =>
       ⟨r.pm,r.kd.trans u,r.fl.trans J,by show (Kq g).push _=_;rw[r.pd,v,e];rfl,λ i j a b=>by have:=C i j a (by lia);dsimp only at this;rwa[zAi,zAi] at this⟩
     refine wif (λ c=>?_) λ c=>?_
     . refine rB ?_
       refine Kn (wbin D G u (by lia) (by lia) P B H λ g r C=>?_);refine wif (λ c=>by cases c) λ _=>?_
       refine gB ?_;rw[show (Kq g).back? = none by rw[r.pd,v];rfl];exact Kn (Ks (Ko (q _ _ (.inr ⟨by lia,by rw[show 0+min (U.size - 0) U.size=U.size by lia],fin _ g (by lia) r C⟩))))
     refine gB ?_;rw[show (Kq m).back? = none by rw[B.pd,v];rfl];exact Kn (Ks (Ko (q _ _ (.inr ⟨by lia,by rw[show 0+n=U.size by lia],fin _ m (by lia) B H⟩))))
   dsimp only;exact wif (λ _=>Ko (p _ _ ⟨rfl,o⟩)) λ c=>absurd (zA4 _) c
 . rintro c l (⟨T,_⟩ | ⟨N,rfl,o⟩)
   . lia
   exact⟨rfl,o⟩
 rintro F z c l ⟨rfl,o⟩;subst z;refine fB (λ x c d=>c=(none,())/\d=l) (λ c d=>c=(none,())/\d=l) ?_ (λ _ _ h=>h) ⟨rfl,rfl⟩ ?_
 . rintro F z x c m - - ⟨rfl,rfl⟩ K p q
   subst z;refine gB ?_;rw[if_pos (by rw[o.p];exact zA4 1)];exact Ko (p _ _ ⟨rfl,rfl⟩)
 rintro F z c m ⟨rfl,rfl⟩;subst z;exact Ko (h m (o.fin rfl))
theorem cmpP{x y:V'}{p q:Int×Int}{Q:Bool->Sh->Prop}(f:TP s.heap x p)(g:TP s.heap y q)(h:Q (plt p q) s):Kg (Kh prog w) A (keyLt' (tuples' true) x y) Q E s:=by
 obtain⟨b,t,u,o,n,rfl,i,_,j⟩:=f;obtain⟨c,m,v,B,C,rfl,k,_,l⟩:=g;have z:∀ r:Bool,r=plt p q->Q r s:=λ r e=>e ▸ h
 refine W.kat_lt i j k l (W.kat_cons (wpAny_eqBool_int (W.kat_go (λ a=>W.kat_yes (W.kat_cons (wpAny_eqBool_int (W.kat_go (λ d=>W.kat_yes (W.kat_nil (z _ ?_))) λ d=>W.kat_no (W.kat_one _ _ (lt_int (z _ ?_))))))) λ a=>W.kat_no (oneLt_int (z _ ?_)))))
 . simp at a d;simp[plt,a,d]
 . simp at a d;simp[plt,a]
 simp at a;simp[plt,a]
theorem TP.keep{h h':Heap}{v:V'}{p:Int×Int}(t:TP h v p)(k:∀ b o,h.get? b=some o->o.cls=.type "tuple" -> h'.get? b=some o):TP h' v p:=by
 obtain⟨b,t,u,o,n,rfl,c,a,d⟩:=t;exact⟨b,t,u,o,n,rfl,k _ _ c a,a,d⟩
end
def kl(kf:V'->Int×Int)(x y:Ku):Bool:=plt (kf x.1) (kf y.1)
theorem kl_od(kf:V'->Int×Int):Od (kl kf) :=
 ⟨λ x y h=>by simp[kl,plt] at h ⊢;lia,λ x y z a b=>by simp[kl,plt] at a b ⊢;lia⟩
section
variable{prog:Ki}{w:Kk}{A:Kj}{E:V'->Sh->Prop}{s:Sh}
theorem kl_ds(c:(vs.map kf).Nodup):Ds (kl kf) (pairsOf vs):=by
 unfold Ds;rw[pairsOf_toList,show vs.zip vs=vs.map λ v=>(v,v) by induction vs with | nil=>rfl | cons v vs d=>simp at c;rw[Lq,d c.2];rfl,zCf];unfold List.Nodup at c;rw[zCf] at c;refine c.imp λ{a b} h=>?_
 have e:¬ ((kf a).1=(kf b).1/\(kf a).2=(kf b).2):=λ q=>h (Prod.ext q.1 q.2)
 simp only[kl,plt,zC2];lia
theorem qaj1{a:γ}{n:Nat}{P:PySem.Fin->Sh->Prop}{kd:SortKind}(g:s.heap.get? a=some (seqObj "list" vs.toArray n))(C:vs.length<=64)(k:(vs.map kf).Nodup)(D:∀ h',(∀ b o,s.heap.get? b=some o->o.cls=.type "tuple" -> h'.get? b=some o)->2<=vs.length ->
     (∀(Q':SortKind->Sh->Prop),Q' kd { s with heap:=h' }->Kg (Kh prog w) A (keyKind' vs.toArray) Q' E { s with heap:=h' })/\Cm prog w A { s with heap:=h' } kd (λ x=>x.1∈vs) (kl kf))(h:∀ out:List V',out.Perm vs->(out.map kf).Pairwise (λ p q=>plt q p=false)->P (.done (.ret .none)) { s with heap:=sortedHeap s.heap a vs out.toArray }) :
   Kg (Kh prog w) A (Builtin.«list.sort» ⟨[.ref a],[]⟩) P E s:=by
 have F:vs.toArray.size=vs.length:=zA6;have la:a < s.heap.objs.size:=zAd g;obtain⟨l,m⟩:∃ e,(s.heap.update a (Obj.mapSeq λ _=>#[])).get? a=some (seqObj "list" #[] e):=⟨_,get?_update_seq g λ _=>#[]⟩
 have r:(((s.heap.update a (Obj.mapSeq λ _=>#[])).push (seqObj "tuple" vs.toArray 0)).push (seqObj "list" #[] 0)).get? a=some (seqObj "list" #[] l):=zA2 _ (zA2 _ m);have G:∀ b o,s.heap.get? b=some o->o.cls=.type "tuple" -> (((s.heap.update a (Obj.mapSeq λ _=>#[])).push (seqObj "tuple" vs.toArray 0)).push (seqObj "list" #[] 0)).get? b=some o:=λ b o q H=>by
   have I:b≠a:=λ z=>by rw[z,g] at q;cases q;simp at H
   exact zA2 _ (zA2 _ (by rw[Heap.get?_update_ne _ _ _ _ I];exact q))
 rw[list_sort_plain];refine G' (listItems_at g rfl (G' (listUpdate_at g rfl (G' (seqEpoch_at m rfl (G' (wpAny_newTuple (G' (wpAny_newList (Jw ?_) (zBi _))) (by show vs.length<=_;rw[J0];lia))))) (by rw[F,J0];lia) (zBi _))));show Kg (Kh prog w) A _ P E { s with heap:=((s.heap.update a (Obj.mapSeq λ _=>#[])).push (seqObj "tuple" vs.toArray 0)).push (seqObj "list" #[] 0) };have last:∀ d:Kv,(Kt d).toList.Perm (pairsOf vs).toList->(Kt d).toList.Pairwise (λ x y=>lee (kl kf) x y=true)->Kr d=none ->
     P (.done (.ret .none)) { s with heap:=sortedHeap s.heap a vs ((Kt d).map (·.2)) }/\((Kt d).map (·.2)).size<=Jt+1:=λ d i J _=>by
   rw[pairsOf_toList] at i;have u:∀ p∈(Kt d).toList,p.1=p.2:=λ p K=>(mem_zip_self (i.mem_iff.mp K)).1
   have e2:((Kt d).map (·.2))=((Kt d).toList.map (·.2)).toArray:=Array.toList_inj.mp (by rw[Array.toList_map]);have pv:((Kt d).toList.map (·.2)).Perm vs:=by
     have:=i.map Prod.snd
     rwa[List.map_snd_zip (zA4 _)] at this
   rw[e2];refine⟨h _ pv ?_,by rw[zA6,pv.length_eq,J0];lia⟩;rw[zCj,zCf];refine(List.Pairwise.and_mem.mp J).imp λ{x y} ⟨L,M,q⟩=>?_
   show plt (kf y.2) (kf x.2)=false;rw[<- u x L,<- u y M];simpa[lee,kl] using q
 have tail:∀ d:Kv,Gv (kl kf) (pairsOf vs) d->Kg (Kh prog w) A (do
     let t:=(<- seqEpoch a) != l
     Builtin.List.listUpdate (.ref a) λ _=>(Kt d).map (·.2)
     if let some e:=Kr d then rule "list.sort.comparison-raised";throw e
     if t then rule "list.sort.modified";raiseError "ValueError" "list modified during sort"
     ret .none) P E { s with heap:=((s.heap.update a (Obj.mapSeq λ _=>#[])).push (seqObj "tuple" vs.toArray 0)).push (seqObj "list" #[] 0) }:=λ d f=>by
   have z:=last d f.1 f.2.1 f.2.2;refine G' (seqEpoch_at r rfl (G' (listUpdate_at r rfl ?_ (zBi _) z.2)));rw[f.2.2];simp only[bne_self_eq_false,Bool.false_eq_true,if_false];exact Jr z.1
 by_cases c:vs.toArray.size < 2
 . rw[if_pos c,if_pos c]
   refine G' (Jr ?_);dsimp only;rw[StateT.run_pure];refine G' (Jr (tail (SortSt.mk' general' (vs.toArray.zip vs.toArray) #[] 7 none) ⟨List.Perm.refl _,?_,rfl⟩));show (pairsOf vs).toList.Pairwise _;rw[pairsOf_toList]
   match vs,c with
   | [],_=>exact .nil
   | [v],_=>simp
   | _::_::_,c=>simp at c;lia
 rw[if_neg c,if_neg c];obtain⟨N,O⟩:=D _ G (by lia);refine G' (N _ ?_);have B:Cn prog w A { s with heap:=((s.heap.update a (Obj.mapSeq λ _=>#[])).push (seqObj "tuple" vs.toArray 0)).push (seqObj "list" #[] 0) } kd (pairsOf vs) (kl kf):=λ x y Q R=>O x y (mem_zip_self (pairsOf_toList vs ▸ Q)).2 (mem_zip_self (pairsOf_toList vs ▸ R)).2
 have j:wpS (Kh prog w) A E { s with heap:=((s.heap.update a (Obj.mapSeq λ _=>#[])).push (seqObj "tuple" vs.toArray 0)).push (seqObj "list" #[] 0) } sortRuns' (λ _ d=>Gv (kl kf) (pairsOf vs) d) (SortSt.mk' kd (vs.toArray.zip vs.toArray) #[] 7 none):=by
   rcases Nat.lt_or_ge vs.length 64 with q | q
   . exact wrunS (kl_od kf) B (kl_ds k) rfl rfl rfl (Array.Perm.refl _) (by rw[pairsOf_size];lia) (by rw[pairsOf_size];exact q) λ _ f=>f
   exact wrun (kl_od kf) B (kl_ds k) rfl rfl rfl (Array.Perm.refl _) (by rw[pairsOf_size];lia) λ _ f=>f
 refine G' (Ka j ?_ λ _ _ e=>e);rintro⟨⟨⟩,d⟩ S ⟨rfl,f⟩;exact tail d f
theorem sorted6{l:γ}{Q:V'->Sh->Prop}{kd:SortKind}(f:s.heap.IsList l vs.toArray)(a:vs.length<=64)(g:(vs.map kf).Nodup)(i:∀(A:Kj)(E:V'->Sh->Prop) h',(∀ b o,s.heap.get? b=some o->o.cls=.type "tuple" -> h'.get? b=some o)->2<=vs.length ->
     (∀(Q':SortKind->Sh->Prop),Q' kd { s with heap:=h' }->Kg (Kh prog w) A (keyKind' vs.toArray) Q' E { s with heap:=h' })/\Cm prog w A { s with heap:=h' } kd (λ x=>x.1∈vs) (kl kf))(h:∀ out:List V',out.Perm vs->(out.map kf).Pairwise (λ p q=>plt q p=false)->Q (.ref (s.heap.objs.size+1)) { s with heap:=sortedAll s.heap vs out.toArray }) :
   Kg (Kh prog w) A (call (.builtin "sorted") [.ref l]) Q E s:=by
 refine Calls.call_function_entry kind_sorted plain_sorted entry_sorted (args_sorted1 _) ?_;unfold Builtin.«sorted»;refine G' (m:=checkCount "sorted" 1 1 _) (Jr (G' (collect_list f (G' (wpAny_newList ?_ (by rw[J0];lia))) (by rw[J0];lia))));have d:((s.heap.push (seqObj "list" #[] 0)).update s.heap.objs.size (Obj.mapSeq (·++vs.toArray))).objs.size=s.heap.objs.size+1:=by rw[Heap.size_update,size_push']
 have e:(((s.heap.push (seqObj "list" #[] 0)).update s.heap.objs.size (Obj.mapSeq (·++vs.toArray))).push (seqObj "list" vs.toArray 0)).get? (s.heap.objs.size+1)=some (seqObj "list" vs.toArray 0):=by
   rw[<- d];exact zAs _ rfl
 have j:∀ b o,s.heap.get? b=some o->(((s.heap.push (seqObj "list" #[] 0)).update s.heap.objs.size (Obj.mapSeq (·++vs.toArray))).push (seqObj "list" vs.toArray 0)).get? b=some o:=λ b o q =>
   zA2 _ (by rw[Heap.get?_update_ne _ _ _ _ (zAq (zAd q))];exact zA2 _ q)
 show Kg _ _ _ _ _ { s with heap:=((s.heap.push (seqObj "list" #[] 0)).update s.heap.objs.size (Obj.mapSeq (·++vs.toArray))).push (seqObj "list" vs.toArray 0) };rw[d];refine G' (Jw (wpAny_call_entry slot_list_sort ⟨_,e,rfl⟩ entry_list_sort (qaj1 e a g (λ h' k c=>i _ _ h' (λ b o q n=>k b o (j _ _ q) n) c) λ out r t=>⟨_,rfl,?_⟩) (args_list_sort _)));exact Jr ⟨_,rfl,h out r t⟩
end
end S6
namespace LV
open PySem L2 PyProof.Rows
variable{ps:List (Int×Int)}
abbrev Ej(ps:List (Int×Int)):List (Int×Int):=ps.mergeSort λ p q=>!S6.plt q p
def PrA(H:Hp)(v:V)(p:Int×Int):Prop:=∃ b,v=.ref b/\H b=some (.q [.int p.1,.int p.2])
noncomputable def kfh(h:Heap):V'->Int×Int
 | .ref b=>match h.get? b with
   | some o=>match o.data with
     | .seq xs _=>(numOf (xs.getD 0 .none),numOf (xs.getD 1 .none))
     | _=>(0,0)
   | none=>(0,0)
 | _=>(0,0)
theorem qaU6{h:Heap}{v:V'}{p:Int×Int}(t:S6.TP h v p):kfh h v=p:=by
 obtain⟨b,t,u,o,n,rfl,a,d,c⟩:=t;simp only[kfh,a,c];rfl
noncomputable def vOf:V'->V
 | .ref b=>.ref b
 | _=>.non
section
variable{X:Cx}{D8:List (γ×Obj)}{σ:List (Option V)}{H:Hp}{s:Sh}
theorem qaI0(I:Inv X D8 σ H s){vs:List V}{its:List V'}(r:N8 vs its)(t:Paired (PrA H) vs ps) :
   its.map (kfh s.heap)=ps/\∀ u∈its,S6.TP s.heap u (kfh s.heap u)/\∃ b,u=.ref b/\H b=some (.q [.int (kfh s.heap u).1,.int (kfh s.heap u).2]):=by
 induction t generalizing its with
 | nil=>cases r;exact⟨rfl,nofun⟩
 | @cons v p vs ps h t f =>
   cases r with
   | @cons _ u _ its ru rt =>
     obtain⟨b,rfl,c⟩:=h;cases ru;obtain⟨w,q,⟨o,g,i,n,j⟩,_⟩:=I.tuple (.inl (.inl c));have d:S6.TP s.heap (.ref b) p:=by
       obtain⟨x,y,rfl,⟨t1,rfl⟩,t2,rfl⟩:=N8.two q;exact⟨b,t1,t2,o,n,rfl,g,i,j⟩
     have e:=qaU6 d;obtain⟨k,l⟩:=f rt;refine⟨by rw[zAo,e,k],λ u a=>?_⟩;rcases zAh.mp a with rfl | a
     . rw[e];exact⟨d,b,rfl,c⟩
     exact l u a
theorem qar4{h:Heap}:∀{out:List V'},(∀ u∈out,∃ b,u=.ref b/\H b=some (.q [.int (kfh h u).1,.int (kfh h u).2]))->N8 (out.map vOf) out/\Paired (PrA H) (out.map vOf) (out.map (kfh h))
 | [],_=>⟨.nil,.nil⟩
 | u::out,k=>by
   obtain⟨b,rfl,c⟩:=k u zA7;have a:=qar4 (out:=out) λ v d=>k v (zA3 _ d)
   exact⟨.cons rfl a.1,.cons ⟨b,rfl,c⟩ a.2⟩
theorem qO6{h:Heap}{kf:V'->Int×Int}:∀{its:List V'},(∀ u∈its,S6.TP h u (kf u))->∃ fs,W.KatTups h its fs/\fs.length=its.length/\∀ f∈fs,∃ i t,f=M3 i t
 | [],_=>⟨[],trivial,rfl,nofun⟩
 | u::its,k=>by
   obtain⟨fs,f1,f2,f3⟩:=qO6 (its:=its) λ v c=>k v (zA3 _ c)
   obtain⟨b,t,w,o,n,rfl,d,e,g⟩:=k u zA7;refine⟨M3 _ t::fs,W.KatTups.cons d e g rfl f1,by rw[zAf,f2];rfl,λ f a=>?_⟩;rcases zAh.mp a with rfl | a
   . exact⟨_,_,rfl⟩
   exact f3 f a
theorem qY4(ps:List (Int×Int)):(Ej ps).Pairwise λ p q=>S6.plt q p=false:=by
 refine(List.pairwise_mergeSort (λ a b c d e=>?_) (λ a b=>?_) ps).imp λ{a b} h=>by simpa using h
 . simp[S6.plt] at d e ⊢;lia
 simp[S6.plt];lia
theorem qaw2{c:List (Int×Int)}(d:c.Perm ps)(hs:c.Pairwise λ p q=>S6.plt q p=false):c=Ej ps:=by
 refine List.Perm.eq_of_pairwise (le:=λ p q=>S6.plt q p=false) (λ a b _ _ e f=>?_) hs (qY4 ps) (d.trans (Mc _ _).symm);simp[S6.plt] at e f;exact Prod.ext (by lia) (by lia)
def qaG8(K:Nf):List V->Hp->VK->Prop:=λ xs H Q=>∃ a vs ps,xs=[.ref a]/\SqL K H a vs/\Paired (PrA H) vs ps/\ps.Nodup/\ps.length<=64/\∀ l b,H l=none->Paired (PrA H) b (Ej ps)->Q (.ref l) (upd H l (.l b))
theorem qag4:CallR X (.builtin "sorted") (qaG8 X.K):=by
 intro D8 s σ H V Y Q I r h;obtain⟨a,Z,B,rfl,C,t,D,hl,q⟩:=h;obtain⟨u,rfl,F⟩:=Bf r;cases F;obtain⟨f,G,J,hz⟩:=I.list C;obtain⟨j,g⟩:=qaI0 I G t;have L:f.length<=64:=by have:=congrArg K9 j;rw[zA8] at this;lia
 refine S6.sorted6 (kf:=kfh s.heap) (kd:=tuples' true) J.isList L (by rw[j];exact D) (λ A E h' k c=>⟨λ Q' l=>?_,λ x y M N E Q l=>?_⟩) λ d m O=>?_
 . obtain⟨fs,f1,f2,f3⟩:=qO6 λ u n=>(g u n).1.keep k
   refine W.kat_kind (T:=.type "int") f1 (by lia) (λ v P=>?_) rfl l;obtain⟨i,t,rfl⟩:=f3 v P;exact W.Looks.of_pure rfl
 . exact S6.cmpP ((g _ M).1.keep k) ((g _ N).1.keep k) l
 obtain⟨R,p⟩:=qar4 (H:=H) (h:=s.heap) (out:=d) λ u n=>(g u (m.mem_iff.mp n)).2
 obtain⟨e,S⟩:=sortedAll_at s.heap f d.toArray;have U:d.map (kfh s.heap)=Ej B:=qaw2 (j ▸ m.map _) O;rw[U] at p;refine⟨.ref _,_,I.laid (t':=s.toks) (λ b o z=>sortedAll_old z) (Nat.le_succ _) (show ObjOk X.prog X.w _ _ _ (.l (d.map vOf)) from⟨?_,d,e,R,S⟩),rfl,q _ _ (I.hok.fresh (Nat.le_succ _)) p⟩;rw[zA8,m.length_eq,J0];lia
noncomputable def Ee:D->Option (Int×Int)
 | .q [.int a,.int b]=>some (a,b)
 | _=>none
noncomputable def Ji(p:Int×Int):D:=.q [.int p.1,.int p.2]
def qaN5(x:D):Option D:=match x with
 | .l _ ys=>(ys.mapM Ee).bind λ ps=>gd (ps.Nodup/\ps.length<=64) (.l false ((Ej ps).map Ji))
 | _=>none
theorem qU4:∀{ys:List D}{ps:List (Int×Int)},ys.mapM Ee=some ps->ys=ps.map Ji
 | [],ps,h=>by cases h;rfl
 | y::ys,ps,h=>by
   rw[Ms] at h;obtain⟨p,a,h⟩:=zA1.mp h;obtain⟨c,b,h⟩:=zA1.mp h;cases h;rw[zAo,qU4 b];congr 1;unfold Ee at a;split at a
   . cases a;rfl
   cases a
theorem qax8{F:γ->Prop}{H:Hp}:∀{ps:List (Int×Int)}{vs:List V}{A:List γ},N3 F H vs (ps.map Ji) A->Paired (PrA H) vs ps
 | [],_,_,r=>by cases r;exact .nil
 | p::ps,_,_,r=>by
   cases r with
   | cons h t =>
     obtain⟨a,d,rfl,e,r⟩:=h.tup_inv;obtain⟨v,w,_,_,rfl,b,c,_⟩:=r.two_inv;rw[b.int_inv,c.int_inv] at e;exact .cons ⟨_,rfl,e⟩ (qax8 t)
theorem qax7{F:γ->Prop}{H:Hp}{a:List V}(t:Paired (PrA H) a ps):N3 F H a (ps.map Ji) []:=by
 induction t with
 | nil=>exact .nil
 | cons h t c =>
   obtain⟨b,rfl,d⟩:=h;exact .cons (A:=[]) (B:=[]) (.q d (.cons (A:=[]) (B:=[]) (.int _) (.cons (A:=[]) (B:=[]) (.int _) .nil))) c
theorem qaD4{K:Nf}:CS1 true (qaG8 K) qaN5:=by
 intro F H v x B d Q r h q;cases x with
 | l z n =>
   obtain⟨c,e,f⟩:=zA1.mp h;obtain⟨⟨g,i⟩,rfl⟩:=qi7 f;cases qU4 e;obtain⟨a,j,A,rfl,k,m,_⟩:=r.lst_inv;exact⟨a,j,c,rfl,.inl (.inl k),qax8 m,g,i,λ l o b t=>q _ _ [l] (qs5 b (qax7 t)) (Same.new b) (qf0 b)⟩
 | _=>cases h
end
end LV
namespace LV
open PySem L2
noncomputable def gMin3:Ds->Option D
 | [.int i,.int j,.int k]=>some (.int (if j < i then (if k < j then k else j) else (if k < i then k else i)))
 | _=>none
def rMin3:List V->Hp->VK->Prop:=λ xs H Q=>∃ i j k:Int,xs=[.int i,.int j,.int k]/\Q (.int (if j < i then (if k < j then k else j) else (if k < i then k else i))) H
theorem qao8{X:Cx}(a:X.calm=true):CallR X (.builtin "min") rMin3:=by
 intro D8 s o H f g Q I r h;obtain⟨i,j,k,rfl,q⟩:=h;cases r with | cons b t=>cases t with | cons c t=>cases t with | cons d t =>
   cases t;obtain⟨t1,rfl⟩:=b;obtain⟨t2,rfl⟩:=c;obtain⟨l,rfl⟩:=d;refine min_three_ints (I.ok.hd a) λ m n e=>⟨_,H,I.kept e,?_,q⟩
   repeat' split
   all_goals exact⟨_,rfl⟩
theorem qaJ5:OpS true rMin3 gMin3:=by
 intro F H f g B d Q r e q;unfold gMin3 at e;split at e
 . cases e
   cases r with | cons a t=>cases t with | cons b t=>cases t with | cons c t =>
     cases t;cases a;cases b;cases c;exact⟨_,_,_,rfl,q _ H [] (.int _) (λ _ _ z=>z) New.nil⟩
 cases e
mutual
def D.plain:D->Bool
 | .q ds=>D.plains ds
 | .l z ds=>!z&&D.plains ds
 | .non=>true | .bl _=>true | .int _=>true | .str _=>true
 | _=>false
def D.plains:List D->Bool
 | []=>true
 | d::r=>d.plain&&D.plains r
end
end LV
namespace LV
open PySem L2 PyProof.Rows
section
variable{c:Vc}{X:Cx}{e:Kl}{n o:VT}{s:VSp}
def tOrT(n o:VT):VT:=λ ds Q xe=>n ds Q xe∨o ds Q xe
theorem eAlt(g:VE c X e n)(i:VE c X e o):VE c X e (tOrT n o):=by
 refine⟨λ D8 s l H Q I b=>?_,λ d Q Q' f k j a=>N1 (g.m _ _ _ _ _ j a) (i.m _ _ _ _ _ j a)⟩;obtain⟨F,d,A,f,S,a,q⟩:=b;rcases q with q | q
 . exact g.h D8 s l H Q I ⟨F,d,A,f,S,a,q⟩
 exact i.h D8 s l H Q I ⟨F,d,A,f,S,a,q⟩
end
end LV
namespace L2
open PySem PySem.Spec PyProof.Rows
theorem Oc.u64{cm:Bool}{k:Nat}{A:Kj}(a:Oc cm k A):A.units+64 < cLine:=a.units
end L2
namespace LV
open PySem L2
abbrev VH:=Exn->VTS
end LV
namespace HT
open PySem PyProof.Rows
noncomputable def lexGt:List Int->List Int->Bool
 | [],[]=>false
 | [],_::_=>false
 | _::_,[]=>true
 | x::xs,y::ys=>if x=y then lexGt xs ys else decide (x > y)
theorem qw6(x y:Int)(xs ys:List Int):lexGt (x::xs) (y::ys)=if x=y then lexGt xs ys else decide (x > y):=rfl
theorem qs8:lexGt [] []=false:=rfl
theorem qE1(y:Int)(ys:List Int):lexGt [] (y::ys)=false:=rfl
theorem qE2(x:Int)(xs:List Int):lexGt (x::xs) []=true:=rfl
theorem qax3(A:Kj)(s:Sh)(a:Int)(t:Tok)(c:Int)(u:Tok)(prog:Ki)(w:Kk)(E Q:V'->Sh->Prop)(h:Q (.bool (decide (a > c))) s) :
   Kg (Kh prog w) A (richCompare .Gt (.int a t) (.int c u)) Q E s :=
 (PyProof.Rows.gt_int h:Kg (Kh prog w) A (Ju .Gt (.int a t) (.int c u)) Q E s)
section
open PySem.SeqAt
open PySem.AutoSeq1 (wpAny_loadPart')
open PySem.MeetsSeq PySem.MeetsSeq2 PySem.MeetsSeq3
theorem qF4(l b:γ)(items items2:Array V')(n P:Nat)(Q I:Option γ)(S J:Array (Option V'))(ns C:List Int)(hi:IntsAre items.toList ns)(N:IntsAre items2.toList C) :
   Meets (Builtin.«tuple.__gt__» ⟨[.ref l,.ref b],[]⟩)
     (λ _ R s=>s.heap.get? l=some { cls:=.type "tuple",dict:=Q,data:=.seq items n,slots:=S }/\s.heap.get? b=some { cls:=.type "tuple",dict:=I,data:=.seq items2 P,slots:=J } /\
       R (.ok (.ret (.bool (lexGt ns C)))) s) :=
 .of_wp λ prog w A R s h=>by
   obtain⟨D,g,d,E,F⟩:=s;obtain⟨T,U,h⟩:=h;have f2:=AutoSeq1.sub_tuple_tuple;have Z:items.size=ns.length:=by rw[<- hi.length];simp
   have z2:items2.size=C.length:=by rw[<- N.length];simp
   wp_walk using wpAny_loadPart' T,wpAny_loadPart' U,wpAny_forIn_list _ (λ rest b K=>b.1=none/\K=⟨D,g,d,E,F⟩/\∃(G H:List V')(i j:List Int),rest=G.zip H /\
     IntsAre G i/\IntsAre H j/\i.length+items2.size=j.length+items.size/\R (.ok (.ret (.bool (lexGt i j)))) ⟨D,g,d,E,F⟩) _
   case turn =>
     rintro⟨y,x⟩ rest b K ⟨r,rfl,G,H,i,j,k,v,m,f,o⟩;cases v with
     | nil=>rw[List.zip_nil_left] at k;cases k
     | cons a t z =>
       cases m with
       | nil=>rw[List.zip_nil_right] at k;cases k
       | cons c u B =>
         rw[Lq] at k;injection k with L hrest
         injection L with V W
         subst V W;rw[qw6] at o;simp only[zAf] at f;obtain⟨e,X,p⟩:=qaC9 A.in1 ⟨D,g,d,E,F⟩ a t c u;refine G' (X prog w _ _ ?_);cases e with
         | true =>
           rw[if_pos (p.mp rfl)] at o
           wp_walk
           exact⟨rfl,rfl,_,_,_,_,hrest,z,B,by lia,o⟩
         | false =>
           rw[if_neg (λ q=>absurd (p.mpr q) zAx)] at o;have M:=qax3 A.in1 ⟨D,g,d,E,F⟩ a t c u prog w
           wp_walk using M
           exact⟨_,rfl,by simpa using o⟩
   case fin =>
     rintro⟨b1,b2⟩ K ⟨r,rfl,G,H,i,j,k,v,m,f,o⟩;simp only at r;subst r;have O:lexGt i j=decide (items.size > items2.size):=by
       cases v with
       | nil =>
         cases m with
         | nil =>
           simp only[zBv] at f;rw[qs8];exact(zAl (by lia)).symm
         | cons c u Y =>
           simp only[zBv,zAf] at f;rw[qE1];exact(zAl (by lia)).symm
       | cons a t O =>
         cases m with
         | nil =>
           simp only[zBv,zAf] at f;rw[qE2];exact(zAb (by lia)).symm
         | cons c u Y =>
           rw[Lq] at k;cases k
     rw[O] at o
     wp_walk
     exact⟨_,rfl,by simpa[Builtin.Tuple.tupleCompareSizes] using o⟩
   case h =>
     exact⟨rfl,rfl,items.toList,items2.toList,ns,C,rfl,hi,N,by lia,h⟩
end
section
variable{prog:Ki}{w:Kk}{A:Kj}{E:V'->Sh->Prop}{s:Sh}
theorem qae0{l b:γ}{items items2:Array V'}{ns a:List Int}{Q:V'->Sh->Prop}(m:IsTup s.heap l items)(o:IsTup s.heap b items2)(hi:IntsAre items.toList ns)(p:IntsAre items2.toList a)(q:A.units < cLine)(h:Q (.bool (lexGt ns a)) s):Kg (Kh prog w) A (Ju .Gt (.ref l) (.ref b)) Q E s:=by
 obtain⟨⟨r,t,data,u⟩,i,j,n,k⟩:=id m;obtain⟨⟨cls2,f,data2,g⟩,c,d,v,e⟩:=id o;simp only at j k d e;subst j k d e;exact richCompare_meets_room (op:=.Gt) ⟨_,i,rfl⟩ ⟨_,c,rfl⟩ F.slot_tuple_gt F.entry_tuple_gt (F.args_tuple_gt_2 _ _) (qF4 l b items items2 n v t f u g ns a hi p)
   ⟨i,c,show M5 (lexGt ns a)≠Value.notImplemented/\Q (.bool (lexGt ns a)) s from⟨(λ x=>nomatch x),h⟩⟩ q
end
end HT
namespace S9
open PySem PySem.Spec PyProof.Rows
variable{o:Obj}
section
variable{prog:Ki}{w:Kk}{A:Kj}{R:Result->Sh->Prop}{I S:γ}{F wr:List γ}{n:Nat}{P:Nat->V'->Prop}{St:Nat->Heap->Prop}{bt:Nat->Nat->Bool}{N:List (Str×V')}{g:Heap}
def Kps(g:Heap)(wr:List γ)(S:γ)(h:Heap):Prop:=∀ b o,b∉wr->b≠S->g.get? b=some o->h.get? b=some o
def CmpIn(prog:Ki)(w:Kk)(A:Kj)(P:Nat->V'->Prop)(bt:Nat->Nat->Bool)(G:Heap->Prop):Prop:=∀ i j u v (s:Sh) (Q E:V'->Sh->Prop),P i u->P j v->G s.heap->Q (.bool (bt i j)) s->Kg (Kh prog w) A (richCompare .Gt u v) Q E s
theorem loop(W:Walks prog w A.in1 I F wr n P St)(K:CmpIn prog w A.in1 P bt (Kps g wr S))(C:S∉F):∀ k j (s:Sh) v c,n - (j+1)=k->j+1<=n->St (j+1) s.heap->P (argBest bt j) v->Kps g wr S s.heap ->
   s.heap.get? S=some { cls:=.type "list",dict:=none,data:=.seq #[v,v] c,slots:=#[] }->(∀ u h t,P (argBest bt (n - 1)) u->Kps g wr S h->R (.ok (.ret u)) { s with heap:=h,toks:=t }) ->
   codeAny (Kh prog w) A (.builtin "max.loop" ⟨[.ref I,.none,.ref S],N⟩) R s:=by
 have D:S∉wr:=λ h=>C (W.sub _ h)
 have E:(toString "max" ++ toString ".loop" : String) = "max.loop" := by decide
 intro k
 induction k with
 | zero =>
   intro j s v c L e2 x pv y l fin;have e:j+1=n:=by lia
   refine codeAny_builtin Nl ?_;rw[Around.under_plainId Nh _];refine G' (m:=seqItems? (.ref S)) (wpAny_seqItems l rfl ?_);refine G' (m:=tryCatch (pyNext (.ref I)) _) (wpAny_tryCatch (W.done s _ _ (e ▸ x) λ h t p=>?_));refine G' (m:=updateSeq S λ _=>#[]) (wpAny_updateSeq (p S _ D l) rfl (G' (wpAny_letGo (Jr ?_))));exact fin v _ t (by rw[<- e];exact pv) λ b o a d q=>(zC7 _ _ (Ne.symm d)).trans (p b o a (y b o a d q))
 | succ k G =>
   intro j s v c L e2 x pv y l fin;have B:j+1 < n:=by lia
   refine codeAny_builtin Nl ?_;rw[Around.under_plainId Nh _];refine G' (m:=seqItems? (.ref S)) (wpAny_seqItems l rfl ?_);refine G' (m:=tryCatch (pyNext (.ref I)) _) (wpAny_tryCatch (W.item (j+1) s _ _ B x λ u h t H r p=>?_));have f:=p S _ D l;have i:Kps g wr S h:=λ b o a d q=>p b o a (y b o a d q)
   refine G' (m:=tryCatch (holding [u,u] _) _) (wpAny_tryCatch (Jw (G' (K (j+1) (argBest bt j) u v _ _ _ H pv i ?_))));refine G' (Jw (Jy (G' (wpAny_letGo (Jr ?_)))));cases a:bt (j+1) (argBest bt j) with
   | true =>
     simp only[if_true];refine G' (wpAny_updateSeq f rfl (G' (wpAny_letGo ?_)));rw[E];have J:∀ b o,b≠S->h.get? b=some o->(h.update S (Obj.mapSeq λ _=>#[u,u])).get? b=some o:=λ b o d q=>(zC7 _ _ (Ne.symm d)).trans q
     exact Jr ⟨plainId_quiet Nh _,G (j+1) _ u _ (by lia) B (W.frame _ _ _ r λ b M o q=>J b o (λ z=>C (z ▸ M)) q) (by simp only[argBest,a,if_true];exact H) (λ b o a d q=>J b o d (i b o a d q)) (Heap.get?_update_self _ f rfl) fin⟩
   | false =>
     simp only[Bool.false_eq_true,if_false];refine G' (wpAny_letGo ?_);rw[E];exact Jr ⟨plainId_quiet Nh _,G (j+1) _ v c (by lia) B r (by simp only[argBest,a,Bool.false_eq_true,if_false];exact pv) i f fin⟩
theorem loop1(W:Walks prog w A.in1 I F wr n P St)(p:CmpIn prog w A.in1 P bt (Kps g wr S))(e:S∉F)(a:0 < n){s:Sh}{c:Nat}(st:St 0 s.heap)(ks:Kps g wr S s.heap)(i:s.heap.get? S=some { cls:=.type "list",dict:=none,data:=.seq #[] c,slots:=#[] })(fin:∀ u h t,P (argBest bt (n - 1)) u->Kps g wr S h->R (.ok (.ret u)) { s with heap:=h,toks:=t }) :
   codeAny (Kh prog w) A (.builtin "max.loop" ⟨[.ref I,.none,.ref S],N⟩) R s:=by
 have r:S∉wr:=λ h=>e (W.sub _ h)
 have v:(toString "max" ++ toString ".loop" : String) = "max.loop" := by decide
 refine codeAny_builtin Nl ?_;rw[Around.under_plainId Nh _];refine G' (m:=seqItems? (.ref S)) (wpAny_seqItems i rfl ?_);refine G' (m:=tryCatch (pyNext (.ref I)) _) (wpAny_tryCatch (W.item 0 s _ _ a st λ u h t x f j=>?_));have d:=j S _ r i;refine G' (m:=updateSeq S λ _=>#[u,u]) (wpAny_updateSeq d rfl ?_);rw[v];have k:∀ b o,b≠S->h.get? b=some o->(h.update S (Obj.mapSeq λ _=>#[u,u])).get? b=some o:=λ b o a q=>(zC7 _ _ (Ne.symm a)).trans q
 exact Jr ⟨plainId_quiet Nh _,loop W p e _ 0 _ u _ rfl a (W.frame _ _ _ f λ b y o q=>k b o (λ z=>e (z ▸ y)) q) x (λ b o l a q=>k b o a (j b o l (ks b o l a q))) (Heap.get?_update_self _ d rfl) fin⟩
theorem loop0(W:Walks prog w A.in1 I F wr 0 P St)(e:S∉F){s:Sh}{c:Nat}{x:Str}{d:V'}(st:St 0 s.heap)(ks:Kps g wr S s.heap)(f:s.heap.get? S=some { cls:=.type "list",dict:=none,data:=.seq #[] c,slots:=#[] })(fin:∀ h t,Kps g wr S h->R (.ok (.ret d)) { s with heap:=h,toks:=t }) :
   codeAny (Kh prog w) A (.builtin "max.loop" ⟨[.ref I,.none,.ref S],[(x,d)]⟩) R s:=by
 have k:S∉wr:=λ h=>e (W.sub _ h)
 refine codeAny_builtin Nl ?_;rw[Around.under_plainId Nh _];refine G' (m:=seqItems? (.ref S)) (wpAny_seqItems f rfl ?_);refine G' (m:=tryCatch (pyNext (.ref I)) _) (wpAny_tryCatch (W.done s _ _ st λ h t i=>?_));refine G' (m:=rule _) (Kb (Jr ?_));exact fin h t λ b o a j q=>i b o a (ks b o a j q)
end
section
variable{prog:Ki}{w:Kk}{A:Kj}{E:V'->Sh->Prop}{s:Sh}{l:γ}{its:List V'}{Q:V'->Sh->Prop}
theorem qL2{s:Sh}{o':Obj}:Kps s.heap [s.heap.objs.size] (s.heap.push o).objs.size ((s.heap.push o).push o'):=λ b p _ _ q=>zA2 _ (zA2 _ q)
theorem qak5{h:Heap}(k:Kps s.heap [s.heap.objs.size] (s.heap.push o).objs.size h):∀ b p,s.heap.get? b=some p->h.get? b=some p:=λ b p q=>by
 have:=zAd q
 refine k b p (λ z=>?_) (λ z=>?_) q
 . rw[zAg.mp z] at this;exact zBj _ this
 rw[z,zCp] at this;exact zBj _ (zBu this)
theorem Jj(a:l < s.heap.objs.size):(s.heap.push o).objs.size∉[s.heap.objs.size,l]:=λ z=>by
 rw[zCp] at z;rcases zAh.mp z with z | z
 . exact Nat.succ_ne_self _ z
 rw[<- zAg.mp z] at a;exact zBj _ (zBu a)
theorem max_tups(z:A.handled=none)(B:A.in1.units < cLine)(c:s.heap.IsList l its.toArray)(d:0 < its.length)(f:Nat->List Int)(p:∀ i v,its[i]? = some v->∃ a xs,v=.ref a/\IsTup s.heap a xs/\IntsAre xs.toList (f i))(h:∀ v h' t,its[argBest (λ i j=>HT.lexGt (f i) (f j)) (its.length - 1)]? = some v->(∀ b o,s.heap.get? b=some o->h'.get? b=some o)->Q v { s with heap:=h',toks:=t }):Kg (Kh prog w) A (call (.builtin "max") [.ref l]) Q E s:=by
 have C:(toString "max" ++ toString ".loop" : String) = "max.loop" := by decide
 have x:l < s.heap.objs.size:=let ⟨o,ho,_⟩:=c;zAd ho
 refine call_function_tree Nv Nt Nu (F.args_max1 _) ?_;refine G' (m:=Builtin.Builtins.bindParams "max" ["key", "default"] 0 ⟨[],[]⟩) (wpAny_of_eq (show _=pure [none,none] from rfl) (G' (Jr (G' (wpAny_pyIter_list c (G' (wpAny_newObj_type ?_)))))));rw[C];refine Jr ⟨plainId_quiet Nh _,loop1 (g:=s.heap) (Walks.list (A:=A.in1) z _ l (zAq x) its.toArray) (bt:=λ i j=>HT.lexGt (f i) (f j)) ?_ ?_ (by rw[zA6];exact d) ⟨⟨_,zA2 _ (zAs _ rfl),rfl,rfl⟩,c.at λ o e=>zA2 _ (zA2 _ e)⟩ qL2 (zAs _ rfl) λ u h' t n k=>?_⟩
 . intro i j u v D Q' E' n pv k q
   obtain⟨a,xs,rfl,t1,G⟩:=p i u (by simpa using n);obtain⟨b,I,rfl,t2,H⟩:=p j v (by simpa using pv);have y:∀{a:γ}{xs:Array V'},IsTup s.heap a xs->IsTup D.heap a xs:=λ ⟨o,e,r⟩=>⟨o,qak5 k _ _ e,r⟩
   exact HT.qae0 (A:=A.in1) (y t1) (y t2) G H B q
 . exact Jj x
 exact h u h' t (by simpa using n) (qak5 k)
theorem max_dflt(C:A.handled=none)(c:s.heap.IsList l its.toArray){ns:List Int}{d:V'}(D:∀(i:Nat)(v:V'),its[i]? = some v->∃ t,v=.int (ns.getD i 0) t)(h:∀ v h' t,(its=[]/\v=d∨0 < its.length/\its[argBest (λ i j=>decide (ns.getD i 0 > ns.getD j 0)) (its.length - 1)]? = some v)->(∀ b o,s.heap.get? b=some o->h'.get? b=some o)->Q v { s with heap:=h',toks:=t }):Kg (Kh prog w) A (call (.builtin "max") [.ref l] [(Str.ofString "default",d)]) Q E s:=by
 have G:(toString "max" ++ toString ".loop" : String) = "max.loop" := by decide
 have n:l < s.heap.objs.size:=let ⟨o,ho,_⟩:=c;zAd ho
 have H:argsOk "max" ⟨[.ref l],[(Str.ofString "default",d)]⟩:=by unfold argsOk;kernel_rfl
 refine wpAny_call (codeAny_call_builtin Nt Nu ?_);simp only[checkBuiltinCall,Nv]
 suffices g:Kg (Kh prog w) A.in1 (Builtin.«max» ⟨[.ref l],[(Str.ofString "default",d)]⟩) (λ fin a=>match fin with
     | .done f=>(match (Except.ok f:Result) with | .ok (.ret v)=>Q v a | .ok _=>False | .error e=>E e a)
     | .again y=>y.quiet=true/\codeAny (Kh prog w) A y (λ r a=>match r with | .ok (.ret v)=>Q v a | .ok _=>False | .error e=>E e a) a) E s by
   cases I:Manifest.signature? "max" with
   | none=>exact Jr g
   | some p =>
     have J:Bind.checkArgs "max" p ⟨[.ref l],[(Str.ofString "default",d)]⟩=pure ():=by simpa only[argsOk,I] using H
     simp only[J];exact Jr g
 refine G' (m:=Builtin.Builtins.bindParams "max" ["key", "default"] 0 ⟨[],[(Str.ofString "default",d)]⟩) (wpAny_of_eq (show _=pure [none,some d] from rfl) (G' (Jr (G' (wpAny_pyIter_list c (G' (wpAny_newObj_type ?_)))))));rw[G];have W:=Walks.list (prog:=prog) (w:=w) (A:=A.in1) C s.heap.objs.size l (zAq n) its.toArray;by_cases z:its=[]
 . subst z
   exact Jr ⟨plainId_quiet Nh _,loop0 (g:=s.heap) W (Jj n) ⟨⟨_,zA2 _ (zAs _ rfl),rfl,rfl⟩,c.at λ o e=>zA2 _ (zA2 _ e)⟩ qL2 (zAs _ rfl) λ h' t k=>h d h' t (.inl ⟨rfl,rfl⟩) (qak5 k)⟩
 have B:=zCk.mpr z;refine Jr ⟨plainId_quiet Nh _,loop1 (g:=s.heap) W (bt:=λ i j=>decide (ns.getD i 0 > ns.getD j 0)) (λ i j u v a Q' E' x pv k q=>?_) (Jj n) (by rw[zA6];exact B) ⟨⟨_,zA2 _ (zAs _ rfl),rfl,rfl⟩,c.at λ o e=>zA2 _ (zA2 _ e)⟩ qL2 (zAs _ rfl) λ u h' t x k=>h u h' t (.inr ⟨B,by simpa using x⟩) (qak5 k)⟩;exact CmpOf.ints_gt (P:=λ i v=>its.toArray[i]? = some v) (λ i=>ns.getD i 0) (λ i v e=>D i v (by simpa using e)) i j u v a Q' E' x pv q
end
end S9
namespace L2
open PySem PySem.Spec PyProof.Rows
def pgt(p q:Int×Int):Prop:=q.1 < p.1∨q.1=p.1/\q.2 < p.2
theorem qP9{p q:Int×Int}:HT.lexGt [p.1,p.2] [q.1,q.2]=true↔pgt p q:=by
 unfold pgt;rw[HT.qw6];by_cases h:p.1=q.1
 . rw[if_pos h,HT.qw6]
   by_cases a:p.2=q.2
   . rw[if_pos a,HT.qs8]
     exact⟨(λ z=>nomatch z),λ z=>by lia⟩
   rw[if_neg a,decide_eq_true_iff];lia
 rw[if_neg h,decide_eq_true_iff];lia
theorem qag8(f:Nat->Int×Int):∀ k,argBest (λ i j=>HT.lexGt [(f i).1,(f i).2] [(f j).1,(f j).2]) k<=k/\∀ j,j<=k->¬ pgt (f j) (f (argBest (λ i j=>HT.lexGt [(f i).1,(f i).2] [(f j).1,(f j).2]) k))
 | 0=>⟨zA4 _,λ j a=>by rw[Nat.le_zero.mp a];show ¬ pgt (f 0) (f 0);unfold pgt;lia⟩
 | k+1=>by
   obtain⟨d,b⟩:=qag8 f k;unfold argBest;generalize argBest (λ i j=>HT.lexGt [(f i).1,(f i).2] [(f j).1,(f j).2]) k=m at d b;by_cases c:pgt (f (k+1)) (f m)
   . rw[if_pos (qP9.mpr c)]
     refine⟨zA4 _,λ j a=>?_⟩;rcases zCq a with z | rfl
     . have:=b j (by lia)
       unfold pgt at *
       lia
     unfold pgt;lia
   rw[if_neg λ z=>c (qP9.mp z)];refine⟨by lia,λ j a=>?_⟩;rcases zCq a with z | rfl
   . exact b j (by lia)
   exact c
section
variable{X:Cx}
def rMaxP:List V->Hp->VK->Prop:=λ xs H Q=>∃(a:γ)(vs:List V)(ps:List (Int×Int)),xs=[.ref a]/\H a=some (.l vs)/\Paired (LV.PrA H) vs ps/\ps≠[]/\∀(i:Nat)(v:V)(p:Int×Int),vs[i]? = some v->ps[i]? = some p->(∀ q∈ps,¬ pgt q p)->Q v H
theorem qw1{α β:Type}{R:α->β->Prop}:∀{xs:List α}{ys:List β},Paired R xs ys->xs.length=ys.length/\∀(i:Nat)(x:α),xs[i]? = some x->∃ y,ys[i]? = some y/\R x y
 | _,_,.nil=>⟨rfl,λ i x h=>by rw[List.getElem?_nil] at h;cases h⟩
 | _,_,.cons (a:=a) (b:=b) h t=>by
   obtain⟨l,g⟩:=qw1 t;refine⟨by rw[zAf,zAf,l],λ i x e=>?_⟩;cases i with
   | zero=>cases e;exact⟨_,rfl,h⟩
   | succ i=>exact g i x e
theorem qS4(G:X.calm=true)(V:X.A.units+64 < cLine):CallR X (.builtin "max") rMaxP:=by
 intro D8 s σ H z W Q I r h;obtain⟨a,l,f,rfl,J,K,o,q⟩:=h;obtain⟨u,rfl,L⟩:=Bf r;cases L;obtain⟨c,y,M,Y⟩:=I.list (.inl (.inl J));obtain⟨Z,B⟩:=qw1 K;have C:c.length=f.length:=by have:=y.length;lia
 have D:=zCk.mpr o;have g:∀ i w,c[i]? = some w->∃ v,l[i]? = some v/\N7 v w:=λ i w e=>by
   have E:i < l.length:=by have:=(zA5.mp e).1;have:=y.length;lia
   obtain⟨w',F,N⟩:=y.get (i:=i) (x:=l[i]) (zB3 E);rw[e] at F;cases F;exact⟨l[i],zB3 E,N⟩
 refine S9.max_tups (I.ok.hd G) (by show X.A.units+1 < _;lia) M.isList (by lia) (λ i=>[(f.getD i (0,0)).1,(f.getD i (0,0)).2]) (λ i w e=>?_) λ w h' t e k=>?_
 . obtain⟨v,m,d⟩:=g i w e
   obtain⟨p,n,b,rfl,O⟩:=B i v m;obtain⟨z,P,R,_⟩:=I.tuple (.inl (.inl O));cases d;refine⟨b,z.toArray,rfl,R,?_⟩;have S:f.getD i (0,0)=p:=by rw[zC8,n];rfl
   rw[S];exact qG9 P
 obtain⟨v,m,d⟩:=g _ w e;obtain⟨p,n,_⟩:=B _ v m;refine⟨v,H,I.kept (t':=t) k,d,q _ v p m n λ q' T=>?_⟩;obtain⟨j,U,rfl⟩:=Ll T
 have:=(qag8 (λ i=>f.getD i (0,0)) (c.length - 1)).2 j (by lia)
 rw[zC8,zB3 U,zC8,n] at this;exact this
end
end L2
namespace LV
open PySem L2 PyProof.Rows
variable{ns:List Int}
noncomputable def Hv:List (Int×Int)->Option (Int×Int)
 | []=>none
 | p::r=>some (r.foldl (λ b x=>if b.1 < x.1∨b.1=x.1/\b.2 < x.2 then x else b) p)
theorem foldP:∀(r:List (Int×Int))(p:Int×Int),(r.foldl (λ b x=>if b.1 < x.1∨b.1=x.1/\b.2 < x.2 then x else b) p=p∨r.foldl (λ b x=>if b.1 < x.1∨b.1=x.1/\b.2 < x.2 then x else b) p∈r)/\∀ q∈p::r,¬ pgt q (r.foldl (λ b x=>if b.1 < x.1∨b.1=x.1/\b.2 < x.2 then x else b) p)
 | [],p=>⟨.inl rfl,λ q a=>by rw[zAg.mp a];unfold pgt;show ¬ (p.1 < p.1∨p.1=p.1/\p.2 < p.2);lia⟩
 | x::r,p=>by
   rw[Lj];obtain⟨f,d⟩:=foldP r (if p.1 < x.1∨p.1=x.1/\p.2 < x.2 then x else p);generalize r.foldl (λ b x=>if b.1 < x.1∨b.1=x.1/\b.2 < x.2 then x else b) (if p.1 < x.1∨p.1=x.1/\p.2 < x.2 then x else p)=m at f d;by_cases c:p.1 < x.1∨p.1=x.1/\p.2 < x.2
   . rw[if_pos c] at f d
     refine⟨.inr (f.elim (λ e=>e ▸ zA7) (zA3 _)),λ q a=>?_⟩;rcases zAh.mp a with rfl | a
     . have:=d x zA7
       unfold pgt at *
       lia
     exact d q a
   rw[if_neg c] at f d;refine⟨f.imp id (zA3 _),λ q a=>?_⟩;rcases zAh.mp a with rfl | a
   . exact d q zA7
   rcases zAh.mp a with rfl | a
   . have:=d p zA7
     unfold pgt at *
     lia
   exact d q (zA3 _ a)
theorem qP6{ps:List (Int×Int)}{p:Int×Int}(h:Hv ps=some p):p∈ps/\∀ q∈ps,¬ pgt q p:=by
 cases ps with
 | nil=>cases h
 | cons x r =>
   obtain rfl:=Nc h;obtain⟨a,b⟩:=foldP r x;exact⟨a.elim (λ e=>by rw[e];exact zA7) (zA3 _),b⟩
def Jk(x:D):Option D:=match x with
 | .l _ ys=>(ys.mapM Ee).bind λ ps=>(Hv ps).map Ji
 | _=>none
theorem qac0{x d:D}{g:Ds->Option D}(h:(match x with | .l _ ys=>g ys | _=>none)=some d):∃ z ys,x=.l z ys/\g ys=some d:=by
 cases x with
 | l z ys=>exact⟨z,ys,rfl,h⟩
 | _=>cases h
theorem qau1:CS1 true rMaxP Jk:=by
 intro F H v x B d Q r h q;obtain⟨z,E,rfl,h⟩:=qac0 h;obtain⟨k,l,h⟩:=zA1.mp h;obtain⟨p,c,rfl⟩:=zAa.mp h;obtain rfl:=qU4 l;obtain⟨a,m,A,rfl,n,o,_⟩:=r.lst_inv;have f:=qax8 o;obtain⟨s,t⟩:=qP6 c;refine⟨a,m,k,rfl,n,f,λ z=>(by subst z;cases c),λ i v g u e2 w=>?_⟩;obtain⟨G,j,b,rfl,y⟩:=(qw1 f).2 i v u;rw[e2] at j;cases j;have e:g=p:=by
   have C:=w p s;have D:=t g (zB4 e2);unfold pgt at C D;exact Prod.ext (by lia) (by lia)
 subst e;exact q _ H [] (.q (A:=[]) y (.cons (A:=[]) (B:=[]) (.int _) (.cons (A:=[]) (B:=[]) (.int _) .nil))) (λ _ _ z=>z) New.nil
section
variable{X:Cx}
def Gc(ns:List Int)(m:Int):Prop:=m∈ns/\∀ x∈ns,m<=x
theorem qau5(f:Nat->Int):∀ k,argBest (λ i j=>decide (f i < f j)) k<=k/\∀ j,j<=k->f (argBest (λ i j=>decide (f i < f j)) k)<=f j
 | 0=>⟨zA4 _,λ j a=>by rw[Nat.le_zero.mp a];exact Int.le_refl _⟩
 | k+1=>by
   obtain⟨d,b⟩:=qau5 f k;unfold argBest;generalize argBest (λ i j=>decide (f i < f j)) k=m at d b;by_cases c:f (k+1) < f m
   . rw[if_pos (zAb c)]
     refine⟨zA4 _,λ j a=>?_⟩;rcases zCq a with z | rfl
     . have:=b j (by lia);lia
     exact Int.le_refl _
   rw[if_neg λ z=>c (zAc z)];refine⟨by lia,λ j a=>?_⟩;rcases zCq a with z | rfl
   . exact b j (by lia)
   lia
theorem qas9{its:List V'}(b:N8 (ns.map V.int) its):its.length=ns.length/\∀(i:Nat) v,its[i]? = some v->∃ t,v=M3 (ns.getD i 0) t:=by
 have a:its.length=ns.length:=by have f:=b.length;rw[zA8] at f;lia
 refine⟨a,λ i v c=>?_⟩;have d:i < ns.length:=by have h:=(zA5.mp c).1;lia
 obtain⟨u,e,g⟩:=b.get (i:=i) (x:=.int ns[i]) (by simp[d]);rw[c] at e;cases e;obtain⟨t,rfl⟩:=g;exact⟨t,by simp[Ln,d]⟩
theorem qQ5{i:Nat}(h:i < ns.length):ns.getD i 0=ns[i]:=by rw[zC8,zB3 h];rfl
def rMin1(K:Nf):List V->Hp->VK->Prop:=λ xs H Q=>∃(a:γ)(ns:List Int),xs=[.ref a]/\ns≠[]/\SqL K H a (ns.map V.int)/\∀ m,Gc ns m->Q (.int m) H
theorem qS3(y:X.calm=true):CallR X (.builtin "min") (rMin1 X.K):=by
 intro D8 s σ H L M Q I r h;obtain⟨a,l,rfl,m,z,q⟩:=h;obtain⟨u,rfl,B⟩:=Bf r;cases B;obtain⟨d,C,n,N⟩:=I.list z;have g:a < s.heap.objs.size:=let ⟨o,ho,_⟩:=n.isList;zAd ho
 obtain⟨k,p⟩:=qas9 C;have c:∀(i:Nat) v,d.toArray[i]? = some v->∃ t,v=M3 (l.getD i 0) t:=λ i v e=>p i v (by simpa using e)
 have w:=zCk.mpr m;refine call_min_walk (wpAny_pyIter_list n.isList ⟨s.heap.objs.size,_,_,_,_,_,_,rfl,Walks.list (A:=X.A.in1) (I.ok.hd y) _ a (zAq g) d.toArray,⟨⟨_,zAs _ rfl,rfl,rfl⟩,n.isList.at λ o e=>zA2 _ e⟩,λ b f=>?_,by rw[zA6];lia,CmpOf.ints_lt (λ i=>l.getD i 0) c,λ v O D E F=>?_⟩)
 . show b < (s.heap.push _).objs.size
   rw[zCp];rcases zAh.mp f with rfl | f
   . exact zCo _
   rw[zAg.mp f];exact Nat.lt_succ_of_lt g
 obtain⟨t,rfl⟩:=c _ _ E;have f:=qau5 (λ i=>l.getD i 0) (d.toArray.size - 1);rw[zA6,k] at f ⊢;refine⟨.int _,H,I.kept (t':=D) λ b o e=>F b o (by simp;exact zAq (zAd e)) (zA2 _ e),⟨_,rfl⟩,q _ ⟨?_,λ x G=>?_⟩⟩
 . rw[qQ5 (by lia)];exact Lf _
 obtain⟨j,J,rfl⟩:=Ll G
 have:=f.2 j (by lia)
 rw[qQ5 J] at this;exact this
noncomputable def minI:List Int->Option Int
 | []=>none
 | x::r=>some (r.foldl min x)
theorem qQ8:∀(r:List Int)(x:Int),r.foldl min x<=x/\(∀ y∈r,r.foldl min x<=y)/\(r.foldl min x=x∨r.foldl min x∈r)
 | [],x=>⟨Int.le_refl _,nofun,.inl rfl⟩
 | y::r,x=>by
   rw[Lj];obtain⟨c,b,a⟩:=qQ8 r (min x y);generalize r.foldl min (min x y)=m at c b a;refine⟨by lia,λ z d=>(zAh.mp d).elim (λ e=>by rw[e];lia) (b z),?_⟩;rcases a with a | a
   . by_cases h:y < x
     . exact .inr (by rw[show m=y by lia];exact zA7)
     exact .inl (by lia)
   exact .inr (zA3 _ a)
theorem qP4{m:Int}(h:minI ns=some m):Gc ns m:=by
 cases ns with
 | nil=>cases h
 | cons x r =>
   obtain rfl:=Nc h;obtain⟨a,b,c⟩:=qQ8 r x;exact⟨c.elim (λ e=>by rw[e];exact zA7) (zA3 _),λ y d=>(zAh.mp d).elim (λ e=>by rw[e];exact a) (b y)⟩
def gMinL(x:D):Option D:=match x with
 | .l _ ys=>(intsD ys).bind λ ns=>(minI ns).map .int
 | _=>none
theorem qau0{K:Nf}:CS1 true (rMin1 K) gMinL:=by
 intro F H v x B d Q r h q;obtain⟨z,n,rfl,h⟩:=qac0 h;obtain⟨f,g,h⟩:=zA1.mp h;obtain⟨k,b,rfl⟩:=zAa.mp h;obtain⟨a,o,A,rfl,i,j,_⟩:=r.lst_inv;cases j.intsD g;have m:=qP4 b;refine⟨a,f,rfl,λ z=>(by subst z;cases b),.inl (.inl i),λ l c=>?_⟩;have e:l=k:=Int.le_antisymm (c.2 _ m.1) (m.2 _ c.1);rw[e];exact q _ H [] (.int _) (λ _ _ z=>z) New.nil
def qaB1(ns:List Int)(k m:Int):Prop:=ns=[]/\m=k∨isMax ns m
def tCBK(r:List V->List V->Hp->VK->Prop)(t a:TA):TE:=λ σ H Q=>t σ H λ vs H1=>a σ H1 λ b H2=>r vs b H2 Q
def qaQ5(X:Cx)(id:String)(ks:List Str)(r:List V->List V->Hp->VK->Prop):Prop:=∀(D8:List (γ×Obj))(s:Sh)(σ:L2.St)(H:Hp)(xs zs:List V)(us ws:List V')(Q:VK),L2.Inv X D8 σ H s->N8 xs us->N8 zs ws->r xs zs H Q->Kg (Kh X.prog X.w) X.A (call (.builtin id) us (ks.zip ws)) (EP X D8 σ Q) X.xe s
theorem qak3{x:Str}{id:String}{e:Kl}{es:List Kl}{kws:List Keyword}{ks:List Str}{t i:TA}{r:List V->List V->Hp->VK->Prop}{p pos:Pos}(j:qaQ5 X id ks r)(hm:X.mg x=none)(k:PA X (e::es) t)(l:PK X kws i)(m:Gl X x:=by rfl)(n:Jx x=some (.builtin id):=by rfl)(o:x ≠ "__name__" := by decide)(c:N' x:=by decide)(q:backTo pos (Js (e::es) X.env)=(false,eval e X.env)::backTo pos (Js es X.env):=by rfl)(d:(backTo pos (Js (e::es) X.env)).any (·.1)=false:=by rfl)(b:(backToKw pos (J' kws X.env)).all (·.1.isSome)=true:=by rfl)(f:(backToKw pos (J' kws X.env)).any (·.1.isNone)=false:=by rfl)(g:(backToKw pos (J' kws X.env)).filterMap (·.1)=ks:=by rfl) :
   PE X (.Call (.Name x p) (e::es) kws pos) (tCBK r t i):=by
 intro D8 s σ H Q I h;refine wpAny_Call_Name_kw (qV8 I m hm n (callWith_kw (thn (k pos D8 s σ H _ I h) λ u v a=>?_) q d b f) o c);obtain⟨w,H1,I1,y,z⟩:=a;refine thn (l pos D8 v σ H1 _ I1 z) λ A B a=>?_
 obtain⟨C,H2,I2,D,q2⟩:=a;rw[g];exact j D8 B σ H2 w C u A Q I2 y D q2
def rMaxD(K:Nf):List V->List V->Hp->VK->Prop:=λ xs b H Q=>∃(a:γ)(ns:List Int)(k:Int),xs=[.ref a]/\b=[.int k]/\SqL K H a (ns.map V.int)/\∀ m,qaB1 ns k m->Q (.int m) H
theorem qao9(l:X.calm=true):qaQ5 X "max" [Str.ofString "default"] (rMaxD X.K):=by
 intro D8 s σ H C D E F Q I r m h;obtain⟨a,n,k,rfl,rfl,o,q⟩:=h;obtain⟨u,rfl,p⟩:=Bf r;cases p;obtain⟨v,rfl,d⟩:=Bf m;obtain⟨tv,rfl⟩:=d;obtain⟨f,d,w,G⟩:=I.list o;obtain⟨b,c⟩:=qas9 d;refine S9.max_dflt (I.ok.hd l) w.isList c λ v J t y g=>?_
 rcases y with⟨rfl,rfl⟩ | ⟨h0,e⟩
 . exact⟨.int k,H,I.kept (t':=t) g,⟨_,rfl⟩,q k (.inl ⟨List.eq_nil_of_length_eq_zero b.symm,rfl⟩)⟩
 obtain⟨L,rfl⟩:=c _ _ e;have z:=argBest_gt (λ i=>n.getD i 0) (f.length - 1);refine⟨.int _,H,I.kept (t':=t) g,⟨_,rfl⟩,q _ (.inr ⟨?_,λ x A=>?_⟩)⟩
 . rw[qQ5 (by lia)];exact Lf _
 obtain⟨j,B,rfl⟩:=Ll A
 have:=z.2 j (by lia)
 rw[qQ5 B] at this;exact this
def He:Ds->Option (List Int)
 | [.l _ ys]=>intsD ys
 | _=>none
theorem qal8{xs:Ds}(h:He xs=some ns):∃ z ys,xs=[.l z ys]/\intsD ys=some ns:=by
 unfold He at h;split at h
 . exact⟨_,_,rfl,h⟩
 cases h
def tMaxD(tos:VTA)(a:FV):VT:=λ ds Q xe=>tos ds (λ xs ds1=>orF (He xs) λ ns=>orF ((a ds1).bind D.asI) λ k=>∀ m,qaB1 ns k m->Q (.int m) ds1) xe
theorem emaxD{c:Vc}{x:Str}{a e:Kl}{p pos s:Pos}{tos:VTA}{t:Bool}{j:FV}(hz:x = "max")(hm:X.mg x=none)(f:VOs c X [a] tos)(u:VV c X e t j)(y:X.calm=true:=by rfl)(B:Gl X x:=by rfl)(C:Jx x=some (.builtin "max"):=by rfl)(D:x ≠ "__name__" := by decide)(g:N' x:=by decide)(h1:backTo pos (Js [a] X.env)=(false,eval a X.env)::backTo pos (Js [] X.env):=by rfl)(i:(backTo pos (Js [a] X.env)).any (·.1)=false:=by rfl) :
   VE c X (.Call (.Name x p) [a] [⟨some "default",e,s⟩] pos) (tMaxD tos j):=by
 refine⟨PE.mono (qak3 (qao9 y) hm f.h (qaI1 u.h qaR6) B C D g h1 i) ?_,λ l Q Q' n E G I=>f.m _ _ _ _ _ (λ J b=>qa4 λ o=>qa4 λ k h m hm=>G _ _ (h m hm)) I⟩;rintro σ H Q ⟨F,l,A,n,S,x,q⟩;refine⟨F,l,A,n,S,x,f.m _ _ _ _ _ (λ J b q vs H1 F1 T A1 K S1 L=>?_) (λ _ _ z=>z) q⟩;obtain⟨o,M,N⟩:=qa6.mp q;obtain⟨k,O,q2⟩:=qa6.mp N;obtain⟨z,ys,rfl,P⟩:=qal8 M;obtain⟨R,U,e2⟩:=zA1.mp O;obtain⟨v,rfl,V⟩:=K.one_inv;obtain⟨a,ws,A3,rfl,W,Y,_⟩:=V.lst_inv;cases Y.intsD P;refine⟨F1,b,A1,R,S1,U,λ w H2 B2 Z d _=>⟨a,o,k,rfl,by rw[Z.asI e2],.inl (.inl (d _ _ W)),λ m hm=>?_⟩⟩;have r:New H1 ([]:List γ):=New.nil;exact q2 m hm (.int m) H2 F1 [] A1 (.int m) (S1.same d) (S1.new r d) (L.trans (r.stp d))
end
end LV
namespace LV.My
open PySem L2 Row _root_.My
variable{N i j l r:Nat}{Q:DK}{R:Ds->D->Prop}{S T ks ns:List Int}{b:Bool}{d p v x y:D}{ds ys:Ds}{e:VEnds}{f fa fb:FV}{fs:List (Str×D)}{gs:List (Nat->Option Int)}{hm:Int->Nat}{k:Int}{m:Str}{o:Option Int}{q:Int×Int}{qc:VTT}{s:VSp}{t u:VTS}{ta te:VT}{tr:VTB}{xe:XKd}{α:Type}
noncomputable def _root_.LV.D.whole:D->Bool
 | .int _=>true
 | _=>false
noncomputable def _root_.LV.D.within(l m:Int):D->Bool
 | .int i=>decide (l<=i)&&decide (i<=m)
 | _=>false
def _root_.LV.D.num:D->Bool:=D.within 0 1000000000000000000
noncomputable def fx3(g:D->D->D->Option D):Ds->Option D
 | [x,y,z]=>g x y z
 | _=>none
theorem qac3{g:D->Option D}(h:B7 (fx1 g) ds Q xe):ds.length=1:=by
 match ds,h with
 | [_],_=>rfl
theorem qaL8{g:D->D->D->Option D}(h:B7 (fx3 g) ds Q xe):ds.length=3:=by
 match ds,h with
 | [_,_,_],_=>rfl
theorem imm1{g:D->Option D}(h:B7 (fx1 g) ds Q xe):Gr (wOf [true]) 0 ds=true:=by
 match ds,h with
 | [_],_=>rfl
theorem imm3{g:D->D->D->Option D}(h:B7 (fx3 g) ds Q xe):Gr (wOf [true,true,true]) 0 ds=true:=by
 match ds,h with
 | [_,_,_],_=>rfl
theorem Jl{g:D->Option D}(h:B7 (fx1 g) ds Q xe):∃ x d,ds=[x]/\g x=some d/\Q d [x]:=by
 match ds,h with
 | [x],h=>obtain⟨d,e,q⟩:=qa6.mp h;exact⟨x,d,rfl,e,q⟩
theorem pure3{g:D->D->D->Option D}(h:B7 (fx3 g) ds Q xe):∃ x y z d,ds=[x,y,z]/\g x y z=some d/\Q d [x,y,z]:=by
 match ds,h with
 | [x,y,z],h=>obtain⟨d,e,q⟩:=qa6.mp h;exact⟨x,y,z,d,rfl,e,q⟩
theorem qp2{t:String}(h:x.kind=some t):x.known=true:=by
 cases x<;>first | rfl | cases h
def Aw(P:Ds->D->Prop):VSp:=λ ds Q _=>∃ d,P ds d/\Q d ds
theorem qb2{P:Ds->D->Prop}:Bl (Aw P):=λ _ _ _ _ _ a _ ⟨d,p,q⟩=>⟨d,p,a _ _ q⟩
noncomputable def N6(ps:Pr):Ds:=ps.map λ p=>.q [.int p.1,.int p.2]
noncomputable def kvD(ps:Pr):List (Key×D):=ps.map λ p=>(.inl p.1,.int p.2)
def Ad(z:Bool)(C:γ)(n:Int)(wr:Bool)(ps:Pr):D:=.ins z C [("rooms",.int n),("wraps",.bl wr),("homes",.l z (N6 ps)),("home_numbers",.dct z (kvD ps))]
def Aa(n:Int)(wr:Bool)(ps:Pr):D:=.l false [.int n,.bl wr,.l false (N6 ps)]
noncomputable def De:Option Int->D
 | none=>.non
 | some k=>.int k
def N5(n:Nat)(g:Nat->Option Int):Ds:=(Kz n).map λ i=>De (g i)
noncomputable def N4(ks:List Int):Ds:=ks.map .int
theorem qk8:∀ ps:Pr,D.imms (N6 ps)=true
 | []=>rfl
 | p::r=>by show (D.imms [.int p.1,.int p.2]&&D.imms (N6 r))=true;rw[qk8 r];rfl
theorem qk9:∀ ks:List Int,D.imms (N4 ks)=true
 | []=>rfl
 | k::r=>by show (true&&D.imms (N4 r))=true;rw[qk9 r];rfl
theorem qE6{α:Type}{f:α->D}(h:∀ a,(f a).imm=true):∀ l:List α,D.imms (l.map f)=true
 | []=>rfl
 | a::r=>by show ((f a).imm&&D.imms (r.map f))=true;rw[h a,qE6 h r];rfl
theorem qaN1(o:Option Int):(De o).imm=true:=by cases o<;>rfl
theorem qx0(n:Nat)(g:Nat->Option Int):D.imms (N5 n g)=true:=qE6 (λ i=>qaN1 _) _
theorem qG8:∀ ks:List Int,intsD (N4 ks)=some ks
 | []=>rfl
 | k::r=>by show (intsD (N4 r)).map (λ is=>k::is)=some (k::r);rw[qG8 r];rfl
theorem qM8:∀ ks:List Int,flats (N4 ks)=some (ks.map V.int)
 | []=>rfl
 | k::r=>by show (Option.bind (some (V.int k)) λ v=>(flats (N4 r)).bind λ a=>some (v::a))=_;rw[qM8 r];rfl
theorem qj7(ks:List Int):(N4 ks).length=ks.length:=zA8 _
theorem qm7(n:Nat)(g:Nat->Option Int):(N5 n g).length=n:=by simp[N5]
theorem qx1{n:Nat}{g:Nat->Option Int}(h:i < n):(N5 n g)[i]? = some (De (g i)):=by
 unfold N5;rw[zAy,List.getElem?_range h];rfl
theorem qaq3{n:Nat}{g:Nat->Option Int}:(N5 n g).set i (De o)=N5 n (λ j=>if j=i then o else g j):=by
 apply List.ext_getElem?;intro j;by_cases a:j < n
 . rw[qx1 a]
   by_cases e:i=j
   . subst e
     rw[List.getElem?_set_self (by rw[qm7];exact a),if_pos rfl]
   rw[zBl e,qx1 a,if_neg (Ne.symm e)]
 rw[zCb (by rw[Lw,qm7];lia),zCb (by rw[qm7];lia)]
theorem qaa1:∀ ps:Pr,qU5 (N6 ps)=some (kvD ps)
 | []=>rfl
 | p::r=>by
   show (Option.bind (some ((Sum.inl p.1:Key),D.int p.2)) λ q=>(qU5 (N6 r)).bind λ ps=>some (q::ps))=_;rw[qaa1 r];rfl
theorem qaj9{ps:Pr}{m:Int}(h:¬ k∈ps.map (·.1)):Eu (kvD ps) (.inl k) (.int m)=kvD (ps++[(k,m)]):=by
 unfold Eu;rw[if_neg]
 . unfold kvD;rw[zBe];rfl
 intro e;obtain⟨q,a,e⟩:=List.any_eq_true.mp e;obtain⟨r,b,rfl⟩:=zAt.mp a;have e:(Sum.inl r.1:Key)=Sum.inl k:=zAc e;exact h (zAt.mpr ⟨r,b,Sum.inl.inj e⟩)
theorem qP5:∀(a ps:Pr),((ps++a).map (·.1)).Nodup->qs6 (kvD ps) (kvD a)=kvD (ps++a)
 | [],ps,_=>by rw[zAe];rfl
 | q::a,ps,h=>by
   show qs6 (Eu (kvD ps) (.inl q.1) (.int q.2)) (kvD a)=_;have b:¬ q.1∈ps.map (·.1):=by
     rw[zBe,zAo,zBt] at h;exact λ z=>h.2.2 _ z _ zA7 rfl
   rw[qaj9 b,qP5 a (ps++[(q.1,q.2)]) (by rw[zAw];exact h),zAw];rfl
theorem qal5{ps:Pr}(h:(ps.map (·.1)).Nodup):qs6 [] (kvD ps)=kvD ps:=qP5 ps [] h
theorem qat9{z:Bool}{ps:Pr}(h:(ps.map (·.1)).Nodup):G8 (.l z (N6 ps))=some (.dct false (kvD ps)):=by
 show (qU5 (N6 ps)).map (λ ps=>D.dct false (qs6 [] ps))=_;rw[qaa1];show some (D.dct false (qs6 [] (kvD ps)))=_;rw[qal5 h]
theorem qap5(k:Int):∀ ps:Pr,Dq (kvD ps) (.inl k)=(ps.lookup k).map .int
 | []=>rfl
 | (p,m)::r=>by
   show Dq ((.inl p,.int m)::kvD r) _=_;by_cases e:p=k
   . subst e
     simp[Dq,zB1]
   have a:Dq ((.inl p,D.int m)::kvD r) (.inl k)=Dq (kvD r) (.inl k):=by simp[Dq,zC6,e]
   rw[a,qap5 k r]
   have:(k == p)=false:=by simpa using λ z=>e z.symm
   simp only[zB1,this]
theorem qa0{o:Option α}{a:α}{k:α->Prop}(e:o=some a)(h:k a):orF o k:=by rw[e];exact h
theorem Bu{p:Prop}[Decidable p]{a b:Prop}(h:p)(x:a):if p then a else b:=by rw[if_pos h];exact x
theorem E6{p:Prop}[Decidable p]{a b:Prop}(h:¬ p)(x:b):if p then a else b:=by rw[if_neg h];exact x
theorem ite_b{p:Bool}{a b:Prop}(h1:p=true->a)(h2:p=false->b):if p=true then a else b:=by cases p with | true=>exact h1 rfl | false=>exact h2 rfl
noncomputable def Dg:Option Int->D
 | some f=>.int f
 | none=>.non
theorem qN9(b:rdN i ds=some x)(h:s [x] (λ d ys=>orF (As [.sl i] ys (ds.set i .u)) λ a=>Q d a) (λ e ys=>orF (As [.sl i] ys (ds.set i .u)) λ a=>xe e a)):qk0 s [] (tbN i A9) ds Q xe :=
 ⟨by rw[b];rfl,by show orF (rdN i ds) _;rw[b];exact h⟩
theorem qD0{f:Ds->Option D}(e:f ds=some d)(q:Q d ds):B7 f ds Q xe:=qa0 e q
theorem qg6(e:R ds d)(q:Q d ds):Aw R ds Q xe:=⟨d,e,q⟩
theorem qb6{K:Ds->List Pl->Ds->Prop}(a:rdN i ds=some x)(h:tr ds (λ xs ps ds1=>orF (rdN i ds1) λ d=>K (d::xs) (.sl i::ps) (ds1.set i .u)) xe):tbN i tr ds K xe:=⟨by rw[a];rfl,h⟩
theorem qd9{K:Ds->List Pl->Ds->Prop}(b:f ds=some y)(h:tr ds (λ xs ps a=>K (y::xs) (.no::ps) a) xe):tbV (Dc f) tr ds K xe:=qa0 (k:=λ y=>tr ds (λ xs ps a=>K (y::xs) (.no::ps) a) xe) b h
theorem rd0{r:Ds}(h:d.known=true):rdN 0 (d::r)=some d:=qm5.mpr ⟨rfl,h⟩
theorem qV9{β:Type}(f:α->β)(l:List α):l.filterMap (λ a=>some (f a))=l.map f:=by simp
section
variable{z:Bool}{C:γ}{n:Int}{wr:Bool}{ps:Pr}
theorem qH7{f:Str}(h:fs.lookup f=some d):D.fld C f (.ins z C fs)=some d:=by
 show (if C=C then fs.lookup f else none)=some d;rw[if_pos rfl,h]
theorem qd7:D.fld C "rooms" (Ad z C n wr ps)=some (.int n):=qH7 (by rfl)
theorem qE8:D.fld C "wraps" (Ad z C n wr ps)=some (.bl wr):=qH7 (by rfl)
theorem qW0:D.fld C "home_numbers" (Ad z C n wr ps)=some (.dct z (kvD ps)):=qH7 (by rfl)
theorem qas8(h:fs.lookup m=none):(D.ins z C fs).isM C m=true:=by
 show (decide (C=C)&&(fs.lookup m).isNone)=true;rw[zAb rfl,h];rfl
theorem qd5(h:([("rooms",.int n),("wraps",.bl wr),("homes",.l z (N6 ps)),("home_numbers",.dct z (kvD ps))]:List (Str×D)).lookup m=none):(Ad z C n wr ps).isM C m=true:=qas8 h
theorem Ba{g:D->Option D}(h:fa ds=some x)(h':g x=some y):f1 g fa ds=some y:=qaC6.mpr ⟨x,h,h'⟩
theorem Ae{g:D->D->Option D}(h:fa ds=some x)(h':fb ds=some y)(h2:g x y=some d):f2 g fa fb ds=some d:=qaC5.mpr ⟨x,y,h,h',h2⟩
theorem qj3:(D.ins false C fs).ownI C=some fs:=by
 show (if C=C then some fs else none)=some fs;rw[if_pos rfl]
end
theorem qV5{C:γ}(b:rdN i ds=some p)(hm:p.isM C m=true)(h:tr ds (λ xs ps ds1=>orF (rdN i ds1) λ d=>s (d::(xs++[])) (λ r ys=>orF (As (.sl i::ps) ys (ds1.set i .u)) λ a=>Q r a) (λ x ys=>orF (As (.sl i::ps) ys (ds1.set i .u)) λ a=>xe x a)) xe):qu5 C m s [] i tr ds Q xe:=⟨qa0 b hm,h⟩
theorem qD1{f:Ds->Option D}(a:rdN i ds=some x)(e:f [x]=some d)(b:As [.sl i] [x] (ds.set i .u)=some ds)(q:Q d ds):qk0 (B7 f) [] (tbN i A9) ds Q xe:=qN9 a (qD0 e (qa0 b q))
theorem qaL1(a:rdN i ds=some x)(r:R [x] d)(b:As [.sl i] [x] (ds.set i .u)=some ds)(q:Q d ds):qk0 (Aw R) [] (tbN i A9) ds Q xe:=qN9 a (qg6 r (qa0 b q))
theorem qM2(c:rdN i ds=some x)(b:rdN j ds=some y)(a:rdN i (ds.set j .u)=some x)(r:R [x,y] d)(e:As [.sl i,.sl j] [x,y] ((ds.set j .u).set i .u)=some ds)(q:Q d ds):qk0 (Aw R) [] (tbN i (tbN j A9)) ds Q xe :=
 qb6 c (qb6 b (qa0 b (qa0 a (qg6 r (qa0 e q)))))
theorem qV6{w:D}(e:rdN i ds=some x)(f:rdN j ds=some y)(c:rdN l ds=some w)(a:rdN j (ds.set l .u)=some y)(b:rdN i ((ds.set l .u).set j .u)=some x)(r:R [x,y,w] d)(g:As [.sl i,.sl j,.sl l] [x,y,w] (((ds.set l .u).set j .u).set i .u)=some ds)(q:Q d ds):qk0 (Aw R) [] (tbN i (tbN j (tbN l A9))) ds Q xe :=
 qb6 e (qb6 f (qb6 c (qa0 c (qa0 a (qa0 b (qg6 r (qa0 g q)))))))
theorem qD9{C:γ}(c:rdN i ds=some p)(hm:p.isM C m=true)(b:rdN j ds=some x)(a:rdN i (ds.set j .u)=some p)(r:R [p,x] d)(e:As [.sl i,.sl j] [p,x] ((ds.set j .u).set i .u)=some ds)(q:Q d ds):qu5 C m (Aw R) [] i (tbN j A9) ds Q xe :=
 qV5 c hm (qb6 b (qa0 b (qa0 a (qg6 r (qa0 e q)))))
theorem qal6{C:γ}(e:rdN i ds=some p)(hm:p.isM C m=true)(f:rdN j ds=some x)(c:rdN l ds=some y)(a:rdN j (ds.set l .u)=some x)(b:rdN i ((ds.set l .u).set j .u)=some p)(r:R [p,x,y] d)(g:As [.sl i,.sl j,.sl l] [p,x,y] (((ds.set l .u).set j .u).set i .u)=some ds)(q:Q d ds):qu5 C m (Aw R) [] i (tbN j (tbN l A9)) ds Q xe :=
 qV5 e hm (qb6 f (qb6 c (qa0 c (qa0 a (qa0 b (qg6 r (qa0 g q)))))))
theorem Fk{t:VT}{n:VTS}(h:∀(Q:DK)(xe:XKd),Q (.bl true) ds->t ds Q xe)(h2:u e ds):Fq (sIf (F6 (ttE t)) n F8) u e ds:=h _ _ h2
theorem if_e{t:VT}{v:VTS}(h:∀(Q:DK)(xe:XKd),Q (.bl b) ds->t ds Q xe)(h1:b=true->u e ds)(h2:b=false->v e ds):sIf (ttE t) u v e ds:=h _ _ (by
 show if b=true then u e ds else v e ds
 exact ite_b h1 h2)
theorem if_v{v:VTS}(h:f ds=some (.bl b))(h1:b=true->u e ds)(h2:b=false->v e ds):sIf (ttV f) u v e ds:=by
 show orF ((f ds).bind D.asB) _;rw[h];exact ite_b h1 h2
theorem Gd{u v:VT}(h:f ds=some (.bl b))(h1:b=true->u ds Q xe)(h2:b=false->v ds Q xe):tIfE (ttV f) u v ds Q xe:=by
 show orF ((f ds).bind D.asB) _;rw[h];exact ite_b h1 h2
theorem qr6(e:f ds=some d)(q:Q d ds):Dc f ds Q xe:=qa0 e q
theorem qg9{w:VTS}(b:Bool)(h:f ds=some (.bl b))(h1:b=true->u { e with nx:=w e } ds)(h2:b=false->w e ds):Fq (sIf (ttV f) u F8) w e ds:=if_v (u:=u) (v:=F8) h h1 h2
theorem qi2{t:VT}(h:t ds e.rt e.xe):sRet t e ds:=h
theorem qi3(d:D)(h:f ds=some d)(q:e.rt d ds):sRet (Dc f) e ds:=qa0 h q
theorem Au(a:Ds)(h:ds=a)(q:t e a):t e ds:=h ▸ q
theorem qad4{z:Bool}(h:rdN i ds=some (.l z ys)):A4 (fx2 gIsi) (Ax (rdN i) (Ax (kC (D.ty "list")) λ _=>some [])) ds=some (.bl true):=by
 unfold A4 Ax;rw[h];rfl
theorem qn5{z:Bool}(h:rdN i ds=some (.l z ys)):A4 (fx1 Et) (Ax (rdN i) λ _=>some []) ds=some (.int (ys.length:Nat)):=by
 unfold A4 Ax;rw[h];rfl
theorem qe9{Q:Bool->Ds->Prop}(h:f ds=some (.bl b))(q:Q b ds):ttV f ds Q xe:=by
 show orF ((f ds).bind D.asB) _;rw[h];exact q
theorem qn9{Q:Bool->Ds->Prop}(h:f ds=some (.bl b))(q:Q (!b) ds):F6 (ttV f) ds Q xe:=qe9 (Q:=λ b ds=>Q (!b) ds) h q
theorem qO5{t u:VTT}{Q:Bool->Ds->Prop}(b c:Bool)(h1:∀ Q:Bool->Ds->Prop,Q b ds->t ds Q xe)(h2:b=false->∀ Q:Bool->Ds->Prop,Q c ds->u ds Q xe)(q:Q (b||c) ds):ttOr t u ds Q xe:=h1 _ (by
 cases b with
 | false=>exact h2 rfl _ q
 | true=>exact q)
theorem qi8{t u:VTT}{Q:Bool->Ds->Prop}(b c:Bool)(h1:∀ Q:Bool->Ds->Prop,Q b ds->t ds Q xe)(h2:b=true->∀ Q:Bool->Ds->Prop,Q c ds->u ds Q xe)(q:Q (b&&c) ds):ttAnd t u ds Q xe:=h1 _ (by
 cases b with
 | false=>exact q
 | true=>exact h2 rfl _ q)
theorem Hf(b:Bool)(h:∀ Q:Bool->Ds->Prop,Q b ds->qc ds Q e.xe)(h1:b=true->t e ds)(h2:b=false->u e ds):sIf qc t u e ds:=h _ (ite_b h1 h2)
theorem qg7{w:VTS}(b:Bool)(h:∀ Q:Bool->Ds->Prop,Q b ds->qc ds Q e.xe)(h1:b=true->t { e with nx:=w e } ds)(h2:b=false->w e ds):Fq (sIf qc t F8) w e ds:=h _ (ite_b h1 h2)
theorem qH2{t:VT}{n:VTS}(h:∀(Q:DK)(xe:XKd),Q (.bl true) ds->t ds Q xe)(h2:e.nx ds):sIf (F6 (ttE t)) n F8 e ds:=h _ _ h2
theorem qat4{n:VTS}(h:f ds=some (.bl true))(h2:u e ds):Fq (sIf (F6 (ttV f)) n F8) u e ds:=qn9 (Q:=λ k a=>if k=true then n { e with nx:=u e } a else u e a) (xe:=e.xe) h h2
theorem qaB0{z:Bool}{C:γ}{n:Int}{wr:Bool}{ps:Pr}:Iu C (Ad z C n wr ps) (.adr C)=some (.bl true):=by
 show (if C=C then (Ad z C n wr ps).isC C else none)=_;rw[if_pos rfl];show (if C=C then some (D.bl true) else none)=_;rw[if_pos rfl]
theorem qd6{g:VTG}{t:VTS}{e:VEnds}(I:Nat->Ds->Prop):∀(xs:List D)(i:Nat)(ds:Ds),I i ds->(∀(j:Nat)(x:D),xs[j]? = some x->∀ ds,I (i+j) ds->∀ K:Ds->Prop,(∀ a,I (i+j+1) a->K a)->g x ds λ ds1=>t { e with nx:=K,ct:=K,bk:=e.nx } ds1)->(∀ a,I (i+xs.length) a->e.nx a)->Dm g t e xs ds
 | [],_,ds,h,_,hn=>hn ds h
 | x::xs,i,ds,h,hs,hn=>hs 0 x rfl ds h _ λ a f=>qd6 I xs (i+1) a f (λ j y k b c K l=>hs (j+1) y k b (by rw[show i+(j+1)=i+1+j by lia];exact c) K λ d m=>l d (by rw[show i+1+j+1=i+(j+1)+1 by lia];exact m)) λ b c=>hn b (by rw[zAf,show i+(xs.length+1)=i+1+xs.length by lia];exact c)
theorem qx2{g:VTG}{n:Int}(h:f ds=some (.int n))(a:Ft n=true)(k:Dm g t e (Bj 0 n.toNat) ds):qaj4 (Gs (tbV (Bq f) A9)) g t e ds:=by
 show orF (f ds) _;rw[h];exact⟨rfl,a,k⟩
theorem qD8{n:Int}(a:0<=n)(h1:n<=1000):Ft n=true:=by
 unfold Ft;rw[zAb (by lia),zAb (by lia)];rfl
theorem qG1{m:Nat}(h:(Bj 0 m)[j]? = some x):j < m/\x=.int (j:Int):=by
 by_cases a:j < m
 . rw[qZ6 a] at h
   cases h;exact⟨a,by rw[Int.zero_add]⟩
 rw[zCb (by unfold Bj;rw[zA8,zAv];lia)] at h;cases h
def Dy(p:Int->Bool)(y:D):Option D:=y.asI.bind λ k=>if p k=true then some (.int k) else none
theorem qA6{p:Int->Bool}(h:p k=true):Dy p (.int k)=some (.int k):=if_pos h
theorem qA7{p:Int->Bool}(h:p k=false):Dy p (.int k)=none:=if_neg (by rw[h];decide)
theorem qw8(p:Int->Bool):∀ ks:List Int,(N4 ks).filterMap (Dy p)=N4 (ks.filter p)
 | []=>rfl
 | k::ks=>by
   show Mt (Dy p) (D.int k::N4 ks)=_;rw[zAz];cases h:p k with
   | true=>rw[qA6 h,zCl h];show D.int k::(N4 ks).filterMap (Dy p)=_;rw[qw8 p ks];rfl
   | false=>rw[qA7 h,zCm (by rw[h];decide),qw8 p ks]
theorem qaO3{a:Bool}(h1:fa ds=some (.bl a))(h2:fb ds=some (.bl b)):fOr fa fb ds=some (.bl (a||b)):=by
 unfold fOr;rw[h1,h2];cases a<;>rfl
theorem qaf0{a:Bool}(h1:fa ds=some (.bl a))(h2:fb ds=some (.bl b)):fAnd fa fb ds=some (.bl (a&&b)):=by
 unfold fAnd;rw[h1,h2];cases a<;>rfl
theorem qb3(ds1:Ds)(h1:∀ K:Ds->Prop,K ds1->t { e with nx:=K } ds)(h2:u e ds1):Fq t u e ds:=h1 (u e) h2
theorem qb9(R:Ds->Prop)(h1:∀ K:Ds->Prop,(∀ ds1,R ds1->K ds1)->t { e with nx:=K } ds)(h2:∀ ds1,R ds1->u e ds1):Fq t u e ds:=h1 (u e) h2
theorem qI8(I:Nat->Ds->Prop)(n:Nat)(h:I n ds)(hs:∀ n ds,I n ds->∀ K:Ds->Prop,(∀ m a,m < n->I m a->K a)->qc ds (λ b ds1=>if b=true then t { e with nx:=K,ct:=K,bk:=e.nx } ds1 else e.nx ds1) e.xe):qaG5 qc t e ds:=by
 have c:∀ N n ds,n < N->I n ds->whN qc t e N ds:=by
   intro N
   induction N with
   | zero=>intro n ds h;exact absurd h (zC5 _)
   | succ N d=>intro n ds g h;exact hs n ds h _ λ m a i f=>d m a (by lia) f
 exact⟨n+1,c (n+1) n ds (zCo n) h⟩
theorem qN8(f:rdN i ds=some x)(c:rdN j ds=some y)(b:rdN i (ds.set j .u)=some x)(h:s [x,y] (λ d ys=>orF (As [.sl i,.sl j] ys ((ds.set j .u).set i .u)) λ a=>Q d a) (λ e ys=>orF (As [.sl i,.sl j] ys ((ds.set j .u).set i .u)) λ a=>xe e a)):qk0 s [] (tbN i (tbN j A9)) ds Q xe :=
 qb6 f (qb6 c (qa0 c (qa0 b h)))
theorem qap2{w:D}(g:rdN i ds=some x)(k:rdN j ds=some y)(f:rdN l ds=some w)(b:rdN j (ds.set l .u)=some y)(c:rdN i ((ds.set l .u).set j .u)=some x)(h:s [x,y,w] (λ d ys=>orF (As [.sl i,.sl j,.sl l] ys (((ds.set l .u).set j .u).set i .u)) λ a=>Q d a) (λ e ys=>orF (As [.sl i,.sl j,.sl l] ys (((ds.set l .u).set j .u).set i .u)) λ a=>xe e a)):qk0 s [] (tbN i (tbN j (tbN l A9))) ds Q xe :=
 qb6 g (qb6 k (qb6 f (qa0 f (qa0 b (qa0 c h)))))
theorem qaU3{C:γ}{k:Nat}{w:D}(f:rdN i ds=some p)(hm:p.isM C m=true)(g:rdN j ds=some x)(h:rdN l ds=some y)(e:rdN k ds=some w)(a:rdN l (ds.set k .u)=some y)(b:rdN j ((ds.set k .u).set l .u)=some x)(c:rdN i (((ds.set k .u).set l .u).set j .u)=some p)(r:R [p,x,y,w] d)(n:As [.sl i,.sl j,.sl l,.sl k] [p,x,y,w] ((((ds.set k .u).set l .u).set j .u).set i .u)=some ds)(q:Q d ds):qu5 C m (Aw R) [] i (tbN j (tbN l (tbN k A9))) ds Q xe :=
 qV5 f hm (qb6 g (qb6 h (qb6 e (qa0 e (qa0 a (qa0 b (qa0 c (qg6 r (qa0 n q)))))))))
theorem qaw3(h:ds[j]? = some d):ds.set j d=ds:=by
 obtain⟨a,e⟩:=zA5.mp h;rw[<- e];exact List.set_getElem_self a
theorem qe5(h:ds[i]? = some d)(a:d.known=true):rdN i ds=some d:=qm5.mpr ⟨h,a⟩
def Oe(ns:List Int)(b:D):Prop:=∃ x y z,b=bagD x y z ns/\Bg x y z ns
theorem Oe.known{b:D}(h:Oe ns b):b.known=true:=by obtain⟨x,y,z,rfl,_⟩:=h;rfl
def qB7:VSp:=λ ds Q _=>∃ b m ns,ds=[b,.int m]/\Oe ns b/\0 < m/\m < 2 ^ 200/\∀ v a,0<=v->v < m->Oe ns a->Q (.int v) [a,.int m]
theorem qf1{b:D}{m:Int}(d:ds[i]? = some b)(B:Oe ns b)(e:f ds=some (.int m))(g:0 < m)(h1:m < 2 ^ 200)(q:∀ v a,0<=v->v < m->Oe ns a->Q (.int v) (ds.set i a)):qk0 qB7 [] (tbN i (tbV (Dc f) A9)) ds Q xe:=by
 have c:=qe5 d B.known;refine qb6 c (qd9 e (qa0 c ⟨b,m,ns,rfl,B,g,h1,λ v a h j B'=>?_⟩));show Q (.int v) ((ds.set i .u).set i a);rw[Lu];exact q v a h j B'
theorem qX2{b:D}{m:Int}(d:ds[i]? = some b)(B:Oe ns b)(e:f ds=some (.int m))(g:0 < m)(h1:m < 2 ^ 200)(q:∀ v a,0<=v->v < m->Oe ns a->Q (.int v) (ds.set i a)):qk0 qB7 [] (tbN i (tbV (Bq f) A9)) ds Q xe:=by
 have c:=qe5 d B.known;refine qb6 c (qa0 e ⟨rfl,qa0 c ⟨b,m,ns,rfl,B,g,h1,λ v a h j B'=>?_⟩⟩);show Q (.int v) ((ds.set i .u).set i a);rw[Lu];exact q v a h j B'
theorem qO7{b:D}{m:Int}(f:ds[i]? = some b)(B:Oe ns b)(c:ds[j]? = some (.int m))(d:i≠j)(g:0 < m)(h1:m < 2 ^ 200)(q:∀ v a,0<=v->v < m->Oe ns a->Q (.int v) (ds.set i a)):qk0 qB7 [] (tbN i (tbN j A9)) ds Q xe:=by
 have h:=qe5 f B.known;have k:rdN j ds=some (.int m):=qe5 c rfl;have o:j < ds.length:=(zA5.mp c).1;refine qN8 h k (qe5 (by rw[zBl (Ne.symm d)];exact f) B.known) ⟨b,m,ns,rfl,B,g,h1,λ v a l n B'=>?_⟩;show Q (.int v) ((((ds.set j .u).set i .u).set i a).set j (.int m));have e:(((ds.set j .u).set i .u).set i a).set j (.int m)=ds.set i a:=by
   rw[Lu,List.set_comm _ _ (Ne.symm d),Lu];exact qaw3 (by rw[zBl d];exact c)
 rw[e];exact q v a l n B'
theorem mulR{i j:Int}(h:small j=true):Fx (.int i) (.int j)=some (.int (i * j)):=qk2 (by rw[h,Bool.or_true])
theorem Hw{i j:Int}(h:small i=true):Fx (.int i) (.int j)=some (.int (i * j)):=qk2 (by rw[h,Bool.true_or])
theorem qaD2{i j:Int}(h:0 < j)(h1:j < 2 ^ 200):gDiv (.int i) (.int j)=some (.int (i / j)):=qk2 (by show (decide (0 < j)&&decide (j < 2 ^ 200))=true;rw[zAb h,zAb h1];rfl)
theorem Db{x n:Int}(h:0 < n):Hl (.int x) (.int n)=some (.int (x % n)):=qk2 (zAb h)
theorem qK0{i:Int}(h:-(2 ^ 64) < i)(h':i < 2 ^ 64):small i=true:=by unfold small;rw[zAb h,zAb h'];rfl
theorem Bw{z:Bool}{g:Nat->Option Int}(h:r < N):gIx (.l z (N5 N g)) (.int (r:Int))=some (De (g r)):=qI4 (qx1 h)
theorem qM6{g:Nat->Option Int}(h:r < N):ixN (N5 N g).length (r:Int)=some r:=by
 rw[qm7];unfold ixN;simp[h]
theorem qq0{n:Nat}{g:Nat->Option Int}{c:Int}:(N5 n g).set i (.int c)=N5 n (Row.set g i c):=qaq3 (o:=some c)
theorem qaz7(N:Nat):(K3 N [D.non]).flatten=N5 N (λ _=>none):=by
 unfold N5
 induction N with
 | zero=>rfl
 | succ N a=>rw[List.replicate_succ',List.flatten_append,a,zCi,zBe];rfl
theorem qD7{n:Int}(a:0<=n)(h1:n<=64):Fx (.l false [.non]) (.int n)=some (.l false (N5 n.toNat λ _=>none)):=by
 show gd _ _=_;rw[<- qaz7];exact qk2 ⟨rfl,by show 1 * n.toNat<=1000000;lia,by lia,by lia⟩
theorem qan2{g:VTG}{n:Int}(h:f ds=some (.int n))(a:Ft n=true)(k:Dm g t e (Bj 0 n.toNat) ds):qaj4 (Gs (tbV (Dc f) A9)) g t e ds:=by
 show orF (f ds) _;rw[h];exact⟨a,k⟩
theorem qan3{g:VTG}{n:Int}(h:rdN i ds=some (.int n))(a:Ft n=true)(k:Dm g t e (Bj 0 n.toNat) (ds.set i .u)):qaj4 (Gs (tbN i A9)) g t e ds:=by
 refine⟨by rw[h];rfl,?_⟩;exact qa0 h ⟨a,k⟩
theorem qaz5{z:Bool}:Ir true (.int k) (.l z (N4 ks))=some (.bl (!decide (k∈ks))):=by
 show ((flats (N4 ks)).bind λ a=>some (D.bl (if true=true then !inV (.int k) a else inV (.int k) a)))=_;rw[qM8];show some (D.bl (!inV (.int k) (ks.map V.int)))=_;rw[qad5]
theorem qas7{z:Bool}:Ir false (.int k) (.l z (N4 ks))=some (.bl (decide (k∈ks))):=by
 show ((flats (N4 ks)).bind λ a=>some (D.bl (if false=true then !inV (.int k) a else inV (.int k) a)))=_;rw[qM8];show some (D.bl (inV (.int k) (ks.map V.int)))=_;rw[qad5]
theorem qA5(lo:Int)(n:Nat):(Bj lo n).length=n:=by unfold Bj;rw[zA8,zAv]
theorem qt7(e:f ds=some d)(hi:d.imm=true)(q:Q d ds):Bq f ds Q xe:=qa0 (a:=d) (k:=λ(d:D)=>d.imm=true/\Q d ds) e ⟨hi,q⟩
theorem qo3(h:f ds=some d)(hi:d.imm=true)(q:e.nx (ds.set i d)):Dt (Bq f) (gNm i) e ds:=qt7 (Q:=λ d a=>gNm i d a e.nx) h hi q
theorem qs3(h:f ds=some d)(q:e.nx (ds.set i d)):Dt (Dc f) (gNm i) e ds:=qr6 (Q:=λ d a=>gNm i d a e.nx) h q
theorem qae1{n:Nat}{K:Ds->Prop}(hi:ds[i]? = some (.l false ys))(b:fb ds=some (.int k))(c:ixN ys.length k=some n)(q:K (ds.set i (.l false (ys.set n d)))):Ei (λ _=>some (i,[])) fb d ds K:=by
 refine qa0 (a:=(i,([]:List Nat))) rfl ?_;refine qa0 (a:=ys) (by show (Bc ds i []).bind D.own=_;rw[qE7 hi];rfl) ?_;refine qa0 (a:=k) (by rw[b];rfl) ?_;refine qa0 c ?_;show K (Be ds i [] (.l false (ys.set n d)));rw[qB9 hi];exact q
theorem qz6{n:Nat}(b:f ds=some d)(c:d.imm=true)(hi:ds[i]? = some (.l false ys))(g:fb ds=some (.int k))(h:ixN ys.length k=some n)(q:e.nx (ds.set i (.l false (ys.set n d)))):Dt (Bq f) (Ei (λ _=>some (i,[])) fb) e ds :=
 qt7 (Q:=λ d a=>Ei (λ _=>some (i,[])) fb d a e.nx) b c (qae1 hi g h q)
theorem qaq0{n:Nat}(b:f ds=some d)(hi:ds[i]? = some (.l false ys))(c:fb ds=some (.int k))(g:ixN ys.length k=some n)(q:e.nx (ds.set i (.l false (ys.set n d)))):Dt (Dc f) (Ei (λ _=>some (i,[])) fb) e ds :=
 qr6 (Q:=λ d a=>Ei (λ _=>some (i,[])) fb d a e.nx) b (qae1 hi c g q)
theorem qd0{K:Ds->List Pl->Ds->Prop}(c:f ds=some y)(hi:y.imm=true)(h:tr ds (λ xs ps a=>K (y::xs) (.no::ps) a) xe):tbV (Bq f) tr ds K xe:=qt7 (Q:=λ y b=>tr b (λ xs ps a=>K (y::xs) (.no::ps) a) xe) c hi h
theorem qah3(hi:ds[i]? = some (.l false ys))(b:f ds=some d)(c:ys.length < big)(q:Q .non (ds.set i (.l false (ys++[d])))):Fi Ht i (tbV (Dc f) A9) ds Q xe:=by
 have e:(rdN i ds).bind D.own=some ys:=by rw[qe5 hi rfl];rfl
 refine⟨by rw[e];rfl,qd9 b ?_⟩;refine qa0 (k:=λ ys=>orF (Ht ys [d]) λ z=>Q z.2 (ds.set i (.l false z.1))) e ?_;exact qa0 (a:=(ys++[d],D.non)) (if_pos c) q
theorem qaP7(hi:ds[i]? = some (.l false ys))(b:ds[j]? = some d)(c:d.known=true)(f:i≠j)(g:ys.length < big)(q:Q .non ((ds.set j .u).set i (.l false (ys++[d])))):Fi Ht i (tbN j A9) ds Q xe:=by
 have e:(rdN i ds).bind D.own=some ys:=by rw[qe5 hi rfl];rfl
 have e2:(rdN i (ds.set j .u)).bind D.own=some ys:=by rw[qe5 (d:=.l false ys) (by rw[zBl (Ne.symm f)];exact hi) rfl];rfl
 refine⟨by rw[e];rfl,qb6 (qe5 b c) ?_⟩;refine qa0 (k:=λ d=>orF ((rdN i (ds.set j .u)).bind D.own) λ ys=>orF (Ht ys [d]) λ z=>Q z.2 ((ds.set j .u).set i (.l false z.1))) (qe5 b c) ?_;refine qa0 (k:=λ ys=>orF (Ht ys [d]) λ z=>Q z.2 ((ds.set j .u).set i (.l false z.1))) e2 ?_;exact qa0 (a:=(ys++[d],D.non)) (if_pos g) q
theorem qab1{g:Ds->Ds->Option (Ds×D)}{pf:PF}{p:List Nat}{d0:D}(h1:pf ds=some (i,p))(h2:(Bc ds i p).bind D.own=some ys)(a:ds[i]? = some d0)(h:tr (ds.set i .u) (λ xs _ ds1=>orF (g ys xs) λ z=>Q z.2 (Be (ds1.set i d0) i p (.l false z.1))) xe):Fj g pf tr ds Q xe:=by
 unfold Fj;rw[h1];show orF ((Bc ds i p).bind D.own) _;rw[h2];show orF ds[i]? _;rw[a];exact h
theorem qaX3{f:Int->Int->Int}{b:FV}{x y:Int}(hi:ds[i]? = some (.l false ys))(c:fb ds=some (.int k))(d:0<=k)(g:ys[k.toNat]? = some (.int x))(h:b ds=some (.int y))(q:e.nx (ds.set i (.l false (ys.set k.toNat (.int (f x y)))))):sAugV f (λ _=>some (i,[])) fb b e ds:=by
 refine qa0 (a:=(i,([]:List Nat))) rfl ?_;refine qa0 (a:=ys) (by show (Bc ds i []).bind D.own=_;rw[qE7 hi];rfl) ?_;refine qa0 (a:=k) (by rw[c];rfl) ⟨d,?_⟩;refine qa0 (a:=x) (by rw[g];rfl) ?_;refine qa0 (a:=y) (by rw[h];rfl) ?_;show e.nx (Be ds i [] _);rw[qB9 hi];exact q
theorem and_e{tb:VT}(b:Bool)(h:fa ds=some (.bl b))(h1:b=true->tb ds Q xe)(h2:b=false->Q (.bl false) ds):Iw (Dc fa) tb ds Q xe :=
 qr6 (xe:=xe) (Q:=λ x ds=>orF x.asB λ k=>if k=true then tb ds Q xe else Q (.bl false) ds) h (ite_b h1 h2)
theorem qi6{K:Ds->Prop}(h:K (ds.set i d)):gNm i d ds K:=h
theorem qc1{K:Ds->List Pl->Ds->Prop}(h:K [] [] ds):A9 ds K xe:=h
theorem qB1(h:te ds (λ _ a=>e.nx a) e.xe):Iy te e ds:=h
theorem qs2{K:Ds->Prop}(h:K ((ds.set i x).set j y)):F9 2 (qz5 (gNm i) (qz5 (gNm j) Fh)) (.q [x,y]) ds K:=⟨rfl,h⟩
theorem qF2{Q:Bool->Ds->Prop}(h:Q true ds):qYes ds Q xe:=h
theorem qap9{b:FV}{n:Nat}(c:b ds=some (.q [x,y]))(hi:ds[i]? = some (.l false ys))(f:fb ds=some (.int k))(g:ixN ys.length k=some n)(q:e.nx ((ds.set i (.l false (ys.set n x))).set j y)):Dt (Dc b) (F9 2 (qz5 (Ei (λ _=>some (i,[])) fb) (qz5 (gNm j) Fh))) e ds :=
 qr6 (Q:=λ d a=>F9 2 (qz5 (Ei (λ _=>some (i,[])) fb) (qz5 (gNm j) Fh)) d a e.nx) c ⟨rfl,qae1 (K:=λ a=>qz5 (gNm j) Fh [y] a e.nx) hi f g q⟩
theorem qac6:N4 S++[.int k]=N4 (S++[k]):=by unfold N4;rw[zBe];rfl
theorem qap6{a:VTB}{K:Ds->List Pl->Ds->Prop}(h:tr ds (λ xs _ ds1=>xs.length<=big/\a ds1 (λ ys c b=>K (.q xs::ys) (.no::c) b) xe) xe):tbV (Ha tr) a ds K xe:=h
theorem qh3{K:Ds->List Pl->Ds->Prop}(h:ta ds (λ x ds1=>tr ds1 (λ xs ps a=>K (x::xs) (.no::ps) a) xe) xe):tbV ta tr ds K xe:=h
theorem qap7(a:fa ds=some x)(b:fb ds=some y)(c:x.imm=true)(d:y.imm=true):A4 gTup (Ax fa (Ax fb λ _=>some [])) ds=some (.q [x,y]):=by
 unfold A4 Ax;rw[a,b];show gd (D.imms [x,y]=true/\[x,y].length<=big) (.q [x,y])=_;refine qk2 ⟨?_,by show 2<=1000000;decide⟩;show (x.imm&&(y.imm&&true))=true;rw[c,d];rfl
theorem qR8:Eo ys none (some (r:Int))=ys.take r:=by
 unfold Eo;have a:HT.sIx ys.length ys.length (some ((r:Nat):Int))=min r ys.length:=HT.qaq7 _ _ r;rw[a,HT.qZ5,Lm,Nat.sub_zero];by_cases h:r<=ys.length
 . rw[zCt h]
 rw[Nat.min_eq_right (by lia),zC1,zAr (by lia)]
theorem qaW2(h:y∈enD ys):∃ i v,y=.q [.int (i:Nat),v]/\ys[i]? = some v:=by
 obtain⟨⟨v,i⟩,a,rfl⟩:=zAt.mp h;exact⟨i,v,rfl,List.mem_zipIdx_iff_getElem?.mp a⟩
theorem qaj8{g:Nat->Option Int}(h:d∈N5 N g):d=.non∨∃ k,d=.int k:=by
 unfold N5 at h;obtain⟨i,_,rfl⟩:=zAt.mp h;cases g i with
 | none=>exact .inl rfl
 | some k=>exact .inr ⟨k,rfl⟩
theorem qC9{g:D->D->Option D}{Q:Bool->Ds->Prop}(h:ta ds (λ x ds1=>orF ((fb ds1).bind (g x)) λ d=>orF d.asB λ b=>Q b ds1) xe):ttE (t2v g ta fb) ds Q xe:=h
theorem qn0(h:tr ds (λ xs ps ds1=>s (xs++[]) (λ d ys=>orF (As ps ys ds1) λ a=>Q d a) (λ x ys=>orF (As ps ys ds1) λ a=>xe x a)) xe):qk0 s [] tr ds Q xe:=h
theorem qaF5{g:D->D->Option D}{tb:VT}(c:fa ds=some x)(h:tb ds (λ y a=>orF (g x y) λ d=>Q d a) xe):t2 g (Dc fa) tb ds Q xe:=qr6 (xe:=xe) (Q:=λ x b=>tb b (λ y a=>orF (g x y) λ d=>Q d a) xe) c h
theorem qai4{g:D->D->Option D}(h:ta ds (λ x ds1=>orF ((fb ds1).bind (g x)) λ d=>Q d ds1) xe):t2v g ta fb ds Q xe:=h
theorem qap8{g:D->D->Option D}(h:ta ds (λ x ds1=>orF (fb ds1) λ y=>y.imm=true/\orF (g x y) λ d=>Q d ds1) xe):Il g ta fb ds Q xe:=h
theorem qab9(h:tr ds (λ xs _ ds1=>xs.length<=big/\Q (.l false xs) ds1) xe):tLstV tr ds Q xe:=h
theorem qi0(h:te ds (λ d a=>e.nx (a.set i d)) e.xe):Dt te (gNm i) e ds:=h
theorem qaL0{C:γ}(h:tr ds (λ xs ps ds1=>s (.ins false C []::(xs++[])) (λ d ys=>d.isN=some true/\orF ys.head? λ self=>orF (As ps ys.tail ds1) λ a=>Q self a) (λ x ys=>orF (As ps ys.tail ds1) λ a=>xe x a)) xe):qT3 C s [] tr ds Q xe:=h
theorem qaA5(ys:Ds):(enD ys).length=ys.length:=by unfold enD;simp
theorem en_at{g:Nat->Option Int}(h:(enD (N5 N g))[i]? = some v):i < N/\v=.q [.int (i:Nat),De (g i)]:=by
 have a:i < N:=by
   have:=(zA5.mp h).1
   rwa[qaA5,qm7] at this
 refine⟨a,?_⟩;unfold enD at h;rw[zAy,List.getElem?_zipIdx,qx1 a] at h;simp at h;exact h.symm
theorem Jm(h:te ds (λ d ds1=>Q d.fz ds1) xe):tFzV te ds Q xe:=h
theorem qaD5{src:List (Option Nat)}{g:VTG}{qf:VTT}(h:tr ds (λ xs _ ds1=>orF (Ja xs) λ j=>Ft j=true/\E5 src g qf te (Bj 0 j.toNat) ds1 Q) xe):Jd src (Gs tr) g qf te ds Q xe:=h
theorem qaA7(h:(N4 ks)[i]? = some y):∃ z,ks[i]? = some z/\y=.int z:=by
 unfold N4 at h;rw[zAy] at h;cases e:ks[i]? with
 | none=>rw[e] at h;cases h
 | some z=>rw[e] at h;exact⟨z,rfl,(Nc h).symm⟩
theorem qo0(h:ks[i]? = some k):ks.take (i+1)=ks.take i++[k]:=by rw[zBk,h];rfl
theorem qw3(b:ks.Nodup)(h:ks[i]? = some k):¬ k∈ks.take i:=λ z=>by
 obtain⟨j,a⟩:=List.getElem?_of_mem z;rw[List.getElem?_take] at a;split at a
 . rename_i hlt
   obtain⟨d,c⟩:=zA5.mp h;obtain⟨e,e2⟩:=zA5.mp a
   have:=(Mm b).mp (e2.trans c.symm)
   lia
 cases a
theorem qae5:∀ ps:Pr,D.fzs (N6 ps)=N6 ps
 | []=>rfl
 | p::r=>congrArg (D.q [.int p.1,.int p.2]::·) (qae5 r)
theorem qaN8:∀ ps:Pr,D.fzk (kvD ps)=kvD ps
 | []=>rfl
 | p::r=>congrArg ((Sum.inl p.1,D.int p.2)::·) (qaN8 r)
theorem qaN9{z:Bool}{C:γ}{n:Int}{wr:Bool}{ps:Pr}:(Ad z C n wr ps).fz=Ad true C n wr ps:=by
 show D.ins true C [("rooms",.int n),("wraps",.bl wr),("homes",.l true (D.fzs (N6 ps))),("home_numbers",.dct true (D.fzk (kvD ps)))]=_;rw[qae5,qaN8];rfl
theorem qaX8{z z':Bool}{A B:List Int}(h:A.length+B.length<=1000):Gn (.l z (N4 A)) (.l z' (N4 B))=some (.l false (N4 (A++B))):=by
 show gd _ (D.l false (N4 A++N4 B))=_;rw[show N4 (A++B)=N4 A++N4 B from zBe];exact qk2 ⟨qk9 A,qk9 B,by rw[qj7,qj7];unfold big;lia⟩
theorem Fl{gc:Ds->Option D}(h:tr ds (λ xs _ ds1=>orF (gc xs) λ d=>Q d ds1) xe):tcO gc (Gs tr) ds Q xe:=h
theorem qaB4{w:VTS}(h:qc ds (λ b a=>if b=true then t { e with nx:=w e } a else w e a) e.xe):Fq (sIf qc t F8) w e ds:=h
theorem qag0{g:VTG}{qf:VTT}{te:VT}{K:Ds->Ds->Prop}(I:Nat->Ds->Ds->Prop):∀(xs:Ds)(i:Nat)(acc l:Ds),I i acc l->(∀(j:Nat)(x:D),xs[j]? = some x->∀ acc l,I (i+j) acc l->∀ R:Ds->Ds->Prop,(∀ acc' l',I (i+j+1) acc' l'->R acc' l')->g x l λ ι1=>qf ι1 (λ b ι2=>if b=true then te ι2 (λ d ι3=>acc.length < big/\R (acc++[d]) ι3) (λ _ _=>False) else R acc ι2) (λ _ _=>False))->(∀ acc l,I (i+xs.length) acc l->K acc l)->Dz g qf te K xs acc l
 | [],_,acc,l,h,_,hn=>hn acc l h
 | x::xs,i,acc,l,h,hs,hn=>hs 0 x rfl acc l h _ λ acc' l' c=>qag0 I xs (i+1) acc' l' c (λ j y e acc2 ι2 a R f=>hs (j+1) y e acc2 ι2 (by rw[show i+(j+1)=i+1+j by lia];exact a) R λ acc3 ι3 k=>f acc3 ι3 (by rw[show i+1+j+1=i+(j+1)+1 by lia];exact k)) λ acc2 ι2 a=>hn acc2 ι2 (by rw[zAf,show i+(xs.length+1)=i+1+xs.length by lia];exact a)
theorem qam5{C:γ}(h:x.isC C=some d):x.known=true:=by
 cases x with
 | u=>cases h
 | hole v=>cases h
 | _=>rfl
theorem qO1{l m n:Int}(h1:l<=n)(h2:n<=m):(D.int n).within l m=true:=by
 show (decide (l<=n)&&decide (n<=m))=true;rw[zAb h1,zAb h2];rfl
theorem qM1{C:γ}{g:FV}(h1:g ds=some d)(hi:d.imm=true)(hm:d.isM C m=true)(h:tr ds (λ xs ps ds1=>s (d::(xs++[])) (λ r ys=>orF (As (.no::ps) ys ds1) λ b=>Q r b) (λ x ys=>orF (As (.no::ps) ys ds1) λ b=>xe x b)) xe):qX4 C m s [] g tr ds Q xe:=qa0 (a:=d) h1 ⟨hi,hm,h⟩
theorem qaC7(h:te ds (λ _ a=>u e a) e.xe):Fq (Iy te) u e ds:=h
theorem qaE0{p:List Nat}{w:V}{ps:List Pl}(h:Bc ds i p=some (.hole w)):As (.pl i p w::ps) (y::ys) ds=As ps ys (Be ds i p y):=by
 show (match Bc ds i p with | some (.hole a)=>if a=w then As ps ys (Be ds i p y) else none | _=>none)=_;rw[h];exact if_pos rfl
theorem qaA2{C:γ}(a:rdN i ds=some p)(hm:p.isM C m=true)(r:R [p] d)(b:As [.sl i] [p] (ds.set i .u)=some ds)(q:Q d ds):qu5 C m (Aw R) [] i A9 ds Q xe :=
 qV5 a hm (qc1 (qa0 a (qg6 r (qa0 b q))))
theorem qai2(h:tr ds (λ xs _ ds1=>xs.length<=big/\Q (.q xs) ds1) xe):Ha tr ds Q xe:=h
def Bo(N s t:Nat):List Int:=(Kz (t+1)).map λ i=>((rot N s i:Nat):Int)
theorem qah8{s t:Nat}:Bo N s t++[((rot N s (t+1):Nat):Int)]=Bo N s (t+1):=by
 unfold Bo;rw[zCi (n:=t+1),zBe];rfl
theorem qau9{s t b:Nat}(hs:s < N)(c:b < N)(d:t < N):((b:Nat):Int)∈Bo N s t↔dist N s b<=t:=by
 unfold Bo;rw[zAt];constructor
 . rintro⟨i,a,e⟩
   have a:=zA9.mp a;have e:rot N s i=b:=by lia
   rw[<- e,qx4 hs (by lia)];lia
 intro h;exact⟨dist N s b,zA9.mpr (by lia),by rw[qC7 hs c]⟩
theorem qW4{s t:Nat}:(Bo N s t).length=t+1:=by unfold Bo;rw[zA8,zAv]
theorem qO2{s t:Nat}{z:Bool}:gIx (.l z (N4 (Bo N s t))) (.int (-1))=some (.int (rot N s t:Nat)):=by
 have e:N4 (Bo N s t)=N4 ((Kz t).map λ i=>((rot N s i:Nat):Int))++[.int (rot N s t:Nat)]:=by
   unfold Bo N4;rw[zCi,zBe,zBe];rfl
 rw[e];exact qaE1 _ _
local macro_rules | `(tactic| walk_at "s")=>`(tactic| exact⟨rfl,rfl,rfl,by decide +kernel,rfl,by decide +kernel,by decide +kernel⟩)
local macro_rules | `(tactic| walk_at "m")=>`(tactic| (intro _ _ _ _ _ k l;repeat' first | exact id | exact k _ _ | exact l _ _ | refine Exists.imp λ _=>?_ | refine And.imp ?_ ?_ | refine N1 ?_ ?_ | refine forall_imp λ _=>?_))
local macro_rules | `(tactic| walk_at "l")=>`(tactic| (intro _ _ _ h;(repeat (first | refine Exists.elim h λ _ h=>?_ | refine And.elim (λ h _=>?_) h));rw[h];exact⟨rfl,rfl⟩))
theorem lt2:2<=big:=by show 2<=1000000;decide
theorem lt3:3<=big:=by show 3<=1000000;decide
noncomputable def top(i:Nat):Km:=PySem.Challenge.pw_homeward_k54_whole_no_lesser_farthest.main.body.getD i (.Pass ⟨0,0,0,0⟩)
abbrev qaq6:Km:=top 0
abbrev qv1:Km:=top 12
abbrev qf2:Km:=top 13
abbrev qq8:Km:=top 14
abbrev qn4:Km:=top 15
abbrev qg3:Km:=top 16
abbrev qj0:Km:=top 17
abbrev qr0:Km:=qm8 (top 18) 0
abbrev qj2:Km:=qm8 (top 18) 2
abbrev qr1:Km:=qm8 (top 18) 4
abbrev qv6:Km:=qm8 (top 18) 5
abbrev qf3:Km:=qm8 (top 18) 6
abbrev qn3:Km:=top 20
abbrev qd1:Km:=top 21
abbrev qv0:Km:=top 22
abbrev qq7:Km:=top 23
abbrev qv2:Km:=top 24
abbrev qq9:Km:=top 26
abbrev qj1:Km:=top 27
abbrev qi9:Km:=top 28
abbrev qv4:Km:=top 29
abbrev qv5:Km:=qm8 (top 31) 0
abbrev qg4:Km:=qm8 (top 31) 1
abbrev qh6:Km:=qm8 (top 31) 2
abbrev qk5:Km:=qm8 (top 31) 4
abbrev qC5:Km:=qm8 (top 31) 5
abbrev qc3:Km:=top 32
abbrev qC3:Km:=top 34
abbrev qv3:Km:=top 35
abbrev qC4:Km:=top 36
abbrev qq6:Km:=top 37
abbrev qaw9:Km:=top 39
abbrev qZ0:Km:=top 40
abbrev qZ4:Km:=top 41
abbrev qaw7:Km:=top 42
abbrev qZ1:Km:=top 43
abbrev qZ2:Km:=top 44
abbrev qaw8:Km:=top 45
abbrev qL1:Km:=top 46
abbrev qaw6:Km:=top 47
abbrev qv7:Km:=top 48
abbrev qL0:Km:=top 49
abbrev qK9:Km:=top 50
abbrev qK8:Km:=top 51
abbrev qZ3:Km:=top 52
abbrev qC6:Km:=top 53
abbrev Ge:Km:=top 54
set_option genInjectivity false in
set_option genSizeOf false in
structure Adr where
 f0:γ
 d0:δ
 f1:γ
 d1:δ
 f2:γ
 d2:δ
 f3:γ
 d3:δ
 f4:γ
 d4:δ
 f5:γ
 d5:δ
 f6:γ
 d6:δ
 f7:γ
 d7:δ
 f8:γ
 d8:δ
 f9:γ
 d9:δ
 f10:γ
 d10:δ
 f11:γ
 d11:δ
 f12:γ
 d12:δ
 f13:γ
 d13:δ
 f14:γ
 d14:δ
 f15:γ
 d15:δ
 f16:γ
 d16:δ
 f17:γ
 d17:δ
 f18:γ
 d18:δ
 f19:γ
 d19:δ
 f20:γ
 d20:δ
 f21:γ
 d21:δ
 f22:γ
 d22:δ
 f23:γ
 d23:δ
 f24:γ
 d24:δ
 f25:γ
 d25:δ
 f26:γ
 d26:δ
 f27:γ
 d27:δ
 f28:γ
 d28:δ
 f29:γ
 d29:δ
 f30:γ
 d30:δ
 f31:γ
 d31:δ
 f32:γ
 d32:δ
 f33:γ
 d33:δ
 f34:γ
 d34:δ
 f35:γ
 d35:δ
 f36:γ
 d36:δ
 f37:γ
 d37:δ
 f38:γ
 d38:δ
 f39:γ
 d39:δ
 f40:γ
 d40:δ
 f41:γ
 d41:δ
 f42:γ
 d42:δ
 f43:γ
 d43:δ
 f44:γ
 d44:δ
 f45:γ
 d45:δ
 f46:γ
 d46:δ
 Cb:Tok
 Cf:Tok
 Cg:Tok
 C3:γ
 C4:γ
structure Txt(K:Nf)(mg:Str->Option V')(a:Adr):Prop where
 d0:Df K mg "_wall" "_wall" qaq6 a.f0 a.d0 ["k"]
 d1:Df K mg "is_whole" "is_whole" qv1 a.f1 a.d1 ["thing"]
 d2:Df K mg "is_whole_within" "is_whole_within" qf2 a.f2 a.d2 ["thing", "least", "most"]
 d3:Df K mg "is_number" "is_number" qq8 a.f3 a.d3 ["thing"]
 d4:Df K mg "are_parted" "are_parted" qn4 a.f4 a.d4 ["numbers"]
 d5:Df K mg "is_number_pair" "is_number_pair" qg3 a.f5 a.d5 ["thing"]
 d6:Df K mg "is_home_list" "is_home_list" qj0 a.f6 a.d6 ["thing"]
 d7:Md K a.C3 "__init__" "Plan.__init__" qr0 a.f7 a.d7 ["self", "rooms", "wraps", "homes"]
 d8:Md K a.C3 "is_room" "Plan.is_room" qj2 a.f8 a.d8 ["self", "thing"]
 d9:Md K a.C3 "home" "Plan.home" qr1 a.f9 a.d9 ["self", "key"]
 d10:Md K a.C3 "far" "Plan.far" qv6 a.f10 a.d10 ["self", "key", "room"]
 d11:Md K a.C3 "goes_ahead" "Plan.goes_ahead" qf3 a.f11 a.d11 ["self", "room", "one", "other"]
 d12:Df K mg "room_ahead" "room_ahead" qn3 a.f12 a.d12 ["plan", "room"]
 d13:Df K mg "word_by_room_ahead" "word_by_room_ahead" qd1 a.f13 a.d13 ["plan", "rooms", "room"]
 d14:Df K mg "word_due" "word_due" qv0 a.f14 a.d14 ["plan", "rooms", "room"]
 d15:Df K mg "is_turned" "is_turned" qq7 a.f15 a.d15 ["plan", "rooms"]
 d16:Df K mg "fault_of" "fault_of" qv2 a.f16 a.d16 ["plan", "rooms"]
 d17:Df K mg "are_crowd" "are_crowd" qq9 a.f17 a.d17 ["plan", "keys", "room"]
 d18:Df K mg "crowded_room" "crowded_room" qj1 a.f18 a.d18 ["plan", "keys"]
 d19:Df K mg "refuse_crowd" "refuse_crowd" qi9 a.f19 a.d19 ["plan", "keys"]
 d20:Df K mg "bring_in" "bring_in" qv4 a.f20 a.d20 ["plan", "rooms", "key"]
 d21:MdN K a.C4 "__init__" "Row.__init__" qv5 a.f21 a.d21 ["self", "plan", "rooms"]
 d22:Md K a.C4 "rooms_held" "Row.rooms_held" qg4 a.f22 a.d22 ["self"]
 d23:Md K a.C4 "keys_held" "Row.keys_held" qh6 a.f23 a.d23 ["self"]
 d24:Md K a.C4 "room_of" "Row.room_of" qk5 a.f24 a.d24 ["self", "key"]
 d25:Md K a.C4 "put" "Row.put" qC5 a.f25 a.d25 ["self", "key"]
 d26:Df K mg "refuse_wrong_row_or_key" "refuse_wrong_row_or_key" qc3 a.f26 a.d26 ["row", "key"]
 d27:Df K mg "fars_of" "fars_of" qC3 a.f27 a.d27 ["row"]
 d28:Df K mg "farthest" "farthest" qv3 a.f28 a.d28 ["row"]
 d29:Df K mg "far_sum" "far_sum" qC4 a.f29 a.d29 ["row"]
 d30:Df K mg "window_of" "window_of" qq6 a.f30 a.d30 ["row", "key"]
 d31:Df K mg "_law_bag" "_law_bag" qaw9 a.f31 a.d31 ["_law_script"]
 d32:Df K mg "_law_take" "_law_take" qZ0 a.f32 a.d32 ["_law_bag_here", "_law_many"]
 d33:Df K mg "_law_case" "_law_case" qZ4 a.f33 a.d33 ["_law_bag_here", "_law_most"]
 d34:Df K mg "_law_key" "_law_key" qaw7 a.f34 a.d34 ["_law_bag_here", "_law_rooms", "_law_home_here"]
 d35:Df K mg "_law_keys" "_law_keys" qZ1 a.f35 a.d35 ["_law_bag_here", "_law_case_here", "_law_many"]
 d36:Df K mg "_law_home" "_law_home" qZ2 a.f36 a.d36 ["_law_case_here", "_law_key_here"]
 d37:Df K mg "_law_far" "_law_far" qaw8 a.f37 a.d37 ["_law_case_here", "_law_key_here", "_law_room"]
 d38:Df K mg "_law_ahead" "_law_ahead" qL1 a.f38 a.d38 ["_law_case_here", "_law_room", "_law_one", "_law_other_here"]
 d39:Df K mg "_law_put" "_law_put" qaw6 a.f39 a.d39 ["_law_case_here", "_law_rooms", "_law_key_here"]
 d40:Df K mg "_law_fitting" "_law_fitting" qv7 a.f40 a.d40 ["_law_case_here", "_law_keys_here"]
 d41:Df K mg "_law_drawn" "_law_drawn" qL0 a.f41 a.d41 ["_law_bag_here", "_law_most"]
 d42:Df K mg "_law_every" "_law_every" qK9 a.f42 a.d42 ["_law_case_here", "_law_keys_here", "_law_at", "_law_rooms"]
 d43:Df K mg "_law_other" "_law_other" qK8 a.f43 a.d43 ["_law_bag_here", "_law_case_here", "_law_keys_here"]
 d44:Df K mg "_law_fars" "_law_fars" qZ3 a.f44 a.d44 ["_law_case_here", "_law_rooms"]
 d45:Df K mg "_law_within" "_law_within" qC6 a.f45 a.d45 ["_law_case_here", "_law_keys_here", "_law_window"]
 d46:Df K mg "law" "law" Ge a.f46 a.d46 ["_law_script"]
 Co:mg "MOST_NUMBER" = some (.int 1000000000000000000 a.Cb)
 Cq:mg "MOST_ROOMS" = some (.int 64 a.Cf)
 Cp:mg "MOST_HOMES" = some (.int 64 a.Cg)
 D7:mg "abs" = none
 D3:mg "all" = none
 Cz:mg "bool" = none
 Cy:mg "dict" = none
 Cj:mg "enumerate" = none
 Ct:mg "int" = none
 C8:mg "isinstance" = none
 Ci:mg "len" = none
 Ch:mg "list" = none
 Cs:mg "max" = none
 Cv:mg "min" = none
 Ce:mg "range" = none
 D6:mg "set" = none
 Cu:mg "sorted" = none
 Cw:mg "sum" = none
 D2:mg "tuple" = none
 C5:Cl K mg "Plan" a.C3
 D0:Mk K a.C3 a.f7
 C6:qf4 K a.C3 "rooms"
 Cd:qf4 K a.C3 "wraps"
 Cr:qf4 K a.C3 "homes"
 Cc:qf4 K a.C3 "home_numbers"
 D1:IsO K a.C3
 C7:Cl K mg "Row" a.C4
 D4:Mk K a.C4 a.f21
 C9:qf4 K a.C4 "plan"
 Ca:qf4 K a.C4 "held"
 Ck:qf4 K a.C4 "done"
 D5:IsO K a.C4
section
variable{P:Ki}{w:Kk}{K:Nf}{mg:Str->Option V'}{base:Heap}{a:Adr}
theorem qU3:qa9 ["thing"] ["thing"] (qa3 qv1):=by walk_at "s"
def qT5:VSp:=B7 (fx1 λ x=>x.kind.map λ _=>.bl x.whole)
theorem qU7(T:Txt K mg a):VFn P w K mg base 1 a.f1 a.d1 ["thing"] qT5:=by
 refine VFn.mk' T.d1.F qU3 (wOf [true]) qu3 (λ _ _ _=>qac3) (λ _ _ _=>imm1) (λ _ _ _ _ _ _ _ c=>⟨_,(Ag (At (qa5 (vand (vbi qn7 qN2.ops T.C8 (qa2 (vnm 0) (qa2 (vty "int" T.Ct) qa7 rfl) rfl)) (Hr (vnot (vbi qn7 qN2.ops T.C8 (qa2 (vnm 0) (qa2 (vty "bool" T.Cz) qa7 rfl) rfl)))))))),λ f Q g h=>?_⟩);obtain⟨x,d,rfl,e,q⟩:=Jl h;obtain⟨t,b,rfl⟩:=zAa.mp e;cases x<;>first | exact q | cases b
theorem qq2:qa9 ["thing", "least", "most"] ["thing", "least", "most"] (qa3 qf2):=by walk_at "s"
def qp8:VSp:=B7 (fx3 λ x l m=>x.kind.bind λ _=>l.asI.bind λ i=>m.asI.map λ j=>.bl (x.within i j))
theorem qe6(T:Txt K mg a):VFn P w K mg base 2 a.f2 a.d2 ["thing", "least", "most"] qp8:=by
 refine VFn.mk' T.d2.F qq2 (wOf [true,true,true]) qu3 (λ _ _ _=>qaL8) (λ _ _ _=>imm3) (λ _ _ _ _ _ _ _ b=>⟨_,(Ag (At (Hq (Aj T.d1 (qU7 T) qa1 (rm b) (vaN 0 Ac)) (eone (qa5 (vch Gz G6 Gz G6 (vnm 1) (vnm 0) (vnm 2))))))),λ o Q p h=>?_⟩);obtain⟨x,l,m,d,rfl,e,q⟩:=pure3 h;obtain⟨t,c,e⟩:=zA1.mp e;obtain⟨i,f,e⟩:=zA1.mp e;obtain⟨j,g,rfl⟩:=zAa.mp e;cases l<;>cases f
 cases m<;>cases g
 cases x with
 | int n =>
   refine⟨rfl,?_⟩;show orF (f3 gLe gLe (rdN 1) (rdN 0) (rdN 2) [.int n,.int i,.int j]) _;have k:f3 gLe gLe (rdN 1) (rdN 0) (rdN 2) [.int n,.int i,.int j]=some (.bl (decide (i<=n)&&decide (n<=j))):=by
     show (if decide (i<=n)=true then some (D.bl (decide (n<=j))) else some (.bl false))=_;cases decide (i<=n)<;>rfl
   rw[k];exact q
 | _=>first | exact⟨rfl,q⟩ | cases c
theorem qF9:qa9 ["numbers"] ["numbers"] (qa3 qn4):=by walk_at "s"
def qF6:VSp:=Aw λ ds d=>∃ z ks,ds=[.l z (N4 ks)]/\ks.length<=1000/\d=.bl (decide ks.Nodup)
theorem qG4(T:Txt K mg a):VFn P w K mg base 1 a.f4 a.d4 ["numbers"] qF6:=by
 refine VFn.mk2 T.d4.F qF9 (wOf [true]) qb2 (by walk_at "l") (λ _ _ _ _ _ _ _ e=>⟨_,(Ag (At (qa5 (v2 (A6 (qk7 e.u64) (qa8 _)) Bh (vlenS T.Ci T.D6 (vnm 0)) (vbi qt9 qt8.ops T.Ci (qa2 (vnm 0) qa7 rfl)))))),λ j Q k h=>?_⟩);obtain⟨d,⟨z,b,rfl,f,rfl⟩,q⟩:=h;have g:f1 Hc (rdN 0) [.l z (N4 b)]=some (.int (ql1 b)):=by
   show ((intsD (N4 b)).bind λ c=>gd (c.length<=1000) (.int (ql1 c)))=_;rw[qG8];exact qk2 f
 have e2:f2 gEq (f1 Hc (rdN 0)) (A4 (fx1 Et) (Ax (rdN 0) λ x=>some [])) [.l z (N4 b)]=some (.bl (decide b.Nodup)):=by
   show ((f1 Hc (rdN 0) [.l z (N4 b)]).bind λ x=>gEq x (.int (N4 b).length))=_;rw[g,qj7];show some (D.bl ((ql1 b:Int) == (b.length:Int)))=_
   have:=qN0 b
   by_cases h:b.Nodup
   . rw[zAb h,this.mpr h,zB9]
   have i:¬ ((ql1 b:Int)=(b.length:Int)):=λ z=>h (this.mp (by exact_mod_cast z))
   rw[zAl h,beq_false_of_ne i]
 exact qa0 e2 q
theorem qK4:qa9 ["thing"] ["thing"] (qa3 qq8):=by walk_at "s"
def qn2:VSp:=B7 (fx1 λ x=>x.kind.map λ _=>.bl x.num)
theorem qc0(T:Txt K mg a):VFn P w K mg base 3 a.f3 a.d3 ["thing"] qn2:=by
 refine VFn.mk' T.d3.F qK4 (wOf [true]) qu3 (λ _ _ _=>qac3) (λ _ _ _=>imm1) (λ _ _ _ _ _ _ _ b=>⟨_,(Ag (At (Aj T.d2 (qe6 T) qa1 (rm b) (vaN 0 (vaV (qa5 Af) (vaV (qa5 (vgi T.Co)) Ac)))))),λ f Q g h=>?_⟩);obtain⟨x,d,rfl,e,q⟩:=Jl h;obtain⟨t,c,rfl⟩:=zAa.mp e;cases x<;>first | exact⟨rfl,q⟩ | cases c
theorem qt4:qa9 ["thing"] ["thing"] (qa3 qg3):=by walk_at "s"
def _root_.LV.D.pairB:D->Bool
 | .q [x,y]=>x.num&&y.num
 | _=>false
def _root_.LV.D.kinded:D->Bool
 | .q ds=>(ds.all λ d=>d.kind.isSome&&d.imm)&&decide (ds.length<=1000)
 | _=>true
def qt2:VSp:=B7 (fx1 λ x=>if x.kinded=true then x.kind.map λ _=>.bl x.pairB else none)
theorem qt6(T:Txt K mg a):VFn P w K mg base 4 a.f5 a.d5 ["thing"] qt2:=by
 refine VFn.mk' T.d5.F qt4 (wOf [true]) qu3 (λ _ _ _=>qac3) (λ _ _ _=>imm1) (λ _ _ _ _ _ _ _ f=>⟨_,(Ag (At (Hq (qa5 (vbi qn7 qN2.ops T.C8 (qa2 (vnm 0) (qa2 (vty "tuple" T.D2) qa7 rfl) rfl))) (Hq (qa5 (v2 (A6 (qk7 f.u64) (qa8 _)) Bh (vbi qt9 qt8.ops T.Ci (qa2 (vnm 0) qa7 rfl)) Af)) (Hq (Aj T.d3 (qc0 T) qa1 (rm f) (vaV (qb4 (v2 (Ap qb0) Ah (vnm 0) Af)) Ac)) (eone (Aj T.d3 (qc0 T) qa1 (rm f) (vaV (qb4 (v2 (Ap qb0) Ah (vnm 0) Af)) Ac)))))))),λ b Q m h=>?_⟩);obtain⟨x,d,rfl,e,q⟩:=Jl h;cases x with
 | q b =>
   by_cases c:(D.q b).kinded=true
   . rw[if_pos c] at e
     cases e;have c:=zAn.mp c;have i:=zC9.mp c.1
     match b with
     | []=>exact q
     | [_]=>exact q
     | [x,y] =>
       have j:=zAn.mp (i x (by simp));have l:=zAn.mp (i y (by simp));obtain⟨t,n⟩:=zBc.mp j.1;obtain⟨u,o⟩:=zBc.mp l.1;refine⟨j.2,?_⟩;refine qa0 (a:=D.bl x.num) (by show (x.kind.map _)=_;rw[n];rfl) ?_;refine ite_b (λ g=>⟨l.2,qa0 (a:=D.bl y.num) (by show (y.kind.map _)=_;rw[o];rfl) ?_⟩) λ g=>?_
       . have:(D.q [x,y]).pairB=y.num:=by show (x.num&&y.num)=_;rw[g];rfl
         rw[this] at q;exact q
       have:(D.q [x,y]).pairB=false:=by show (x.num&&y.num)=_;rw[g];rfl
       rw[this] at q;exact q
     | x::y::z::r =>
       have e2:f2 gEq (A4 (fx1 Et) (Ax (rdN 0) λ x=>some [])) (kC (D.int 2)) [.q (x::y::z::r)]=some (.bl false):=by
         show some (D.bl (((x::y::z::r).length:Int) == 2))=_
         have:(((x::y::z::r).length:Int) == 2)=false:=by
           have:((x::y::z::r).length:Int)≠2:=by simp;lia
           simpa using this
         rw[this]
       have:orF (f2 gEq (A4 (fx1 Et) (Ax (rdN 0) λ x=>some [])) (kC (D.int 2)) [.q (x::y::z::r)]) (λ d=>orF d.asB λ k=>if k=true then Iw (qk0 qn2 [] (tbV (Bq (f2 gIx (rdN 0) (kC (D.int 0)))) A9)) (qk0 qn2 [] (tbV (Bq (f2 gIx (rdN 0) (kC (D.int 1)))) A9)) [.q (x::y::z::r)] (λ d b=>Q d (fin (wOf [true]) 0 [.q (x::y::z::r)] b)) (λ p b=>m p (fin (wOf [true]) 0 [.q (x::y::z::r)] b)) else Q (.bl false) [.q (x::y::z::r)]):=by
         rw[e2];exact q
       exact this
   rw[if_neg c] at e;cases e
 | _=>first | (cases e;exact q) | cases e
theorem qy5:qa9 ["thing"] ["thing"] (qa3 qj0):=by walk_at "s"
noncomputable def Gw:D->Option Int
 | .q (.int k::_)=>some k
 | _=>none
def _root_.LV.D.homesB:D->Bool
 | .l _ ys=>decide (ys.length<=64)&&(ys.all D.pairB&&decide (ys.filterMap Gw).Nodup)
 | _=>false
def _root_.LV.D.lstOk(p:D->Bool):D->Bool
 | .l _ ys=>D.imms ys&&ys.all p&&decide (ys.length<=1000)
 | x=>x.kind.isSome
def Jn(y:D):Bool:=y.kind.isSome&&y.kinded
theorem qaK2(h:x.num=true):∃ n,x=.int n/\Aq n:=by
 cases x with
 | int n =>
   have:=zAn.mp h
   exact⟨n,rfl,zAc this.1,zAc this.2⟩
 | _=>cases h
theorem qr5{n:Int}(h:Aq n):(D.int n).num=true:=by
 show (decide (0<=n)&&decide (n<=1000000000000000000))=true;rw[zAb h.1,zAb h.2];rfl
theorem qaJ2(h:y.pairB=true):∃ k m,y=.q [.int k,.int m]/\Aq k/\Aq m:=by
 cases y with
 | q a =>
   match a,h with
   | [x,y],h =>
     have h:=zAn.mp h;obtain⟨k,rfl,b⟩:=qaK2 h.1;obtain⟨m,rfl,c⟩:=qaK2 h.2;exact⟨k,m,rfl,b,c⟩
 | _=>cases h
theorem qU4:∀{ys:Ds},ys.all D.pairB=true->∃ ps:Pr,ys=N6 ps/\∀ p∈ps,Aq p.1/\Aq p.2
 | [],_=>⟨[],rfl,λ p h=>by simp at h⟩
 | y::r,h=>by
   rw[Ld,zBm] at h;obtain⟨k,m,rfl,b,c⟩:=qaJ2 h.1;obtain⟨ps,rfl,d⟩:=qU4 h.2;refine⟨(k,m)::ps,rfl,λ p a=>?_⟩;rcases zAh.mp a with rfl | a
   . exact⟨b,c⟩
   exact d p a
theorem qad0:∀ ps:Pr,(N6 ps).filterMap Gw=ps.map (·.1)
 | []=>rfl
 | p::r=>by show p.1::(N6 r).filterMap Gw=_;rw[qad0 r];rfl
theorem qaP8:∀{ps:Pr},(∀ p∈ps,Aq p.1/\Aq p.2)->(N6 ps).all D.pairB=true
 | [],_=>rfl
 | p::r,h=>by
   show (((D.int p.1).num&&(D.int p.2).num)&&(N6 r).all D.pairB)=true;rw[qr5 (h p zA7).1,qr5 (h p zA7).2,qaP8 λ q a=>h q (zA3 _ a)];rfl
theorem qaP9:∀ ps:Pr,(N6 ps).all Jn=true
 | []=>rfl
 | p::r=>by show (true&&(N6 r).all Jn)=true;rw[qaP9 r];rfl
theorem qH1{z:Bool}{ps:Pr}(h:Ik ps):(D.l z (N6 ps)).homesB=true/\(D.l z (N6 ps)).lstOk Jn=true:=by
 have a:(N6 ps).length<=64:=by simpa[N6] using h.len
 constructor
 . show (decide ((N6 ps).length<=64)&&((N6 ps).all D.pairB&&decide ((N6 ps).filterMap Gw).Nodup))=true
   rw[zAb a,qaP8 h.nums,qad0,zAb h.nd];rfl
 show (D.imms (N6 ps)&&(N6 ps).all Jn&&decide ((N6 ps).length<=1000))=true;rw[qk8,qaP9,zAb (by lia)];rfl
theorem qS7{α:Type}(f:α->Bool):∀ l:List α,bools (l.map λ a=>.bl (f a))=some (l.map f)
 | []=>rfl
 | a::r=>by show (bools (r.map λ a=>D.bl (f a))).map (λ b=>f a::b)=_;rw[qS7 f r];rfl
theorem qaQ0(f:α->Bool)(l:List α):gAll (.l false (l.map λ a=>.bl (f a)))=some (.bl (l.all f)):=by
 show (bools (l.map λ a=>D.bl (f a))).map (λ b=>D.bl (b.all id))=_;rw[qS7];show some (D.bl ((l.map f).all id))=_;rw[Mx];rfl
def qy2:VSp:=Aw λ ds d=>∃ x,ds=[x]/\x.lstOk Jn=true/\d=.bl x.homesB
theorem qy9(T:Txt K mg a):VFn P w K mg base 5 a.f6 a.d6 ["thing"] qy2:=by
 refine VFn.mk2 T.d6.F qy5 (wOf [true]) qb2 (by walk_at "l") (λ _ _ _ _ _ _ _ A=>⟨_,(Ab (sif (tor (B9 (tv (vbi qn7 qN2.ops T.C8 (qa2 (vnm 0) (qa2 (vty "list" T.Ch) qa7 rfl) rfl)))) (Iv (q2 (Am Bp (qa8 _)) Bz (vbi qt9 qt8.ops T.Ci (qa2 (vnm 0) qa7 rfl)) (vgi T.Cp)))).te (Ag (At (qa5 vbl))) Av) (Ag (At (Hq (ebi (qS6 rfl) qaO9.ops T.D3 (Da (vaV (ecN (NY:=["pair"]) (src:=[none]) 0 (blk (λ f C g H0 i=>(A8 0 (show (["pair"]:List Str).Nodup by decide +kernel))) (λ f C g H0 i=>Dn) (λ f C g H0 i=>(Aj T.d5 (qt6 T) L2.qa1 (rm A) (vaN 0 Ac))))) Ac))) (eone (Aj T.d4 (qG4 T) qa1 (rm A) (vaV (ecN (NY:=["pair"]) (src:=[none]) 0 (blk (λ f C g H0 i=>(A8 0 (show (["pair"]:List Str).Nodup by decide +kernel))) (λ f C g H0 i=>Dn) (λ f C g H0 i=>(qb4 (v2 (Ap qb0) Ah (vnm 0) Af))))) Ac))))))),λ J Q L h=>?_⟩);obtain⟨d,⟨x,rfl,j,rfl⟩,q⟩:=h;cases x with
 | l z b =>
   have j:=zAn.mp j;have k:=zAn.mp j.1;have B:=zAc j.2;refine ite_b (p:=decide ((64:Int) < (b.length:Nat))) (λ h=>?_) (λ h=>?_)
   . have o:¬ b.length<=64:=by have:=zAc h;lia
     have:(D.l z b).homesB=false:=by
       show (decide (b.length<=64)&&_)=false;rw[zAl o];rfl
     rw[this] at q;exact q
   have o:b.length<=64:=by have:=zB8 h;lia
   have E:(D.l z b).homesB=(b.all D.pairB&&decide (b.filterMap Gw).Nodup):=by
     show (decide (b.length<=64)&&_)=_;rw[zAb o];rfl
   have m:=zC9.mp k.2;refine⟨k.1,?_⟩;refine qe2 (λ ι=>∃ d,ι=[d]) (λ y=>some (.bl y.pairB)) b [] _ (by show 0+b.length < big;unfold big;lia) ⟨_,rfl⟩ ?_ ?_
   . rintro y s ι u ⟨d,rfl⟩ R v c
     have G:=zAn.mp (m y s);obtain⟨t,H⟩:=zBc.mp G.1;refine qN9 (x:=y) (rd0 (qp2 H)) (qa0 (a:=D.bl y.pairB) ?_ ?_)
     . show (if y.kinded=true then y.kind.map _ else none)=_
       rw[if_pos G.2,H];rfl
     exact⟨c,v _ ⟨_,rfl⟩⟩
   rintro ι ⟨d,rfl⟩;rw[zB0,qV9];refine qa0 (qaQ0 D.pairB b) (ite_b (λ r=>?_) λ r=>?_)
   . obtain⟨n,rfl,M⟩:=qU4 r
     refine⟨qk8 n,qe2 (λ ι=>∃ d,ι=[d]) (λ y=>(Gw y).map .int) (N6 n) [] _ (by show 0+(N6 n).length < big;unfold big;lia) ⟨_,rfl⟩ ?_ ?_⟩
     . rintro y s ι u ⟨d,rfl⟩ R v c
       obtain⟨p,I,rfl⟩:=zAt.mp s;exact⟨rfl,c,v _ ⟨_,rfl⟩⟩
     rintro ι ⟨d,rfl⟩;have e:[]++(N6 n).filterMap (λ y=>(Gw y).map D.int)=N4 (n.map (·.1)):=by
       rw[zB0];unfold N6 N4;rw[zCs,zCj];exact qV9 _ _
     rw[e];rw[E,r,qad0] at q;exact⟨_,⟨false,_,rfl,by simp;simp[N6] at o;lia,rfl⟩,q⟩
   rw[E,r] at q;exact q
 | _=>first | exact q | cases j
theorem qK6:qa9 ["self", "rooms", "wraps", "homes"] ["self", "rooms", "wraps", "homes"] (qa3 qr0):=by walk_at "s"
def qJ8(C:γ):VSp:=λ ds Q _=>∃ n wr z ps,ds=[.ins false C [],.int n,.bl wr,.l z (N6 ps)]/\1<=n/\n<=64/\Ik ps/\Q .non [Ad false C n wr ps,.int n,.bl wr,.l z (N6 ps)]
theorem qas5{z:Bool}{ps:Pr}:G7 (.l z (N6 ps))=some (.l false (N6 ps)):=qk2 (qk8 ps)
theorem qL8(T:Txt K mg a):VFn P w K mg base 6 a.f7 a.d7 ["self", "rooms", "wraps", "homes"] (qJ8 a.C3):=by
 refine VFn.mk2 T.d7.F qK6 (wOf [true,true,true,true]) (by walk_at "m") (by walk_at "l") (λ _ _ _ _ _ _ _ f=>⟨_,(Ab (sif (B9 (te (Aj T.d2 (qe6 T) qa1 (rm f) (vaN 1 (vaV (qa5 Af) (vaV (qa5 (vgi T.Cq)) Ac)))))) (Ag qk1) Av) (Ab (sif (B9 (tv (vbi qn7 qN2.ops T.C8 (qa2 (vnm 2) (qa2 (vty "bool" T.Cz) qa7 rfl) rfl)))) (Ag qk1) Av) (Ab (sif (B9 (te (Aj T.d6 (qy9 T) qa1 (rm f) (vaN 3 Ac)))) (Ag qk1) Av) (Ab (Gq rfl (vpn 0) (qb4 (vnm 1)) T.C5.cl T.C6) (Ab (Gq rfl (vpn 0) (qb4 (vnm 2)) T.C5.cl T.Cd) (Ab (Gq rfl (vpn 0) (qa5 (Ev qd2 qx7.ops T.Ch (qa2 (vnm 3) qa7 rfl))) T.C5.cl T.Cr) (Ag (Gq rfl (vpn 0) (qa5 (Ev (qI3 rfl) qau2.ops T.Cy (qa2 (vnm 3) qa7 rfl))) T.C5.cl T.Cc)))))))),λ k Q g h=>?_⟩);obtain⟨n,wr,z,c,rfl,i,j,e,q⟩:=h;refine qb3 [.ins false a.C3 [],.int n,.bl wr,.l z (N6 c)] (λ K b=>?_) (qb3 [.ins false a.C3 [],.int n,.bl wr,.l z (N6 c)] (λ K b=>b) (qb3 [.ins false a.C3 [],.int n,.bl wr,.l z (N6 c)] (λ K b=>?_) ?_))
 . refine qH2 (λ Q g q=>qn0 (qb6 (x:=.int n) rfl (qd9 (y:=.int 1) rfl (qd9 (y:=.int 64) rfl (qc1 (qa0 (a:=D.int n) rfl (qD0 (d:=D.bl true) ?_ q))))))) b
   show some (D.bl ((D.int n).within 1 64))=_;rw[qO1 i j]
 . refine qN9 rfl ⟨D.bl true,⟨_,rfl,(qH1 e).2,by rw[(qH1 e).1]⟩,b⟩
 refine qb3 [.ins false a.C3 [("rooms",.int n)],.int n,.bl wr,.l z (N6 c)] (λ K b=>⟨rfl,qa0 (a:=(0,[])) rfl (qa0 qj3 ⟨by decide,b⟩)⟩) ?_;refine qb3 [.ins false a.C3 [("rooms",.int n),("wraps",.bl wr)],.int n,.bl wr,.l z (N6 c)] (λ K b=>⟨rfl,qa0 (a:=(0,[])) rfl (qa0 qj3 ⟨by show 1 < 100;decide,b⟩)⟩) ?_;refine qb3 [.ins false a.C3 [("rooms",.int n),("wraps",.bl wr),("homes",.l false (N6 c))],.int n,.bl wr,.l z (N6 c)] (λ K b=>?_) ?_
 . refine qa0 (qas5 (z:=z)) ?_
   exact qa0 (a:=(0,[])) rfl (qa0 qj3 ⟨by show 2 < 100;decide,b⟩)
 refine qa0 (qat9 (z:=z) e.nd) ?_;exact qa0 (a:=(0,[])) rfl (qa0 qj3 ⟨by show 3 < 100;decide,q⟩)
theorem qy6:qa9 ["self", "thing"] ["self", "thing"] (qa3 qj2):=by walk_at "s"
def qy4(C:γ):VSp:=Aw λ ds d=>∃ z n wr ps x t,ds=[Ad z C n wr ps,x]/\x.kind=some t/\d=.bl (x.within 0 (n - 1))
theorem qm6(T:Txt K mg a):VFn P w K mg base 3 a.f8 a.d8 ["self", "thing"] (qy4 a.C3):=by
 refine VFn.mk2 T.d8.F qy6 (wOf [true,true]) qb2 (by walk_at "l") (λ _ _ _ _ _ _ _ f=>⟨_,(Ag (At (Aj T.d2 (qe6 T) qa1 (rm f) (vaN 1 (vaV (qa5 Af) (vaV (qa5 (v2 (Al qr4) qr3 (Bi rfl (vnm 0) T.C5.cl T.C6) Af)) Ac)))))),λ i Q j h=>?_⟩);obtain⟨d,⟨z,n,wr,b,x,t,rfl,c,rfl⟩,q⟩:=h;have e:rdN 1 [Ad z a.C3 n wr b,x]=some x:=qm5.mpr ⟨rfl,qp2 c⟩;have g:f2 gSub (f1 (D.fld a.C3 "rooms") (rdN 0)) (kC (.int 1)) [Ad z a.C3 n wr b,x]=some (.int (n - 1)):=Ae (Ba rfl qd7) rfl rfl;show qk0 _ _ (tbN 1 _) [Ad z a.C3 n wr b,x] _ _;refine qb6 e ?_;refine qd9 (y:=.int 0) rfl ?_;refine qd9 g ?_;refine qa0 e ?_;refine qD0 (d:=.bl (x.within 0 (n - 1))) ?_ (qa0 rfl q);show x.kind.bind _=_;rw[c];rfl
theorem qK7:qa9 ["self", "key"] ["self", "key"] (qa3 qr1):=by walk_at "s"
def qJ9(C:γ):VSp:=Aw λ ds d=>∃ z n wr ps k,ds=[Ad z C n wr ps,.int k]/\1<=n/\Aq k/\d=.int (qb7 n ps k)
theorem qae3{z:Bool}{ps:Pr}(h:fa ds=some (.dct z (kvD ps)))(a:rdN i ds=some (.int k)):fget fa (rdN i) (rdN i) ds=some (.int ((ps.lookup k).getD k)):=by
 unfold fget;rw[h,a];show gd (((Dq (kvD ps) (.inl k)).getD (.int k)).imm=true) ((Dq (kvD ps) (.inl k)).getD (.int k))=_;rw[qap5];cases ps.lookup k<;>rfl
theorem qaK6{x n:Int}(h:1<=n):Hl (.int x) (.int n)=some (.int (x % n)):=qk2 (zAb (by lia))
theorem qj6(T:Txt K mg a):VFn P w K mg base 4 a.f9 a.d9 ["self", "key"] (qJ9 a.C3):=by
 refine VFn.mk2 T.d9.F qK7 (wOf [true,true]) qb2 (by walk_at "l") (λ _ _ _ _ _ _ _ b=>⟨_,(Ab (sif (B9 (te (Aj T.d3 (qc0 T) qa1 (rm b) (vaN 1 Ac)))) (Ag qk1) Av) (Ag (At (qa5 (v2 (Al qj5) qj4 (vget (hu_of b) (Bi rfl (vnm 0) T.C5.cl T.Cc) (vnm 1) (vnm 1) ⟨rfl,rfl,rfl,rfl⟩) (Bi rfl (vnm 0) T.C5.cl T.C6)))))),λ g Q i h=>?_⟩);obtain⟨d,⟨z,n,wr,c,k,rfl,e,f,rfl⟩,q⟩:=h;have key:orF (f2 Hl (fget (f1 (D.fld a.C3 "home_numbers") (rdN 0)) (rdN 1) (rdN 1)) (f1 (D.fld a.C3 "rooms") (rdN 0)) [Ad z a.C3 n wr c,.int k]) (λ d=>Q d [Ad z a.C3 n wr c,.int k]):=qa0 (Ae (qae3 (Ba rfl qW0) rfl) (Ba rfl qd7) (qaK6 e)) q;exact qN9 rfl (qD0 (d:=D.bl true) (by show some (D.bl (D.int k).num)=_;rw[qr5 f]) (qa0 rfl (qa0 (a:=true) rfl key)))
theorem qz7:qa9 ["self", "key", "room", "steps"] ["self", "key", "room"] (qa3 qv6):=by walk_at "s"
def qU0(C:γ):VSp:=Aw λ ds d=>∃ z n wr ps k r,ds=[Ad z C n wr ps,.int k,.int r]/\1<=n/\Aq k/\0<=r/\r < n/\d=Dg (An n wr ps k r)
theorem Jo(a:Aq k):fx1 (λ x=>x.kind.map λ _=>.bl x.num) [.int k]=some (.bl true):=by
 show some (D.bl (D.int k).num)=_;rw[qr5 a]
theorem qaq8{C:γ}{z:Bool}{n:Int}{wr:Bool}{ps:Pr}{r:Int}(d:0<=r)(h1:r < n):∃ z' c a b x t,[Ad z C n wr ps,.int r]=[Ad z' C c a b,x]/\x.kind=some t/\D.bl true=.bl (x.within 0 (c - 1)) :=
 ⟨z,n,wr,ps,_,_,rfl,rfl,by rw[qO1 d (by lia)]⟩
theorem qg0(T:Txt K mg a):VFn P w K mg base 5 a.f10 a.d10 ["self", "key", "room"] (qU0 a.C3):=by
 refine VFn.mk2 T.d10.F qz7 (wOf [true,true,true]) qb2 (by walk_at "l") (λ _ _ _ _ _ _ _ e=>⟨_,(Ab (sif (B9 (te (Aj T.d3 (qc0 T) qa1 (rm e) (vaN 1 Ac)))) (Ag qk1) Av) (Ab (sif (B9 (te (qm2 0 T.d8 T.C5.cl (qm6 T) qa1 (rm e) (vaN 2 Ac)))) (Ag qk1) Av) (Ab (Ak 3 qz7.nd (e2n 2 (Al qr4) qr3 (qm2 0 T.d9 T.C5.cl (qj6 T) qa1 (rm e) (vaN 1 Ac)))) (Ab (sif (tv (Bi rfl (vnm 0) T.C5.cl T.Cd)) (Ag (At (qa5 (v2 (Al qj5) qj4 (vnm 3) (Bi rfl (vnm 0) T.C5.cl T.C6))))) Av) (Ag (At (eif (q2 (Am G0 (qa8 _)) Im (vnm 3) Af) (qb4 (vnm 3)) (qa5 A7)))))))),λ s Q i h=>?_⟩);obtain⟨d,⟨z,n,wr,c,k,r,rfl,j,m,f,g,rfl⟩,q⟩:=h;refine Fk (λ Q i q=>qD1 (x:=.int k) rfl (Jo m) rfl q) ?_;refine Fk (λ Q i q=>qD9 (p:=Ad z a.C3 n wr c) (x:=.int r) rfl (qd5 rfl) rfl rfl (qaq8 f g) rfl q) ?_;refine qb3 [Ad z a.C3 n wr c,.int k,.int r,.int (r - qb7 n c k)] (λ K o=>?_) ?_
 . exact⟨rfl,qD9 (p:=Ad z a.C3 n wr c) (x:=.int k) (d:=.int (qb7 n c k)) rfl (qd5 rfl) rfl rfl ⟨z,n,wr,c,k,rfl,j,m,rfl⟩ rfl (qa0 (a:=D.int (r - qb7 n c k)) rfl o)⟩
 unfold An at q;refine qg9 wr (Ba rfl qE8) (λ h=>?_) (λ h=>?_)
 . subst h
   exact qi3 (.int ((r - qb7 n c k) % n)) (Ae rfl (Ba rfl qd7) (qaK6 j)) q
 subst h;refine qi2 (Gd (b:=decide (0<=r - qb7 n c k)) rfl (λ h=>?_) (λ h=>?_))
 . rw[if_neg (by decide),if_pos (zAc h)] at q
   exact⟨rfl,q⟩
 rw[if_neg (by decide),if_neg (zB8 h)] at q;exact q
theorem qe4:qa9 ["self", "room", "one", "other", "one_far", "other_far"] ["self", "room", "one", "other"] (qa3 qf3):=by walk_at "s"
def qp9(C:γ):VSp:=Aw λ ds d=>∃ z n wr ps r x y,ds=[Ad z C n wr ps,.int r,.int x,.int y]/\1<=n/\0<=r/\r < n/\Aq x/\Aq y/\d=.bl (qe3 n wr ps r x y)
theorem qan6{C:γ}{z:Bool}{n:Int}{wr:Bool}{ps:Pr}{r:Int}(h1:1<=n)(f:Aq k)(g:0<=r)(h:r < n):∃ z' c a b e d,[Ad z C n wr ps,.int k,.int r]=[Ad z' C c a b,.int e,.int d]/\1<=c/\Aq e/\0<=d/\d < c/\Dg (An n wr ps k r)=Dg (An c a b e d) :=
 ⟨z,n,wr,ps,k,r,rfl,h1,f,g,h,rfl⟩
theorem qi5(T:Txt K mg a):VFn P w K mg base 6 a.f11 a.d11 ["self", "room", "one", "other"] (qp9 a.C3):=by
 refine VFn.mk2 T.d11.F qe4 (wOf [true,true,true,true]) qb2 (by walk_at "l") (λ _ _ _ _ _ _ _ j=>⟨_,(Ab (sif (B9 (te (qm2 0 T.d8 T.C5.cl (qm6 T) qa1 (rm j) (vaN 1 Ac)))) (Ag qk1) Av) (Ab (sif (B9 (te (Aj T.d3 (qc0 T) qa1 (rm j) (vaN 2 Ac)))) (Ag qk1) Av) (Ab (sif (B9 (te (Aj T.d3 (qc0 T) qa1 (rm j) (vaN 3 Ac)))) (Ag qk1) Av) (Ab (Ak 4 qe4.nd (qm2 0 T.d10 T.C5.cl (qg0 T) qa1 (rm j) (vaN 2 (vaN 1 Ac)))) (Ab (Ak 5 qe4.nd (qm2 0 T.d10 T.C5.cl (qg0 T) qa1 (rm j) (vaN 3 (vaN 1 Ac)))) (Ab (sif (q2 (Am Br (qa8 _)) B6 (vnm 4) A7) (Ag (At (qa5 vbl))) Av) (Ab (sif (q2 (Am Br (qa8 _)) B6 (vnm 5) A7) (Ag (At (qa5 vbl))) Av) (Ag (At (qa5 (vor (v2 (A6 Bp (qa8 _)) Bz (vnm 4) (vnm 5)) (Hr (vand (v2 (A6 (qk7 j.u64) (qa8 _)) Bh (vnm 4) (vnm 5)) (Hr (v2 (A6 Du (qa8 _)) Eh (vnm 2) (vnm 3)))))))))))))))),λ A Q k h=>?_⟩);obtain⟨d,⟨z,n,wr,c,r,x,y,rfl,o,e,i,s,t,rfl⟩,q⟩:=h;refine Fk (λ Q k q=>qD9 (p:=Ad z a.C3 n wr c) (x:=.int r) rfl (qd5 rfl) rfl rfl (qaq8 e i) rfl q) ?_;refine Fk (λ Q k q=>qD1 (x:=.int x) rfl (Jo s) rfl q) ?_;refine Fk (λ Q k q=>qD1 (x:=.int y) rfl (Jo t) rfl q) ?_;refine qb3 [Ad z a.C3 n wr c,.int r,.int x,.int y,Dg (An n wr c x r),.u] (λ K m=>?_) ?_
 . exact qal6 (p:=Ad z a.C3 n wr c) (x:=.int x) (y:=.int r) rfl (qd5 rfl) rfl rfl rfl rfl (qan6 o s e i) rfl m
 refine qb3 [Ad z a.C3 n wr c,.int r,.int x,.int y,Dg (An n wr c x r),Dg (An n wr c y r)] (λ K m=>?_) ?_
 . exact qal6 (p:=Ad z a.C3 n wr c) (x:=.int y) (y:=.int r) rfl (qd5 rfl) rfl rfl rfl rfl (qan6 o t e i) rfl m
 unfold qe3 at q;cases u:An n wr c x r with
 | none =>
   rw[u] at q;exact q
 | some f =>
   rw[u] at q;cases v:An n wr c y r with
   | none =>
     rw[v] at q;exact q
   | some g =>
     rw[v] at q;refine qg9 false rfl nofun λ _=>?_
     refine qg9 false rfl nofun λ _=>?_
     exact qi3 _ (qaO3 (a:=decide (g < f)) rfl (qaf0 (a:=decide (f=g)) (b:=decide (x < y)) rfl rfl)) q
theorem qF8:qa9 ["plan", "room"] ["plan", "room"] (qa3 qn3):=by walk_at "s"
def qF5(C:γ):VSp:=Aw λ ds d=>∃ z n wr ps r,ds=[Ad z C n wr ps,.int r]/\d=(if 0 < r then .int (r - 1) else if wr=true then .int (n - 1) else .non)
theorem qs4(T:Txt K mg a):VFn P w K mg base 1 a.f12 a.d12 ["plan", "room"] (qF5 a.C3):=by
 refine VFn.mk2 T.d12.F qF8 (wOf [true,true]) qb2 (by walk_at "l") (λ _ _ _ _ _ _ _ e=>⟨_,(Ab (sif (q2 (Am Bp (qa8 _)) Bz (vnm 1) Af) (Ag (At (qa5 (v2 (Al qr4) qr3 (vnm 1) Af)))) Av) (Ag (At (eif (tv (Bi rfl (vnm 0) T.C5.cl T.Cd)) (qa5 (v2 (Al qr4) qr3 (Bi rfl (vnm 0) T.C5.cl T.C6) Af)) (qa5 A7))))),λ f Q g h=>?_⟩);obtain⟨d,⟨z,n,wr,c,r,rfl,rfl⟩,q⟩:=h;refine Au [Ad z a.C3 n wr c,.int r] rfl ?_;refine qg9 (decide (0 < r)) rfl (λ h=>?_) λ h=>?_
 . rw[if_pos (zAc h)] at q
   exact q
 rw[if_neg (zB8 h)] at q;refine qi2 (Gd (b:=wr) (Ba rfl qE8) (λ h=>?_) (λ h=>?_))
 . rw[if_pos h] at q
   exact qr6 (d:=.int (n - 1)) (Ae (Ba rfl qd7) rfl rfl) q
 rw[if_neg (by rw[h];decide)] at q;exact q
theorem qc9:qa9 ["plan", "rooms", "room", "ahead", "thing"] ["plan", "rooms", "room"] (qa3 qd1):=by walk_at "s"
noncomputable def Gf:Option Str->D
 | none=>.non
 | some s=>.str s
theorem qac8{t:D}{u:String}(h:t.kind=some u):t=.non∨t.isN=some false:=by
 cases t<;>first | exact .inl rfl | exact .inr rfl | cases h
theorem qD6{t:D}(h:t.num=true):∃ x,t=.int x/\Aq x:=by
 cases t with
 | int x =>
   have:=zAn.mp h
   exact⟨x,rfl,zAc this.1,zAc this.2⟩
 | _=>cases h
def Ek(n:Int)(wr:Bool)(ps:Pr)(p:Nat)(t:D)(k:Int):Option Str:=match t with
 | .non=>some "empty"
 | .int x=>if (D.int x).num=true then (if qe3 n wr ps (p:Int) x k=true then none else some "order") else none
 | _=>none
theorem qah7{n:Int}{wr:Bool}{ps:Pr}{p:Nat}{t:D}(h:t.num=false)(h':t.isN=some false):Ek n wr ps p t k=none:=by
 cases t with
 | non=>cases h'
 | int x =>
   show (if (D.int x).num=true then (if qe3 n wr ps (p:Int) x k=true then (none:Option Str) else some "order") else none)=none;rw[if_neg (by rw[h];decide)]
 | _=>rfl
structure Rm(n:Int)(ys:Ds)(r:Nat):Prop where
 len:ys.length=n.toNat
 kn:∀ y∈ys,∃ t,y.kind=some t
 im:D.imms ys=true
 fl:∀ i y,i < r->ys[i]? = some y->y=.non∨∃ k,y=.int k/\Aq k
theorem qP2{t:D}{u:String}(h:t.kind=some u):fx1 (λ x=>x.kind.map λ _=>.bl x.num) [t]=some (.bl t.num):=by
 show t.kind.map _=_;rw[h];rfl
theorem Gg{z:Bool}(h:ys[r]? = some y):gIx (.l z ys) (.int (r:Int))=some y:=qI4 h
def ql6(C:γ):VSp:=Aw λ ds d=>∃ z n wr ps a ys r k t,ds=[Ad z C n wr ps,.l a ys,.int (r:Nat)]/\1<=n/\r < n.toNat/\(0 < r∨wr=true)/\Rm n ys 0/\ys[r]? = some (.int k)/\Aq k/\ys[Row.prev n.toNat r]? = some t/\d=Gf (Ek n wr ps (Row.prev n.toNat r) t k)
theorem ql9(T:Txt K mg a):VFn P w K mg base 7 a.f13 a.d13 ["plan", "rooms", "room"] (ql6 a.C3):=by
 refine VFn.mk2 T.d13.F qc9 (wOf [true,true,true]) qb2 (by walk_at "l") (λ _ _ _ _ _ _ _ j=>⟨_,(Ab (Ak 3 qc9.nd (Aj T.d12 (qs4 T) qa1 (rm j) (vaN 0 (vaN 2 Ac)))) (Ab (Ak 4 qc9.nd (qb4 (v2 (Ap qb0) Ah (vnm 1) (vnm 3)))) (Ab (sif (q2 (Am Br (qa8 _)) B6 (vnm 4) A7) (Ag (At (qa5 F5))) Av) (Ab (sif (Ho (te (Aj T.d3 (qc0 T) qa1 (rm j) (vaN 4 Ac))) (Fe (B9 (te (qm2 0 T.d11 T.C5.cl (qi5 T) qa1 (rm j) (vaN 3 (vaN 4 (vaV (qb4 (v2 (Ap qb0) Ah (vnm 1) (vnm 2))) Ac)))))))).te (Ag (At (qa5 F5))) Av) (Ag (At (qa5 A7))))))),λ L Q M h=>?_⟩);obtain⟨d,⟨z,n,wr,c,e,f,r,k,t,rfl,C,m,E,R,G,H,g,rfl⟩,q⟩:=h;refine Au [Ad z a.C3 n wr c,.l e f,.int (r:Nat),.u,.u] rfl ?_;have I:=Row.qi4 (n:=n.toNat) m;have v:(if 0 < ((r:Nat):Int) then D.int ((r:Int) - 1) else if wr=true then D.int (n - 1) else .non)=.int (Row.prev n.toNat r:Nat):=by
   rcases Row.por n.toNat r with⟨e1,e2⟩ | ⟨e1,e2⟩
   . rw[if_neg (by lia),if_pos (E.resolve_left (by lia)),e2]
     congr 1;lia
   rw[if_pos (by lia),e2];congr 1;lia
 generalize Row.prev n.toNat r=p at I v q g;obtain⟨u,i⟩:=R.kn t (zB4 g);refine qb3 [Ad z a.C3 n wr c,.l e f,.int (r:Nat),.int (p:Nat),.u] (λ K o=>?_) ?_
 . exact qM2 (x:=Ad z a.C3 n wr c) (y:=.int (r:Nat)) (d:=.int (p:Nat)) rfl rfl rfl ⟨z,n,wr,c,(r:Nat),rfl,v.symm⟩ rfl o
 refine qb3 [Ad z a.C3 n wr c,.l e f,.int (r:Nat),.int (p:Nat),t] (λ K o=>qa0 (Ae rfl rfl (Gg g)) ⟨qs1 R.im g,o⟩) ?_;have A:rdN 4 [Ad z a.C3 n wr c,.l e f,.int (r:Nat),.int (p:Nat),t]=some t:=qe5 rfl (qp2 i);rcases qac8 i with rfl | B
 . exact qg9 true rfl (λ _=>q) nofun
 refine qg9 false (Ae A rfl (by show t.isN.map D.bl=_;rw[B];rfl)) nofun λ _=>?_
 cases b:t.num with
 | false =>
   rw[qah7 b B] at q;exact qg7 false (λ Q q=>qi8 false false (λ Q q=>qD1 (x:=t) (d:=.bl false) A (by rw[qP2 i,b]) rfl q) nofun q) nofun λ _=>q
 | true =>
   obtain⟨x,rfl,J⟩:=qD6 b;have q:Q (Gf (if (D.int x).num=true then (if qe3 n wr c (p:Int) x k=true then none else some "order") else none)) [Ad z a.C3 n wr c,.l e f,.int (r:Nat)]:=q;rw[if_pos b] at q;refine qg7 (!qe3 n wr c (p:Int) x k) (λ Q q=>qi8 true _ (λ Q q=>qD1 (x:=.int x) (d:=.bl true) rfl (by rw[qP2 i,b]) rfl q) (λ _ Q q=>?_) q) (λ h=>?_) λ h=>?_
   . refine qV5 (p:=Ad z a.C3 n wr c) rfl (qd5 rfl) (qb6 (x:=.int (p:Nat)) rfl (qb6 (x:=.int x) rfl (qd0 (y:=.int k) (Ae rfl rfl (Gg G)) rfl ?_)))
     refine qc1 ?_;refine qa0 (a:=D.int x) rfl ?_;refine qa0 (a:=D.int (p:Nat)) rfl ?_;exact(qa0 (a:=Ad z a.C3 n wr c) rfl (qg6 (d:=.bl (qe3 n wr c (p:Int) x k)) ⟨z,n,wr,c,(p:Nat),x,k,rfl,C,by lia,by lia,J,H,rfl⟩ q))
   . rw[if_neg (by intro s;rw[s] at h;cases h)] at q
     exact q
   rw[if_pos (by cases s:qe3 n wr c (p:Int) x k with | true=>rfl | false=>rw[s] at h;cases h)] at q;exact q
theorem qq1:qa9 ["plan", "rooms", "room", "key", "far"] ["plan", "rooms", "room"] (qa3 qv0):=by walk_at "s"
noncomputable def atD(ys:Ds)(i:Nat):D:=(ys[i]?).getD .non
noncomputable def qw9(k:Int):D->Bool
 | .int j=>decide (j=k)
 | _=>false
def B8(n:Int)(wr:Bool)(ps:Pr)(ys:Ds)(r:Nat):Option Str:=match atD ys r with
 | .non=>none
 | .int k=>if (D.int k).num=true then (if (ys.take r).any (qw9 k)=true then some "twice" else match An n wr ps k (r:Int) with
   | none=>some "home"
   | some f=>if f=0 then none else Ek n wr ps (Row.prev n.toNat r) (atD ys (Row.prev n.toNat r)) k) else some "key"
 | _=>some "key"
theorem qat6{k:Int}:∀{l:Ds},(∀ y∈l,y=.non∨∃ j,y=.int j/\Aq j)->∃ a,flats l=some a/\inV (.int k) a=l.any (qw9 k)
 | [],_=>⟨[],rfl,rfl⟩
 | y::l,h=>by
   obtain⟨a,c,e2⟩:=qat6 (k:=k) λ z d=>h z (zA3 _ d)
   rcases h y zA7 with rfl | ⟨j,rfl,_⟩
   . refine⟨.non::a,?_,?_⟩
     . show ((flats l).bind λ b=>some (V.non::b))=_
       rw[c];rfl
     show (eqV .non (.int k)||inV (.int k) a)=(false||l.any (qw9 k))
     rw[e2];rfl
   refine⟨.int j::a,?_,?_⟩
   . show ((flats l).bind λ b=>some (V.int j::b))=_
     rw[c];rfl
   show (eqV (.int j) (.int k)||inV (.int k) a)=(decide (j=k)||l.any (qw9 k))
   rw[e2];rfl
theorem qQ3:∀{ys:Ds}{r:Nat},D.imms ys=true->D.imms (ys.take r)=true
 | [],r,_=>by rw[List.take_nil];rfl
 | y::ys,0,_=>rfl
 | y::ys,r+1,h=>by
   have:=zAn.mp h
   show (y.imm&&D.imms (ys.take r))=true;rw[this.1,qQ3 this.2];rfl
theorem Rm.up{n:Int}(R:Rm n ys r){s:Nat}(h:s<=r):Rm n ys s:=⟨R.len,R.kn,R.im,λ i y a=>R.fl i y (by lia)⟩
def qT4(C:γ):VSp:=Aw λ ds d=>∃ z n wr ps a ys r,ds=[Ad z C n wr ps,.l a ys,.int (r:Nat)]/\1<=n/\r < n.toNat/\Rm n ys r/\d=Gf (B8 n wr ps ys r)
theorem qU6(T:Txt K mg a):VFn P w K mg base 8 a.f14 a.d14 ["plan", "rooms", "room"] (qT4 a.C3):=by
 refine VFn.mk2 T.d14.F qq1 (wOf [true,true,true]) qb2 (by walk_at "l") (λ _ _ _ _ _ _ _ s=>⟨_,(Ab (Ak 3 qq1.nd (qb4 (v2 (Ap qb0) Ah (vnm 1) (vnm 2)))) (Ab (sif (q2 (Am Br (qa8 _)) B6 (vnm 3) A7) (Ag (At (qa5 A7))) Av) (Ab (sif (B9 (te (Aj T.d3 (qc0 T) qa1 (rm s) (vaN 3 Ac)))) (Ag (At (qa5 F5))) Av) (Ab (sif (q2 (Am qo8 (by with_unfolding_all rfl)) F4 (vnm 3) (vsl (vnm 1) vpo_n (vpo_s (vnm 2)))) (Ag (At (qa5 F5))) Av) (Ab (Ak 4 qq1.nd (qm2 0 T.d10 T.C5.cl (qg0 T) qa1 (rm s) (vaN 3 (vaN 2 Ac)))) (Ab (sif (q2 (Am Br (qa8 _)) B6 (vnm 4) A7) (Ag (At (qa5 F5))) Av) (Ab (sif (q2 (Am (qk7 s.u64) (qa8 _)) Bh (vnm 4) Af) (Ag (At (qa5 A7))) Av) (Ag (At (Aj T.d13 (ql9 T) qa1 (rm s) (vaN 0 (vaN 1 (vaN 2 Ac))))))))))))),λ X Q Y h=>?_⟩);obtain⟨d,⟨z,n,wr,c,g,b,r,rfl,E,j,R,rfl⟩,q⟩:=h;have N:=Row.qi4 (n:=n.toNat) j;obtain⟨v,o⟩:∃ v,b[r]? = some v:=⟨b[r]'(by rw[R.len];exact j),by simp⟩
 obtain⟨t,I⟩:∃ t,b[Row.prev n.toNat r]? = some t:=⟨b[Row.prev n.toNat r]'(by rw[R.len];exact N),by simp⟩
 obtain⟨u,A⟩:=R.kn v (zB4 o);have O:atD b r=v:=by unfold atD;rw[o];rfl
 have S:atD b (Row.prev n.toNat r)=t:=by unfold atD;rw[I];rfl
 unfold B8 at q;rw[O,S] at q;refine Au [Ad z a.C3 n wr c,.l g b,.int (r:Nat),.u,.u] rfl ?_;refine qb3 [Ad z a.C3 n wr c,.l g b,.int (r:Nat),v,.u] (λ K G=>qa0 (Ae rfl rfl (Gg o)) ⟨qs1 R.im o,G⟩) ?_;have J:rdN 3 [Ad z a.C3 n wr c,.l g b,.int (r:Nat),v,.u]=some v:=qe5 rfl (qp2 A);rcases qac8 A with rfl | L
 . exact qg9 true rfl (λ _=>q) nofun
 refine qg9 false (Ae J rfl (by show v.isN.map D.bl=_;rw[L];rfl)) nofun λ _=>?_
 cases e:v.num with
 | false =>
   refine qg7 true (λ Q q=>qD1 (x:=v) (d:=.bl false) J (by rw[qP2 A,e]) rfl q) (λ _=>?_) nofun;cases v with
   | non=>cases L
   | int k =>
     have q:Q (Gf (if (D.int k).num=true then _ else some "key")) [Ad z a.C3 n wr c,.l g b,.int (r:Nat)]:=q;rw[if_neg (by rw[e];decide)] at q;exact q
   | _=>exact q
 | true =>
   obtain⟨k,rfl,M⟩:=qD6 e;have q:Q (Gf (if (D.int k).num=true then (if (b.take r).any (qw9 k)=true then some "twice" else match An n wr c k (r:Int) with
     | none=>some "home"
     | some f=>if f=0 then none else Ek n wr c (Row.prev n.toNat r) t k) else some "key")) [Ad z a.C3 n wr c,.l g b,.int (r:Nat)]:=q
   rw[if_pos e] at q;refine qg7 false (λ Q q=>qD1 (x:=.int k) (d:=.bl true) rfl (by rw[qP2 A,e]) rfl q) nofun λ _=>?_
   obtain⟨B,U,e2⟩:=qat6 (k:=k) (l:=b.take r) λ y V=>by
     obtain⟨i,C⟩:=List.getElem?_of_mem V;rw[List.getElem?_take] at C;split at C
     . rename_i hlt;exact R.fl i y hlt C
     cases C
   have H:f2 (Ir false) (rdN 3) (fsl (rdN 1) foN (foS (rdN 2))) [Ad z a.C3 n wr c,.l g b,.int (r:Nat),.int k,.u]=some (.bl ((b.take r).any (qw9 k))):=by
     refine Ae (x:=.int k) (y:=.l false (b.take r)) rfl ?_ ?_
     . show gSl (.l g b) none (some (r:Int))=_
       show gd (D.imms (Eo b none (some (r:Int)))=true) (.l false (Eo b none (some (r:Int))))=_;rw[qR8];exact qk2 (qQ3 R.im)
     show ((flats (b.take r)).bind λ B=>some (D.bl (if false=true then !inV (.int k) B else inV (.int k) B)))=_;rw[U];show some (D.bl (inV (.int k) B))=_;rw[e2]
   refine qg9 _ H (λ h=>?_) λ h=>?_
   . rw[if_pos h] at q;exact q
   rw[if_neg (by rw[h];decide)] at q;refine qb3 [Ad z a.C3 n wr c,.l g b,.int (r:Nat),.int k,Dg (An n wr c k (r:Nat))] (λ K G=>?_) ?_
   . exact qal6 (p:=Ad z a.C3 n wr c) (x:=.int k) (y:=.int (r:Nat)) rfl (qd5 rfl) rfl rfl rfl rfl (qan6 E M (by lia) (by lia)) rfl G
   cases m:An n wr c k (r:Nat) with
   | none =>
     rw[m] at q;exact qg9 true rfl (λ _=>q) nofun
   | some f =>
     rw[m] at q;refine qg9 false rfl nofun λ _=>?_
     refine qg9 (decide (f=0)) rfl (λ h=>?_) λ h=>?_
     . have q:Q (Gf (if f=0 then none else Ek n wr c (Row.prev n.toNat r) t k)) [Ad z a.C3 n wr c,.l g b,.int (r:Nat)]:=q
       rw[if_pos (zAc h)] at q;exact q
     have q:Q (Gf (if f=0 then none else Ek n wr c (Row.prev n.toNat r) t k)) [Ad z a.C3 n wr c,.l g b,.int (r:Nat)]:=q;rw[if_neg (zB8 h)] at q;refine qV6 (x:=Ad z a.C3 n wr c) (y:=.l g b) (w:=.int (r:Nat)) rfl rfl rfl rfl rfl ⟨z,n,wr,c,g,b,r,k,t,rfl,E,j,?_,R.up (zBi _),o,M,I,rfl⟩ rfl q;cases wr with
     | true=>exact .inr rfl
     | false =>
       left;unfold An at m;rw[if_neg (by decide)] at m
       have:=(qad9 E c k).1
       have W:=zB8 h;split at m
       . cases m;lia
       cases m
theorem qK3:qa9 ["plan", "rooms"] ["plan", "rooms"] (qa3 qq7):=by walk_at "s"
def farP(n:Int)(wr:Bool)(ps:Pr):D->Bool
 | .q [.int i,.int k]=>match An n wr ps k i with
   | some f=>decide (0 < f)
   | none=>false
 | _=>false
def qn8(n:Int)(wr:Bool)(ps:Pr)(ys:Ds):Bool:=(enD ys).all (farP n wr ps)
theorem qaD0(ys:Ds):(enD ys).length=ys.length:=by unfold enD;rw[zA8,List.length_zipIdx]
def qJ6(C:γ):VSp:=Aw λ ds d=>∃ z n wr ps a ys,ds=[Ad z C n wr ps,.l a ys]/\1<=n/\n<=64/\ys.length=n.toNat/\(∀ i v,ys[i]? = some v->v=.non∨∃ k,v=.int k/\Aq k/\An n wr ps k (i:Nat)≠none)/\d=.bl (qn8 n wr ps ys)
theorem qaB3{p:Nat->D->Prop}(h:∀ i v,ys[i]? = some v->v=.non∨∃ k,v=.int k/\p i v):D.imms ys=true:=by
 induction ys generalizing p with
 | nil=>rfl
 | cons y ys a =>
   have b:=h 0 y rfl;have c:y.imm=true:=by
     rcases b with rfl | ⟨k,rfl,_⟩<;>rfl
   show (y.imm&&D.imms ys)=true;rw[c,a (p:=λ i v=>p (i+1) v) λ i v d=>h (i+1) v d];rfl
theorem qL6(T:Txt K mg a):VFn P w K mg base 6 a.f15 a.d15 ["plan", "rooms"] (qJ6 a.C3):=by
 refine VFn.mk2 T.d15.F qK3 (wOf [true,true]) qb2 (by walk_at "l") (λ _ _ _ _ _ _ _ H=>⟨_,(Ag (At (ebi (qS6 rfl) qaO9.ops T.D3 (Da (vaV (ecEN (NY:=["room", "key", "plan"]) (src:=[none,none,some 0]) 1 T.Cj (blk (λ o C r H0 s=>(Ez (n:=2) rfl (qp3 (A8 0 (show (["room", "key", "plan"]:List Str).Nodup by decide +kernel)) (qp3 (A8 1 (show (["room", "key", "plan"]:List Str).Nodup by decide +kernel)) Ey)))) (λ o C r H0 s=>Dn) (λ o C r H0 s=>(Hq (qa5 (v2 (A6 qk6 (qa8 _)) qo6 (vnm 1) A7)) (eone (e2v (A6 Bp (qa8 _)) Bz (qm2 2 T.d10 T.C5.cl (qg0 T) L2.qa1 (rm H) (vaN 1 (vaN 0 Ac))) Af)))))) Ac))))),λ X Q Y h=>?_⟩);obtain⟨d,⟨z,n,wr,b,I,g,rfl,J,Z,t,u,rfl⟩,q⟩:=h;refine Au [Ad z a.C3 n wr b,.l I g] rfl ?_;have L:D.imms g=true:=qaB3 (p:=λ i v=>∃ k,v=.int k/\Aq k/\An n wr b k (i:Nat)≠none) λ i v h=>by
   rcases u i v h with h | ⟨k,A,M,N⟩
   . exact .inl h
   exact .inr ⟨k,A,k,A,M,N⟩
 refine qi2 ?_;refine⟨L,?_⟩;refine qe2 (λ ι=>∃ j m,ι=[j,m,Ad z a.C3 n wr b]) (λ y=>some (.bl (farP n wr b y))) (enD g) [] _ (by show 0+(enD g).length < big;rw[qaD0,t];unfold big;lia) ⟨_,_,rfl⟩ ?_ ?_
 . rintro y O ι S ⟨j,m,rfl⟩ R B c
   obtain⟨i,v,rfl,E⟩:=qaW2 O;have U:i < n.toNat:=by rw[<- t];exact(zA5.mp E).1
   refine qs2 (qF2 (Bu rfl ?_));rcases u i v E with rfl | ⟨k,rfl,V,W⟩
   . exact and_e false rfl nofun λ _=>⟨c,B _ ⟨_,_,rfl⟩⟩
   refine and_e true rfl (λ _=>?_) nofun;refine qal6 (p:=Ad z a.C3 n wr b) (x:=.int k) (y:=.int (i:Nat)) rfl (qd5 rfl) rfl rfl rfl rfl (qan6 J V (by lia) (by lia)) rfl ?_;have this:=B _ ⟨.int (i:Nat),.int k,rfl⟩;cases G:An n wr b k (i:Nat) with
   | none=>exact absurd G W
   | some f =>
     have e:farP n wr b (.q [.int (i:Nat),.int k])=decide (0 < f):=by
       show (match An n wr b k (i:Nat) with | some f=>decide (0 < f) | none=>false)=_;rw[G]
     rw[e] at this;exact qa0 (a:=D.bl (decide (0 < f))) rfl ⟨c,this⟩
 rintro ι ⟨j,m,rfl⟩;rw[zB0,qV9];exact qa0 (qaQ0 (farP n wr b) (enD g)) q
theorem qq3:qa9 ["plan", "rooms", "room", "word"] ["plan", "rooms"] (qa3 qv2):=by walk_at "s"
def qW1(n:Int)(wr:Bool)(ps:Pr)(ys:Ds):Option (Str×Nat):=(Kz n.toNat).findSome? λ r=>(B8 n wr ps ys r).map λ w=>(w,r)
def qan5(n:Int)(wr:Bool)(ps:Pr)(ys:Ds):D:=match qW1 n wr ps ys with
 | some (w,r)=>.q [.str w,.int (r:Nat)]
 | none=>if qn8 n wr ps ys=true then .q [.str "turned",.int 0] else .non
theorem qF3{n:Int}{wr:Bool}{ps:Pr}(c:ys[r]? = some v)(h:B8 n wr ps ys r=none):v=.non∨∃ k,v=.int k/\Aq k/\An n wr ps k (r:Nat)≠none:=by
 have d:atD ys r=v:=by unfold atD;rw[c];rfl
 unfold B8 at h;rw[d] at h;cases v with
 | non=>exact .inl rfl
 | int k =>
   have h:(if (D.int k).num=true then (if (ys.take r).any (qw9 k)=true then (some "twice" : Option Str) else match An n wr ps k (r:Int) with
     | none=>some "home"
     | some f=>if f=0 then none else Ek n wr ps (Row.prev n.toNat r) (atD ys (Row.prev n.toNat r)) k) else some "key")=(none:Option Str):=h
   by_cases a:(D.int k).num=true
   . rw[if_pos a] at h
     obtain⟨i,e,b⟩:=qD6 a;cases e;refine .inr ⟨k,rfl,b,λ g=>?_⟩;rw[g] at h;split at h<;>cases h
   rw[if_neg a] at h;cases h
 | _=>cases h
theorem qH8{α:Type}{r:Nat}{f:Nat->Option α}{a:α}:∀{N:Nat},r < N->(∀ i,i < r->f i=none)->f r=some a->(Kz N).findSome? f=some a
 | 0,hr,_,_=>absurd hr (zC5 _)
 | N+1,hr,h0,h=>by
   rw[zCi,List.findSome?_append];by_cases b:r < N
   . rw[qH8 b h0 h];rfl
   have e:r=N:=by lia
   subst e;rw[List.findSome?_eq_none_iff.mpr λ i c=>h0 i (zA9.mp c)];show [r].findSome? f=_;rw[List.findSome?_cons,h]
theorem qQ9{f:Nat->Option α}(a:∀ i,i < N->f i=none):(Kz N).findSome? f=none:=List.findSome?_eq_none_iff.mpr λ i b=>a i (zA9.mp b)
def qT6(C:γ):VSp:=Aw λ ds d=>∃ z n wr ps a ys,ds=[Ad z C n wr ps,.l a ys]/\1<=n/\n<=64/\ys.length=n.toNat/\(∀ y∈ys,∃ t,y.kind=some t)/\D.imms ys=true/\d=qan5 n wr ps ys
theorem qU8(T:Txt K mg a):VFn P w K mg base 9 a.f16 a.d16 ["plan", "rooms"] (qT6 a.C3):=by
 refine VFn.mk2 T.d16.F qq3 (wOf [true,true]) qb2 (by walk_at "l") (λ _ _ _ _ _ _ _ B=>⟨_,(Ab (sif (tor (B9 (tv (vbi qn7 qN2.ops T.C8 (qa2 (vnm 1) (qa2 (vty "list" T.Ch) qa7 rfl) rfl)))) (Iv (q2 (Am (qak4 B.u64) (qa8 _)) Iq (vbi qt9 qt8.ops T.Ci (qa2 (vnm 1) qa7 rfl)) (Bi rfl (vnm 0) T.C5.cl T.C6)))).te (Ag (At (qa5 (F7 (qa2 F5 (qa2 Af qa7 rfl) rfl))))) Av) (Ab (qU2 Nd T.Ce (Da (vaV (qb4 (Bi rfl (vnm 0) T.C5.cl T.C6)) Ac)) (A8 2 qq3.nd) (Ab (Ak 3 qq3.nd (Aj T.d14 (qU6 T) qa1 (rm B) (vaN 0 (vaN 1 (vaN 2 Ac))))) (Ag (sif (q2 (Am qk6 (qa8 _)) qo6 (vnm 3) A7) (Ag (At (qa5 (F7 (qa2 (vnm 3) (qa2 (vnm 2) qa7 rfl) rfl))))) Av)))) (Ag (At (eif (te (Aj T.d15 (qL6 T) qa1 (rm B) (vaN 0 (vaN 1 Ac)))) (qa5 (F7 (qa2 F5 (qa2 Af qa7 rfl) rfl))) (qa5 A7)))))),λ p Q V h=>?_⟩);obtain⟨d,⟨z,n,wr,f,g,c,rfl,H,J,C,E,L,rfl⟩,q⟩:=h;refine Au [Ad z a.C3 n wr f,.l g c,.u,.u] rfl ?_;have t:f2 gNe (A4 (fx1 Et) (Ax (rdN 1) λ _=>some [])) (f1 (D.fld a.C3 "rooms") (rdN 0)) [Ad z a.C3 n wr f,.l g c,.u,.u]=some (.bl false):=Ae (qn5 rfl) (Ba rfl qd7) (by
   show some (D.bl (!((c.length:Nat):Int) == n))=_;rw[show ((c.length:Nat):Int)=n by lia,zB9];rfl)
 refine qg7 false (λ Q q=>qO5 false false (λ Q q=>qn9 (qad4 rfl) q) (λ _ Q q=>qe9 t q) q) nofun λ _=>?_
 refine qb9 (λ p=>(∀ i,i < n.toNat->B8 n wr f c i=none)/\∃ d u,p=[Ad z a.C3 n wr f,.l g c,d,u]) (λ K s=>?_) ?_
 . refine qx2 (Ba rfl qd7) (qD8 (by lia) (by lia)) ?_
   refine qd6 (λ i p=>(∀ j,j < i->B8 n wr f c j=none)/\∃ d u,p=[Ad z a.C3 n wr f,.l g c,d,u]) _ 0 _ ⟨λ j A=>absurd A (zC5 _),_,_,rfl⟩ ?_ ?_
   . rintro j x M p ⟨m,d,u,rfl⟩ K s
     rw[zAi] at m s;obtain⟨A,rfl⟩:=qG1 M;have R:Rm n c j:=⟨C,E,L,λ i y o N=>by
       rcases qF3 N (m i o) with h | ⟨k,O,S,_⟩
       . exact .inl h
       exact .inr ⟨k,O,S⟩⟩
     refine qb3 [Ad z a.C3 n wr f,.l g c,.int (j:Nat),Gf (B8 n wr f c j)] (λ K s=>qV6 (x:=Ad z a.C3 n wr f) (y:=.l g c) (w:=.int (j:Nat)) rfl rfl rfl rfl rfl ⟨z,n,wr,f,g,c,j,rfl,H,A,R,rfl⟩ rfl s) ?_;cases e:B8 n wr f c j with
     | none =>
       refine if_v (b:=false) rfl nofun λ _=>s _ ⟨λ i o=>?_,_,_,rfl⟩
       rcases Nat.lt_succ_iff_lt_or_eq.mp o with h | rfl
       . exact m i h
       exact e
     | some w =>
       have G:qW1 n wr f c=some (w,j):=qH8 A (λ i o=>by rw[m i o];rfl) (by rw[e];rfl);have q:Q (match qW1 n wr f c with | some (w,r)=>.q [.str w,.int (r:Nat)] | none=>if qn8 n wr f c=true then .q [.str "turned",.int 0] else .non) [Ad z a.C3 n wr f,.l g c]:=q;rw[G] at q;exact if_v (b:=true) rfl (λ _=>q) nofun
   rintro p ⟨m,U⟩;refine s _ ⟨λ i o=>m i ?_,U⟩;unfold Bj;rw[zA8,zAv,zAi];exact o
 rintro p ⟨m,d,u,rfl⟩;have G:qW1 n wr f c=none:=qQ9 λ i o=>by rw[m i o];rfl
 have q:Q (match qW1 n wr f c with | some (w,r)=>.q [.str w,.int (r:Nat)] | none=>if qn8 n wr f c=true then .q [.str "turned",.int 0] else .non) [Ad z a.C3 n wr f,.l g c]:=q;rw[G] at q;refine qi2 ?_;refine qM2 (x:=Ad z a.C3 n wr f) (y:=.l g c) (d:=.bl (qn8 n wr f c)) rfl rfl rfl ⟨z,n,wr,f,g,c,rfl,H,J,C,λ i v I=>qF3 I (m i (by rw[<- C];exact(zA5.mp I).1)),rfl⟩ rfl ?_;refine qa0 (a:=qn8 n wr f c) rfl (ite_b (λ h=>?_) λ h=>?_)
 . have q:Q (if qn8 n wr f c=true then .q [.str "turned",.int 0] else .non) [Ad z a.C3 n wr f,.l g c]:=q
   rw[if_pos h] at q;exact q
 have q:Q (if qn8 n wr f c=true then .q [.str "turned",.int 0] else .non) [Ad z a.C3 n wr f,.l g c]:=q;rw[if_neg (by rw[h];decide)] at q;exact q
theorem qq4:qa9 ["self", "plan", "rooms", "held", "fault"] ["self", "plan", "rooms"] (qa3 qv5):=by walk_at "s"
theorem qaE2{g:Nat->Option Int}(h:r < N):atD (N5 N g) r=De (g r):=by unfold atD;rw[qx1 h];rfl
theorem qaF2{g:Nat->Option Int}(h:r<=N):(N5 N g).take r=N5 r g:=by
 unfold N5;rw[<- Ma,List.take_range,zCt h]
theorem qaX6{g:Nat->Option Int}:(N5 r g).any (qw9 k)=true↔∃ j,j < r/\g j=some k:=by
 unfold N5;rw[Mw,Mn];constructor
 . rintro⟨j,a,e⟩
   refine⟨j,zA9.mp a,?_⟩;have e:qw9 k (De (g j))=true:=e;cases h:g j with
   | none=>rw[h] at e;cases e
   | some x=>rw[h] at e;rw[zAc (show decide (x=k)=true from e)]
 rintro⟨j,a,e⟩;refine⟨j,zA9.mpr a,?_⟩;show qw9 k (De (g j))=true;rw[e];exact zAb rfl
theorem qaE3{n:Int}{wr:Bool}{ps:Pr}{g:Nat->Option Int}(a:r < n.toNat)(b:g r=some k)(c:Aq k):B8 n wr ps (N5 n.toNat g) r=(if (N5 r g).any (qw9 k)=true then (some "twice" : Option Str) else match An n wr ps k (r:Int) with
   | none=>some "home"
   | some f=>if f=0 then none else Ek n wr ps (Row.prev n.toNat r) (De (g (Row.prev n.toNat r))) k):=by
 unfold B8;rw[qaE2 a,qaE2 (Row.qi4 a),qaF2 (zBf a),b];show (if (D.int k).num=true then _ else _)=_;rw[if_pos (qr5 c)]
 try rfl
theorem qaO5(h:ys[i]? = some v):D.q [.int (i:Nat),v]∈enD ys:=zAt.mpr ⟨(v,i),List.mem_zipIdx_iff_getElem?.mpr h,rfl⟩
theorem qad1{n:Int}{wr:Bool}{ps:Pr}{g:Nat->Option Int}(m:1<=n)(KP:Kept n.toNat wr (N2 n ps) g S)(t:∀ k∈S,Aq k):qan5 n wr ps (N5 n.toNat g)=.non:=by
 have p:∀{i k},i < n.toNat->g i=some k->Aq k:=λ{i k} l h=>t k ((KP.h.2 k).mpr ⟨i,l,h⟩)
 have b:qW1 n wr ps (N5 n.toNat g)=none:=qQ9 λ r d=>by
   have:B8 n wr ps (N5 n.toNat g) r=none:=by
     cases a:g r with
     | none=>unfold B8;rw[qaE2 d,a];rfl
     | some k =>
       have q:=Row.qi4 d;rw[qaE3 d a (p d a),if_neg (λ z=>by
         obtain⟨j,A,e⟩:=qaX6.mp z
         have:=KP.o.inj j r k (by lia) d e a
         lia),qp5 m d (λ b=>KP.ln b r k d a)]
       show (if ((dist n.toNat (N2 n ps k) r:Nat):Int)=0 then none else _)=_;by_cases B:dist n.toNat (N2 n ps k) r=0
       . rw[if_pos (by lia)]
       obtain⟨x,s,u⟩:=KP.o.ord r k d a (by lia);rw[if_neg (by lia),s];show (if (D.int x).num=true then (if qe3 n wr ps (Row.prev n.toNat r:Nat) x k=true then (none:Option Str) else some "order") else none)=none;have v:=Bk (ps:=ps) m k;rw[if_pos (qr5 (p q s)),if_pos ((qp7 (ps:=ps) m q (λ b=>KP.ln b _ x q s) (λ b=>by
         have C:=KP.ln b r k d a;have E:=dor n.toNat (N2 n ps k) r;have F:=por n.toNat r
         lia)).mpr u)]
   rw[this];rfl
 have w:qn8 n wr ps (N5 n.toNat g)=false:=by
   obtain⟨i,l,y⟩:=KP.c;refine List.all_eq_false.mpr ⟨_,qaO5 (qx1 l),?_⟩;cases a:g i with
   | none=>exact λ h=>by cases h
   | some k =>
     show ¬ (match An n wr ps k (i:Nat) with | some f=>decide (0 < f) | none=>false)=true;rw[qp5 m l (λ b=>KP.ln b i k l a),(qb5 (Bk m k) l).mpr (y k a).symm];exact λ h=>by cases h
 unfold qan5;rw[b,w];rfl
def Ay(zr:Bool)(C CP:γ)(n:Int)(wr:Bool)(ps:Pr)(g:Nat->Option Int)(dn:Ds):D:=.ins zr C [("plan",Ad true CP n wr ps),("held",.l zr (N5 n.toNat g)),("done",.l zr dn)]
abbrev rA(a:Adr)(n:Int)(wr:Bool)(ps:Pr)(g:Nat->Option Int)(dn:Ds):D:=Ay false a.C4 a.C3 n wr ps g dn
abbrev kL(S:List Int):D:=.l false (N4 S)
abbrev rL(n:Int)(g:Nat->Option Int):D:=.l false (N5 n.toNat g)
section
variable{zr:Bool}{C CP:γ}{n:Int}{wr:Bool}{ps:Pr}{g:Nat->Option Int}{dn:Ds}
theorem ql2:D.fld C "plan" (Ay zr C CP n wr ps g dn)=some (Ad true CP n wr ps):=qH7 (by rfl)
theorem qu1:D.fld C "held" (Ay zr C CP n wr ps g dn)=some (.l zr (N5 n.toNat g)):=qH7 (by rfl)
theorem qt0(h:([("plan",Ad true CP n wr ps),("held",.l zr (N5 n.toNat g)),("done",.l zr dn)]:List (Str×D)).lookup m=none):(Ay zr C CP n wr ps g dn).isM C m=true:=qas8 h
end
theorem qR2{zr:Bool}{C CP:γ}{n:Int}{wr:Bool}{ps:Pr}{g:Nat->Option Int}{dn:Ds}:D.fidx C "held" (Ay zr C CP n wr ps g dn)=some 1:=by
 show (if C=C then List.findIdx? (λ q:Str×D=>("held" : Str) == q.1) [("plan",Ad true CP n wr ps),("held",.l zr (N5 n.toNat g)),("done",.l zr dn)] else none)=_;rw[if_pos rfl];rfl
theorem qaX1{p:List Nat}{w:V}{d0:D}(h:Bc ds i p=some (.hole w)):bk1 i p w d0 ds=some (Be ds i p d0):=by
 unfold bk1 As;rw[h];simp only[if_true];unfold As;rfl
theorem qaC2{C:γ}{f:Str}{pf:PF}(h:te ds (λ d ds1=>orF (pf ds1) λ q=>orF ((Bc ds1 q.1 q.2).bind (D.ownI C)) λ fs=>fs.length < 100/\e.nx (Be ds1 q.1 q.2 (.ins false C (E2 f d fs)))) e.xe):sFldV C f te pf e ds:=h
theorem mv_to(h:rdN i ds=some d)(q:Q d (ds.set i .u)):tMv i ds Q xe:=qa0 h q
theorem qaM6{zr:Bool}{C CP:γ}{n:Int}{wr:Bool}{ps:Pr}{g:Nat->Option Int}{dn:Ds}:(Ay zr C CP n wr ps g dn).isC C=some (.bl true):=if_pos rfl
def qT9(C CP:γ):VSp:=λ ds Q _=>∃ n wr ps r g S,ds=[.ins false C [],Ad true CP n wr ps,r]/\1<=n/\n<=64/\(∀ k∈S,Aq k)/\Kept n.toNat wr (N2 n ps) g S/\(r=.non/\g=(λ _=>none)∨∃ z,r=.l z (N5 n.toNat g))/\Q .non [Ay false C CP n wr ps g [],Ad true CP n wr ps,r]
theorem qV1(T:Txt K mg a):VFn P w K mg base 10 a.f21 a.d21 ["self", "plan", "rooms"] (qT9 a.C4 a.C3):=by
 refine VFn.mkE T.d21.F qq4 (wOf [true,true,true]) (λ j Q Q' l p s _ h=>by obtain⟨n,wr,c,r,g,S,e,t,u,v,A,B,q⟩:=h;exact⟨n,wr,c,r,g,S,e,t,u,v,A,B,s _ _ q⟩) (λ j Q l h=>by obtain⟨n,wr,c,r,g,S,e,_⟩:=h;rw[e];rfl) (λ j Q l h=>by obtain⟨n,wr,c,r,g,S,e,_⟩:=h;rw[e];rfl) (λ _ _ _ _ _ _ _ i=>⟨_,(Ab (sif (B9 (tv (vbi (qag5 T.D1 T.C5.cl) qaO7.ops T.C8 (qa2 (vnm 1) (qa2 (vcls a.C3 T.C5.m) qa7 rfl) rfl)))) (Ag qk1) Av) (Ab (sif (Ho (q2 (Am qk6 (qa8 _)) qo6 (vnm 2) A7) (Fe (B9 (tv (vbi qn7 qN2.ops T.C8 (qa2 (vnm 2) (qa2 (vty "list" T.Ch) qa7 rfl) rfl)))))).te (Ag qk1) Av) (Ab (Ak 3 qq4.nd (eif (q2 (Am Br (qa8 _)) B6 (vnm 2) A7) (qa5 (v2 (Al qo7) qo5 (Dk (qa2 A7 qa7 rfl)) (Bi rfl (vnm 1) T.C5.cl T.C6))) (qa5 (Ev qd2 qx7.ops T.Ch (qa2 (vnm 2) qa7 rfl))))) (Ab (Ak 4 qq4.nd (Aj T.d16 (qU8 T) qa1 (rm i) (vaN 1 (vaN 3 Ac)))) (Ab (sif (q2 (Am qk6 (qa8 _)) qo6 (vnm 4) A7) (Ag qk1) Av) (Ab (Gq rfl (vpn 0) (qb4 (vnm 1)) T.C7.cl T.C9) (Ab (Gq rfl (vpn 0) (emv 3) T.C7.cl T.Ca) (Ag (Gq rfl (vpn 0) (qa5 (Dk qa7)) T.C7.cl T.Ck))))))))),λ j Q l h=>?_⟩);obtain⟨n,wr,c,r,g,S,rfl,o,C,D,KP,i,q⟩:=h;have G:r.known=true:=by
   rcases i with⟨rfl,_⟩ | ⟨z,rfl⟩<;>rfl
 refine Au [.ins false a.C4 [],Ad true a.C3 n wr c,r,.u,.u] rfl ?_;refine qat4 (show Iu a.C3 (Ad true a.C3 n wr c) (.adr a.C3)=some (.bl true) from qaB0) ?_;refine qg7 false (λ Q q=>?_) nofun λ _=>?_
 . rcases i with⟨rfl,_⟩ | ⟨z,rfl⟩
   . exact qi8 false false (λ Q q=>qe9 (b:=false) (Ae rfl rfl rfl) q) nofun q
   exact qi8 true false (λ Q q=>qe9 (b:=true) (Ae rfl rfl rfl) q) (λ _ Q q=>qn9 (b:=true) (qad4 rfl) q) q
 refine qb3 [.ins false a.C4 [],Ad true a.C3 n wr c,r,rL n g,.u] (λ K f=>qi0 ?_) ?_
 . rcases i with⟨rfl,rfl⟩ | ⟨z,rfl⟩
   . exact Gd (b:=true) (Ae rfl rfl rfl) (λ _=>qr6 (Ae rfl (Ba rfl qd7) (qD7 (by lia) C)) f) nofun
   exact Gd (b:=false) (Ae rfl rfl rfl) nofun λ _=>qr6 (d:=rL n g) (show G7 (.l z (N5 n.toNat g))=_ from qk2 (qx0 _ _)) f
 refine qb3 [.ins false a.C4 [],Ad true a.C3 n wr c,r,rL n g,.non] (λ K f=>qi0 ?_) ?_
 . refine qM2 (x:=Ad true a.C3 n wr c) (y:=rL n g) (d:=qan5 n wr c (N5 n.toNat g)) rfl rfl rfl ⟨true,n,wr,c,false,N5 n.toNat g,rfl,o,by lia,qm7 _ _,λ y E=>?_,qx0 _ _,rfl⟩ rfl ?_
   . rcases qaj8 E with rfl | ⟨k,rfl⟩
     . exact⟨_,rfl⟩
     exact⟨_,rfl⟩
   rw[qad1 o KP D];exact f
 refine qg7 false (λ Q q=>qe9 (b:=false) (Ae rfl rfl rfl) q) nofun λ _=>?_
 refine qb3 [.ins false a.C4 [("plan",Ad true a.C3 n wr c)],Ad true a.C3 n wr c,r,rL n g,.non] (λ K f=>qaC2 (qt7 (d:=Ad true a.C3 n wr c) rfl rfl (qa0 (a:=(0,[])) rfl (qa0 qj3 ⟨by decide,f⟩)))) ?_;refine qb3 [.ins false a.C4 [("plan",Ad true a.C3 n wr c),("held",rL n g)],Ad true a.C3 n wr c,r,.u,.non] (λ K f=>qaC2 (mv_to (d:=rL n g) rfl (qa0 (a:=(0,[])) rfl (qa0 qj3 ⟨by show 1 < 100;decide,f⟩)))) ?_;exact qaC2 (qr6 (d:=.l false []) rfl (qa0 (a:=(0,[])) rfl (qa0 qj3 ⟨by show 2 < 100;decide,q⟩)))
theorem qC0:qa9 ["self", "key"] ["self", "key"] (qa3 qk5):=by walk_at "s"
noncomputable def Gx:Option Int->V
 | some k=>.int k
 | none=>.non
theorem qae8(N:Nat)(g:Nat->Option Int):flats (N5 N g)=some ((Kz N).map λ i=>Gx (g i)):=by
 have:∀ l:List Nat,flats (l.map λ i=>De (g i))=some (l.map λ i=>Gx (g i)):=λ l=>by
   induction l with
   | nil=>rfl
   | cons a l b =>
     show ((De (g a)).flat.bind λ v=>(flats (l.map λ i=>De (g i))).bind λ c=>some (v::c))=_;rw[b,zAo];cases g a<;>rfl
 exact this _
noncomputable def El(N:Nat)(g:Nat->Option Int)(k:Int):Option Nat:=(Kz N).findIdx? λ i=>decide (g i=some k)
def Dp(N:Nat)(g:Nat->Option Int)(k:Int):D:=match El N g k with
 | some i=>.int (i:Nat)
 | none=>.non
theorem qat8:eqV (Gx o) (.int k)=decide (o=some k):=by
 cases o with
 | none=>rfl
 | some a =>
   show decide (a=k)=_;exact decide_eq_decide.mpr ⟨λ h=>by rw[h],λ h=>Nc h⟩
theorem qat1{k:Int}{g:Nat->Option Int}:∀ l:List Nat,Gb (.int k) (l.map λ i=>Gx (g i))=l.findIdx? λ i=>decide (g i=some k)
 | []=>rfl
 | a::l=>by
   show (if eqV (Gx (g a)) (.int k)=true then some 0 else (Gb (.int k) (l.map λ i=>Gx (g i))).map (· + 1))=_;rw[qat8,qat1 l,zCr]
theorem qaM8{k:Int}{g:Nat->Option Int}:∀ l:List Nat,inV (.int k) (l.map λ i=>Gx (g i))=(l.findIdx? λ i=>decide (g i=some k)).isSome
 | []=>rfl
 | a::l=>by
   have b:=qaM8 (k:=k) (g:=g) l;unfold inV at b ⊢;rw[zAo,zCu,b,zCr];have e:=qat8 (o:=g a) (k:=k);cases h:decide (g a=some k) with
   | true=>rw[h] at e;simp[e]
   | false=>rw[h] at e;simp[e]
theorem qaj7{g:Nat->Option Int}(h:∀ i,i < N->g i≠some k):Dp N g k=.non:=by
 have:El N g k=none:=List.findIdx?_eq_none_iff.mpr λ i a=>zAl (h i (zA9.mp a))
 unfold Dp;rw[this]
theorem qaj6{g:Nat->Option Int}(hi:i < N)(e:g i=some k):∃ j:Nat,Dp N g k=.int (j:Nat):=by
 unfold Dp;cases h:El N g k with
 | some j=>exact⟨j,rfl⟩
 | none =>
   have:=List.findIdx?_eq_none_iff.mp h i (zA9.mpr hi)
   rw[zAb e] at this;cases this
def qo1(C CP:γ):VSp:=Aw λ ds d=>∃ zr n wr ps g dn k,ds=[Ay zr C CP n wr ps g dn,.int k]/\Aq k/\d=Dp n.toNat g k
theorem qf7(T:Txt K mg a):VFn P w K mg base 4 a.f24 a.d24 ["self", "key"] (qo1 a.C4 a.C3):=by
 refine VFn.mk2 T.d24.F qC0 (wOf [true,true]) qb2 (by walk_at "l") (λ _ _ _ _ _ _ _ r=>⟨_,(Ab (sif (B9 (te (Aj T.d3 (qc0 T) qa1 (rm r) (vaN 1 Ac)))) (Ag qk1) Av) (Ag (At (eif (q2 (Am qo8 (by with_unfolding_all rfl)) F4 (vnm 1) (Bi rfl (vnm 0) T.C7.cl T.Ca)) (qa5 (vbm qaS7 Ni Np F.type_list_index qaz8 (Bi rfl (vnm 0) T.C7.cl T.Ca) (vnm 1) qaN2)) (qa5 A7))))),λ u Q s h=>?_⟩);obtain⟨d,⟨f,n,wr,o,g,p,k,rfl,t,rfl⟩,q⟩:=h;refine Au [Ay f a.C4 a.C3 n wr o g p,.int k] rfl ?_;refine Fk (λ Q s q=>qD1 (x:=.int k) (d:=.bl true) rfl (Jo t) rfl q) (qi2 ?_);have m:f2 (Ir false) (rdN 1) (f1 (D.fld a.C4 "held") (rdN 0)) [Ay f a.C4 a.C3 n wr o g p,.int k]=some (.bl (El n.toNat g k).isSome):=by
   refine Ae (x:=.int k) (y:=.l f (N5 n.toNat g)) rfl (Ba rfl qu1) ?_;show ((flats (N5 n.toNat g)).bind λ b=>some (D.bl (if false=true then !inV (.int k) b else inV (.int k) b)))=_;rw[qae8];show some (D.bl (inV (.int k) _))=_;rw[qaM8];rfl
 refine Gd m (λ h=>?_) λ h=>?_
 . obtain⟨i,c⟩:=zBc.mp h
   refine qr6 (d:=.int (i:Nat)) (Ae (Ba rfl qu1) rfl ?_) ?_
   . show ((some (V.int k)).bind λ v=>(flats (N5 n.toNat g)).bind λ b=>(Gb v b).map λ j=>D.int (j:Nat))=_
     rw[qae8];show (Gb (.int k) _).map _=_;rw[qat1];show (El n.toNat g k).map _=_;rw[c];rfl
   unfold Dp at q;rw[c] at q;exact q
 refine qr6 (d:=.non) rfl ?_;have c:El n.toNat g k=none:=by cases e:El n.toNat g k with | none=>rfl | some i=>rw[e] at h;cases h
 unfold Dp at q;rw[c] at q;exact q
theorem qK5:qa9 ["plan", "keys", "room"] ["plan", "keys", "room"] (qa3 qq9):=by walk_at "s"
def qJ7(C:γ):VSp:=Aw λ ds d=>∃ z n wr ps a ks r,ds=[Ad z C n wr ps,.l a (N4 ks),.int r]/\1<=n/\(∀ k∈ks,Aq k)/\ks.length<=1000/\d=.bl (if wr=true then decide (r=0)&&decide (n < (ks.length:Int)) else decide (n - r < ((ks.filter λ k=>decide (r<=qb7 n ps k)).length:Int)))
theorem qL7(T:Txt K mg a):VFn P w K mg base 5 a.f17 a.d17 ["plan", "keys", "room"] (qJ7 a.C3):=by
 refine VFn.mk2 T.d17.F qK5 (wOf [true,true,true]) qb2 (by walk_at "l") (λ _ _ _ _ _ _ _ m=>⟨_,(Ab (sif (tv (Bi rfl (vnm 0) T.C5.cl T.Cd)) (Ag (At (qa5 (vand (v2 (A6 (qk7 m.u64) (qa8 _)) Bh (vnm 2) Af) (Hr (v2 (A6 Bp (qa8 _)) Bz (vbi qt9 qt8.ops T.Ci (qa2 (vnm 1) qa7 rfl)) (Bi rfl (vnm 0) T.C5.cl T.C6))))))) Av) (Ag (At (e2v (A6 Bp (qa8 _)) Bz (ebi qt9 qt8.ops T.Ci (Da (vaV (ecN (NY:=["key", "room", "plan"]) (src:=[none,some 2,some 0]) 1 (blk (λ o C s H0 t=>(A8 0 (show (["key", "room", "plan"]:List Str).Nodup by decide +kernel))) (λ o C s H0 t=>(Ec (q2v (A6 G0 (qa8 _)) (Am G0 (qa8 _)) Im (qm2 2 T.d9 T.C5.cl (qj6 T) L2.qa1 (rm m) (vaN 0 Ac)) (vnm 1)))) (λ o C s H0 t=>(qb4 (vnm 0))))) Ac))) (v2 (Al qr4) qr3 (Bi rfl (vnm 0) T.C5.cl T.C6) (vnm 2)))))),λ E Q G h=>?_⟩);obtain⟨d,⟨z,n,wr,b,f,c,r,rfl,u,v,H,rfl⟩,q⟩:=h;refine Au [Ad z a.C3 n wr b,.l f (N4 c),.int r] rfl ?_;refine qg9 wr (Ba rfl qE8) (λ h=>?_) λ h=>?_
 . rw[if_pos h] at q
   have g:f2 gGt (A4 (fx1 Et) (Ax (rdN 1) λ _=>some [])) (f1 (D.fld a.C3 "rooms") (rdN 0)) [Ad z a.C3 n wr b,.l f (N4 c),.int r]=some (.bl (decide (n < (c.length:Int)))):=Ae (qn5 rfl) (Ba rfl qd7) (by rw[qj7];rfl);exact qi3 _ (qaf0 (a:=decide (r=0)) rfl g) q
 rw[if_neg (by rw[h];decide)] at q;refine qi2 ?_;refine⟨qk9 c,?_⟩;refine qe2 (λ ι=>∃ d,ι=[d,.int r,Ad z a.C3 n wr b]) (Dy λ k=>decide (r<=qb7 n b k)) (N4 c) [] _ (by show 0+(N4 c).length < big;rw[qj7];unfold big;lia) ⟨_,rfl⟩ ?_ ?_
 . rintro y A ι i ⟨d,rfl⟩ R B e
   obtain⟨k,j,rfl⟩:=zAt.mp A;refine qD9 (p:=Ad z a.C3 n wr b) (x:=.int k) (d:=.int (qb7 n b k)) rfl (qd5 rfl) rfl rfl ⟨z,n,wr,b,k,rfl,u,v k j,rfl⟩ rfl ?_;have this:=B _ ⟨.int k,rfl⟩;refine qa0 (a:=D.bl (decide (r<=qb7 n b k))) rfl (qa0 (a:=decide (r<=qb7 n b k)) rfl (ite_b (λ h=>?_) λ h=>?_))
   . rw[qA6 (p:=λ k=>decide (r<=qb7 n b k)) h] at this
     exact⟨rfl,e,this⟩
   rw[qA7 (p:=λ k=>decide (r<=qb7 n b k)) h] at this;have this:R (i++[]) _:=this;rw[zAe] at this;exact this
 rintro ι ⟨d,rfl⟩;rw[zB0,qw8];refine qa0 (a:=D.bl (decide (n - r < ((c.filter λ k=>decide (r<=qb7 n b k)).length:Int)))) ?_ q;show (f2 gSub (f1 (D.fld a.C3 "rooms") (rdN 0)) (rdN 2) [Ad z a.C3 n wr b,.l f (N4 c),.int r]).bind (gGt (D.int ((N4 (c.filter λ k=>decide (r<=qb7 n b k))).length:Nat)))=_;rw[Ae (Ba rfl qd7) rfl rfl,qj7];rfl
theorem qm4:qa9 ["plan", "keys", "room"] ["plan", "keys"] (qa3 qj1):=by walk_at "s"
def qH9(n:Int)(wr:Bool)(ps:Pr)(ks:List Int)(r:Int):Bool:=if wr=true then decide (r=0)&&decide (n < (ks.length:Int)) else decide (n - r < ((ks.filter λ k=>decide (r<=qb7 n ps k)).length:Int))
def qR9(n:Int)(wr:Bool)(ps:Pr)(ks:List Int):Option Nat:=(Kz n.toNat).find? λ r=>qH9 n wr ps ks (r:Int)
noncomputable def natD:Option Nat->D
 | none=>.non
 | some k=>.int (k:Int)
def qy3(C:γ):VSp:=Aw λ ds d=>∃ z n wr ps a ks,ds=[Ad z C n wr ps,.l a (N4 ks)]/\1<=n/\n<=64/\(∀ k∈ks,Aq k)/\ks.length<=1000/\d=natD (qR9 n wr ps ks)
theorem qz0(T:Txt K mg a):VFn P w K mg base 6 a.f18 a.d18 ["plan", "keys"] (qy3 a.C3):=by
 refine VFn.mk2 T.d18.F qm4 (wOf [true,true]) qb2 (by walk_at "l") (λ _ _ _ _ _ _ _ t=>⟨_,(Ab (qU2 Nd T.Ce (Da (vaV (qb4 (Bi rfl (vnm 0) T.C5.cl T.C6)) Ac)) (A8 2 qm4.nd) (Ag (sif (te (Aj T.d17 (qL7 T) qa1 (rm t) (vaN 0 (vaN 1 (vaN 2 Ac))))) (Ag (At (emv 2))) Av))) (Ag (At (qa5 A7)))),λ g Q u h=>?_⟩);obtain⟨d,⟨z,n,wr,c,o,f,rfl,v,E,A,B,rfl⟩,q⟩:=h;refine Au [Ad z a.C3 n wr c,.l o (N4 f),.u] rfl ?_;refine qb9 (λ g=>(∀ i,i < n.toNat->qH9 n wr c f (i:Int)=false)/\∃ d,g=[Ad z a.C3 n wr c,.l o (N4 f),d]) (λ K p=>?_) ?_
 . refine qx2 (Ba rfl qd7) (qD8 (by lia) (by lia)) ?_
   refine qd6 (λ i g=>(∀ j,j < i->qH9 n wr c f (j:Int)=false)/\∃ d,g=[Ad z a.C3 n wr c,.l o (N4 f),d]) _ 0 _ ⟨λ j r=>absurd r (zC5 _),_,rfl⟩ ?_ ?_
   . rintro j x C g ⟨k,d,rfl⟩ K p
     rw[zAi] at k p;obtain⟨r,rfl⟩:=qG1 C;refine if_e (b:=qH9 n wr c f (j:Int)) (λ Q u q=>qV6 (x:=Ad z a.C3 n wr c) (y:=.l o (N4 f)) (w:=.int (j:Int)) rfl rfl rfl rfl rfl ⟨z,n,wr,c,o,f,_,rfl,v,A,B,rfl⟩ rfl q) (λ s=>?_) (λ s=>?_)
     . have e:qR9 n wr c f=some j:=List.find?_range_eq_some.mpr ⟨s,zA9.mpr r,λ i m=>by rw[k i m];rfl⟩
       rw[e] at q;exact q
     refine p _ ⟨λ i m=>?_,_,rfl⟩;rcases Nat.lt_succ_iff_lt_or_eq.mp m with h | rfl
     . exact k i h
     exact s
   rintro g ⟨k,D⟩;refine p _ ⟨λ i m=>k i ?_,D⟩;unfold Bj;rw[zA8,zAv,zAi];exact m
 rintro g ⟨k,d,rfl⟩;have e:qR9 n wr c f=none:=List.find?_range_eq_none.mpr λ i m=>by rw[k i m];rfl
 rw[e] at q;exact q
theorem qm3:qa9 ["plan", "keys", "room"] ["plan", "keys"] (qa3 qi9):=by walk_at "s"
theorem _root_.Row.Kept.perm{n:Nat}{wr:Bool}{g:Nat->Option Int}(KP:Kept n wr hm g S):((Kz n).filterMap g).Perm S:=by
 refine(List.perm_ext_iff_of_nodup ?_ KP.h.1).mpr λ k=>?_
 . refine List.pairwise_filterMap.mpr (List.Pairwise.imp_of_mem (R:=(·≠·)) (λ{i j} a d f b l m c e=>?_) K7)
   subst e;exact f (KP.o.inj i j b (zA9.mp a) (zA9.mp d) l c)
 rw[KP.h.2 k,zCa];exact⟨λ ⟨i,a,e⟩=>⟨i,zA9.mp a,e⟩,λ ⟨i,a,e⟩=>⟨i,zA9.mpr a,e⟩⟩
def qG6(n:Int)(wr:Bool)(ps:Pr)(ks:List Int):Prop:=∀ r:Nat,r < n.toNat->qH9 n wr ps ks (r:Int)=false
theorem qN3{n:Int}{wr:Bool}{ps:Pr}(h:qG6 n wr ps ks):qR9 n wr ps ks=none:=List.find?_range_eq_none.mpr λ i a=>by rw[h i a];rfl
theorem qao4{n:Int}{wr:Bool}{ps:Pr}(h1:1<=n)(a:r < n.toNat):qH9 n wr ps ks (r:Int)=true↔Crowd n.toNat wr (N2 n ps) ks r:=by
 unfold qH9 Crowd;cases wr with
 | true =>
   simp only[if_true,zBm,zC2];lia
 | false =>
   have e:(ks.filter λ k=>decide ((r:Int)<=qb7 n ps k))=ks.filter λ k=>decide (r<=N2 n ps k):=by
     apply List.filter_congr;intro k _
     have:=ql0 (ps:=ps) h1 k
     apply decide_eq_decide.mpr;lia
   simp only[Bool.false_eq_true,if_false,e,zC2];lia
theorem qG6.of{n:Int}{wr:Bool}{ps:Pr}(h1:1<=n)(h:∀ q,¬ Crowd n.toNat wr (N2 n ps) ks q):qG6 n wr ps ks:=λ r a=>by
 cases e:qH9 n wr ps ks (r:Int) with
 | false=>rfl
 | true=>exact absurd ((qao4 h1 a).mp e) (h r)
def qy1(C:γ):VSp:=Aw λ ds d=>∃ z n wr ps a ks,ds=[Ad z C n wr ps,.l a (N4 ks)]/\1<=n/\n<=64/\(∀ k∈ks,Aq k)/\ks.length<=1000/\qG6 n wr ps ks/\d=.non
theorem qy8(T:Txt K mg a):VFn P w K mg base 7 a.f19 a.d19 ["plan", "keys"] (qy1 a.C3):=by
 refine VFn.mk2 T.d19.F qm3 (wOf [true,true]) qb2 (by walk_at "l") (λ _ _ _ _ _ _ _ g=>⟨_,(Ab (Ak 2 qm3.nd (Aj T.d18 (qz0 T) qa1 (rm g) (vaN 0 (vaN 1 Ac)))) (Ag (sif (q2 (Am qk6 (qa8 _)) qo6 (vnm 2) A7) (Ag qk1) Av))),λ r Q s h=>?_⟩);obtain⟨d,⟨z,n,wr,c,e,f,rfl,i,j,k,m,o,rfl⟩,q⟩:=h;refine Au [Ad z a.C3 n wr c,.l e (N4 f),.u] rfl ?_;refine qb3 [Ad z a.C3 n wr c,.l e (N4 f),.non] (λ K p=>?_) ?_
 . exact qM2 (x:=Ad z a.C3 n wr c) (y:=.l e (N4 f)) (d:=.non) rfl rfl rfl ⟨z,n,wr,c,e,f,rfl,i,j,k,m,by rw[qN3 o];rfl⟩ rfl p
 exact if_v (b:=false) rfl nofun λ _=>q
theorem qf8:qa9 ["plan", "rooms", "key", "came", "room", "held"] ["plan", "rooms", "key"] (qa3 qv4):=by walk_at "s"
def qT8(C:γ):VSp:=λ ds Q _=>∃ z n wr ps g S key,ds=[Ad z C n wr ps,rL n g,.int key]/\1<=n/\n<=64/\Aq key/\(∀ k∈S,Aq k)/\Kept n.toNat wr (N2 n ps) g S/\¬ key∈S/\(∃ e,Gk n.toNat wr (N2 n ps) g key e) /\
 ∀ came g',Kept n.toNat wr (N2 n ps) g' (S++[key])->Q (.l false came) [Ad z C n wr ps,rL n g',.int key]
theorem qV0(T:Txt K mg a):VFn P w K mg base 7 a.f20 a.d20 ["plan", "rooms", "key"] (qT8 a.C3):=by
 refine VFn.mk2 T.d20.F qf8 (wOf [true,true,false]) (by walk_at "m") (by walk_at "l") (λ _ _ _ _ _ _ _ j=>⟨_,(Ab (Ak 3 qf8.nd (qa5 (Dk qa7))) (Ab (Ak 4 qf8.nd (qm2 0 T.d9 T.C5.cl (qj6 T) qa1 (rm j) (vaN 2 Ac))) (Ab (qX5 Nd (q2 (Am qk6 (qa8 _)) qo6 (v2 (Ap qb0) Ah (vnm 1) (vnm 4)) A7) (Ab (Ak 5 qf8.nd (qb4 (v2 (Ap qb0) Ah (vnm 1) (vnm 4)))) (Ab (sif (te (qm2 0 T.d11 T.C5.cl (qi5 T) qa1 (rm j) (vaN 4 (vaN 2 (vaN 5 Ac))))) (Ab (Dl (Ga 3 qM0 Ni Nj Nk qh1 (vaV (qa5 (F7 (qa2 (vnm 2) (qa2 (vnm 4) qa7 rfl) rfl))) Ac))) (Ab (Fc (qb4 (vnm 2)) (Eb (vpn 1) (vnm 4))) (Ag (Ak 2 qf8.nd (qb4 (vnm 5)))))) Av) (Ag (Ak 4 qf8.nd (qa5 (v2 (Al qj5) qj4 (v2 (Al ql8) ql7 (vnm 4) Af) (Bi rfl (vnm 0) T.C5.cl T.C6)))))))) (Ab (Dl (Ga 3 qM0 Ni Nj Nk qh1 (vaV (qa5 (F7 (qa2 (vnm 2) (qa2 (vnm 4) qa7 rfl) rfl))) Ac))) (Ab (Fc (qb4 (vnm 2)) (Eb (vpn 1) (vnm 4))) (Ag (At (emv 3)))))))),λ o Q J h=>?_⟩);obtain⟨z,n,wr,f,g,S,key,rfl,u,X,s,L,KP,A,⟨e,Fr⟩,q⟩:=h;have M:=Bk (ps:=f) u key;have H:∀ x∈S++[key],Aq x:=λ x v=>by
   rcases zAj.mp v with h | h
   . exact L x h
   rw[zAg.mp h];exact s
 have E:(S++[key]).Nodup:=zBt.mpr ⟨KP.h.1,(by simp),λ x v y B e=>A (by rw[<- zAg.mp B,<- e];exact v)⟩;refine Au [Ad z a.C3 n wr f,rL n g,.int key,.u,.u,.u] rfl ?_;refine qb3 [Ad z a.C3 n wr f,rL n g,.int key,.l false [],.u,.u] (λ K i=>i) ?_;refine qb3 [Ad z a.C3 n wr f,rL n g,.int key,.l false [],.int (N2 n f key:Nat),.u] (λ K i=>?_) ?_
 . exact qD9 (p:=Ad z a.C3 n wr f) (x:=.int key) (d:=.int (N2 n f key:Nat)) rfl (qd5 rfl) rfl rfl ⟨z,n,wr,f,key,rfl,u,s,by rw[ql0 u]⟩ rfl i
 refine qb9 (λ o=>∃ g2 c r came t,o=[Ad z a.C3 n wr f,rL n g2,.int c,.l false came,.int (r:Nat),t]/\Row.Walk n.toNat wr (N2 n f) (S++[key]) key e g2 c r/\g2 r=none/\came.length<=64) (λ K i=>?_) ?_
 . have W0:=KP.start A Fr
   refine qI8 (λ m o=>∃ g2 c r came t,o=[Ad z a.C3 n wr f,rL n g2,.int c,.l false came,.int (r:Nat),t]/\Row.Walk n.toNat wr (N2 n f) (S++[key]) key e g2 c r/\m=dist n.toNat (N2 n f key) e - dist n.toNat (N2 n f key) r/\came.length+m<=64) _ ⟨g,key,N2 n f key,[],_,rfl,W0,rfl,by have:=qe0 Fr.1 M;show 0+_<=64;lia⟩ ?_;rintro m o ⟨g2,c,r,came,t,rfl,W,rfl,N⟩ K2 G;have j:=W.hr;cases k:g2 r with
   | none =>
     refine qe9 (b:=false) (Ae (Ae rfl rfl (Bw j)) rfl (by rw[k];rfl)) ?_;exact i _ ⟨g2,c,r,came,t,rfl,W,k,by lia⟩
   | some y =>
     refine qe9 (b:=true) (Ae (Ae rfl rfl (Bw j)) rfl (by rw[k];rfl)) ?_;have v:wr=false->N2 n f c<=r:=λ h=>(W.ln h).2.1
     have B:wr=false->N2 n f y<=r:=λ h=>(W.ln h).2.2 r y j k
     have O:Aq c:=H c ((W.all c).mpr (.inl rfl));have R:Aq y:=H y ((W.all y).mpr (.inr ⟨r,j,k⟩));have Y:=W.lt k;have I:=W.nx k;refine Bu rfl ?_;refine qb3 [Ad z a.C3 n wr f,rL n g2,.int c,.l false came,.int (r:Nat),.int y] (λ K i=>?_) ?_
     . exact qo3 (d:=.int y) (Ae rfl rfl (by rw[Bw j,k];rfl)) rfl i
     refine qb9 (λ o=>∃ g3 C came3,o=[Ad z a.C3 n wr f,rL n g3,.int C,.l false came3,.int (r:Nat),.int y]/\Row.Walk n.toNat wr (N2 n f) (S++[key]) key e g3 C (Row.next n.toNat r)/\came3.length<=came.length+1) (λ K i=>?_) ?_
     . refine if_e (b:=qe3 n wr f (r:Nat) c y) (λ Q J q=>qaU3 (p:=Ad z a.C3 n wr f) (x:=.int (r:Nat)) (y:=.int c) (w:=.int y) rfl (qd5 rfl) rfl rfl rfl rfl rfl rfl ⟨z,n,wr,f,(r:Nat),c,y,rfl,u,by lia,by lia,O,R,rfl⟩ rfl q) (λ D=>?_) (λ D=>?_)
       . have U:=(qp7 u j v B).mp D
         refine qb3 [Ad z a.C3 n wr f,rL n g2,.int c,.l false (came++[.q [.int c,.int (r:Nat)]]),.int (r:Nat),.int y] (λ K i=>?_) ?_
         . exact qah3 (ys:=came) (d:=.q [.int c,.int (r:Nat)]) rfl rfl (by show came.length < 1000000;lia) i
         refine qb3 [Ad z a.C3 n wr f,rL n (Row.set g2 r c),.int c,.l false (came++[.q [.int c,.int (r:Nat)]]),.int (r:Nat),.int y] (λ K i=>?_) ?_
         . refine qz6 (d:=.int c) (ys:=N5 n.toNat g2) rfl rfl rfl rfl (qM6 j) ?_
           rw[qq0];exact i
         exact qo3 (d:=.int y) rfl rfl (i _ ⟨Row.set g2 r c,y,_,rfl,W.swap k U,by rw[zAk];exact zA4 _⟩)
       exact i _ ⟨g2,c,came,rfl,W.on k (λ h=>by rw[(qp7 u j v B).mpr h] at D;cases D),by lia⟩
     rintro o ⟨g3,C,came3,rfl,W3,V⟩;refine qs3 (d:=.int (Row.next n.toNat r:Nat)) (Ae (Ae rfl rfl rfl) (Ba rfl qd7) (by rw[Db (by lia),qL9 u j])) ?_;exact G _ _ (by rw[I];lia) ⟨g3,C,_,came3,_,rfl,W3,rfl,by rw[I];lia⟩
 rintro o ⟨g2,c,r,came,t,rfl,W,k,N⟩;have j:=W.hr;refine qb3 [Ad z a.C3 n wr f,rL n g2,.int c,.l false (came++[.q [.int c,.int (r:Nat)]]),.int (r:Nat),t] (λ K i=>?_) ?_
 . exact qah3 (ys:=came) (d:=.q [.int c,.int (r:Nat)]) rfl rfl (by show came.length < 1000000;lia) i
 refine qb3 [Ad z a.C3 n wr f,rL n (Row.set g2 r c),.int c,.l false (came++[.q [.int c,.int (r:Nat)]]),.int (r:Nat),t] (λ K i=>?_) ?_
 . refine qz6 (d:=.int c) (ys:=N5 n.toNat g2) rfl rfl rfl rfl (qM6 j) ?_
   rw[qq0];exact i
 exact q _ _ (W.done E k)
theorem qu9:qa9 ["self"] ["self"] (qa3 qh6):=by walk_at "s"
noncomputable def Gh(y:D):Option D:=match y with
 | .int k=>some (.int k)
 | _=>none
theorem qad3(N:Nat)(g:Nat->Option Int):(N5 N g).filterMap Gh=N4 ((Kz N).filterMap g):=by
 unfold N5 N4;rw[zCs,Lr];refine congrArg (λ f=>Mt f (Kz N)) (funext λ i=>?_);show Gh (De (g i))=(g i).map D.int;cases g i<;>rfl
def qu8(C CP:γ):VSp:=Aw λ ds d=>∃ zr n wr ps g dn,ds=[Ay zr C CP n wr ps g dn]/\n<=64/\d=.l false (N4 ((Kz n.toNat).filterMap g))
theorem qw2(T:Txt K mg a):VFn P w K mg base 1 a.f23 a.d23 ["self"] (qu8 a.C4 a.C3):=by
 refine VFn.mk2 T.d23.F qu9 (wOf [true]) qb2 (by walk_at "l") (λ _ _ _ _ _ _ _ u=>⟨_,(Ag (At (eAlt (ecP (NY:=["key"]) (src:=[none]) (Ix rfl (vpn 0) T.C7.cl T.Ca) (blk (λ i C j H0 m=>(A8 0 (show (["key"]:List Str).Nodup by decide +kernel))) (λ i C j H0 m=>(Ec (q2 (Am qk6 (qa8 _)) qo6 (vnm 0) A7))) (λ i C j H0 m=>(qb4 (vnm 0))))) (ecL (NY:=["key"]) (src:=[none]) (qb4 (Bi rfl (vnm 0) T.C7.cl T.Ca)) (blk (λ i C j H0 m=>(A8 0 (show (["key"]:List Str).Nodup by decide +kernel))) (λ i C j H0 m=>(Ec (q2 (Am qk6 (qa8 _)) qo6 (vnm 0) A7))) (λ i C j H0 m=>(qb4 (vnm 0)))))))),λ v Q x h=>?_⟩);obtain⟨d,⟨r,n,wr,s,g,t,rfl,z,rfl⟩,q⟩:=h;refine Au [Ay r a.C4 a.C3 n wr s g t] rfl ?_;have step:∀(y:D),y∈N5 n.toNat g->∀(d:D)(c:Ds)(R:Ds->Ds->Prop),(∀ ι',(∃ d,ι'=[d])->R (c++(Gh y).toList) ι')->c.length < big->gNm 0 y [d] λ ι1=>ttV (f2 Hm (rdN 0) (kC .non)) ι1 (λ b ι2=>if b=true then Bq (rdN 0) ι2 (λ d ι3=>c.length < big/\R (c++[d]) ι3) (λ _ _=>False) else R c ι2) (λ _ _=>False):=λ y o d c R p f=>by
   have this:=p [y] ⟨_,rfl⟩;refine qi6 ?_;rcases qaj8 o with rfl | ⟨k,rfl⟩
   . have this:R (c++[]) _:=this
     rw[zAe] at this;exact qe9 (b:=false) (Ae rfl rfl rfl) (E6 (by decide) this)
   exact qe9 (b:=true) (Ae rfl rfl rfl) (Bu rfl (qt7 (d:=.int k) rfl rfl ⟨f,this⟩))
 cases r with
 | false =>
   refine qi2 (.inl (qa0 (a:=(0,[1])) (by show (D.fidx a.C4 "held" (rA a n wr s g t)).map (λ n=>(0,[n]))=_;rw[qR2];rfl) (qa0 (a:=D.l false (N5 n.toNat g)) rfl (qa0 (a:=N5 n.toNat g) rfl ⟨qx0 _ _,λ w=>?_⟩))));refine qe2 (λ ι=>∃ d,ι=[d]) Gh _ [] _ (by show 0+_ < 1000000;rw[qm7];lia) ⟨_,rfl⟩ (λ y o ι c ⟨d,e⟩ R p f=>e ▸ step y o d c R p f) ?_;rintro ι ⟨d,rfl⟩;rw[qad3,zB0];exact qa0 (qaX1 rfl) q
 | true =>
   refine qi2 (.inr (qt7 (d:=.l true (N5 n.toNat g)) (Ba rfl qu1) rfl (qa0 (a:=N5 n.toNat g) rfl ⟨qx0 _ _,?_⟩)));refine qe2 (λ ι=>∃ d,ι=[d]) Gh _ [] _ (by show 0+_ < 1000000;rw[qm7];lia) ⟨_,rfl⟩ (λ y o ι c ⟨d,e⟩ R p f=>e ▸ step y o d c R p f) ?_;rintro ι ⟨d,rfl⟩;rw[qad3,zB0];exact q
theorem qY9:qa9 ["self", "key"] ["self", "key"] (qa3 qC5):=by walk_at "s"
theorem qan4{C CP:γ}{n:Int}{wr:Bool}{ps:Pr}{g:Nat->Option Int}{dn:Ds}:D.fidx C "done" (Ay false C CP n wr ps g dn)=some 2:=by
 show (if C=C then List.findIdx? (λ q:Str×D=>("done" : Str) == q.1) [("plan",Ad true CP n wr ps),("held",rL n g),("done",.l false dn)] else none)=_;rw[if_pos rfl];rfl
def qY1(C CP:γ):VSp:=λ ds Q _=>∃ n wr ps g dn S k,ds=[Ay false C CP n wr ps g dn,.int k]/\1<=n/\n<=64/\Aq k/\(∀ x∈S,Aq x)/\Kept n.toNat wr (N2 n ps) g S/\¬ k∈S/\(∀ q,¬ Crowd n.toNat wr (N2 n ps) (S++[k]) q)/\dn.length<=1000 /\
 ∀ came g',Kept n.toNat wr (N2 n ps) g' (S++[k])->Q (.l false came) [Ay false C CP n wr ps g' (dn++[.q [.str "put",.int k]]),.int k]
theorem qaa5(T:Txt K mg a):VFn P w K mg base 8 a.f25 a.d25 ["self", "key"] (qY1 a.C4 a.C3):=by
 refine VFn.mk2 T.d25.F qY9 (wOf [true,true]) (by walk_at "m") (by walk_at "l") (λ _ _ _ _ _ _ _ r=>⟨_,(Ab (sif (q2v (A6 qk6 (qa8 _)) (Am qk6 (qa8 _)) qo6 (qm2 0 T.d24 T.C7.cl (qf7 T) qa1 (rm r) (vaN 1 Ac)) A7) (Ag qk1) Av) (Ab (Dl (Aj T.d19 (qy8 T) qa1 (rm r) (vaV (qb4 (Bi rfl (vnm 0) T.C7.cl T.C9)) (vaV (e2v (Al ql8) ql7 (qaf7 0 T.d23 T.C7.cl (qw2 T) qa1 (rm r)) (Dk (qa2 (vnm 1) qa7 rfl))) Ac)))) (Ab (Dl (I8 qM0 Ni Nj Nk qh1 (Ix rfl (vpn 0) T.C7.cl T.Ck) (vaV (qa5 (F7 (qa2 F5 (qa2 (vnm 1) qa7 rfl) rfl))) Ac))) (Ag (At (Aj T.d20 (qV0 T) qa1 (rm r) (vaV (qb4 (Bi rfl (vnm 0) T.C7.cl T.C9)) (vaB (Ix rfl (vpn 0) T.C7.cl T.Ca) (vaN 1 Ac))))))))),λ L Q M h=>?_⟩);obtain⟨n,wr,b,g,f,S,k,rfl,s,t,u,A,KP,j,C,H,q⟩:=h;have E:=KP.perm;have N:((Kz n.toNat).filterMap g).length<=64:=by
   have:=La g (Kz n.toNat)
   rw[zAv] at this;lia
 refine Au [rA a n wr b g f,.int k] rfl ?_;refine qg7 false (λ Q q=>qC9 ?_) nofun λ _=>?_
 . refine qD9 (p:=rA a n wr b g f) (x:=.int k) (d:=.non) rfl (qt0 rfl) rfl rfl ⟨false,n,wr,b,g,f,k,rfl,u,(qaj7 λ i I e=>j ((KP.h.2 k).mpr ⟨i,I,e⟩)).symm⟩ rfl ?_
   exact qa0 (a:=D.bl false) rfl (qa0 (a:=false) rfl q)
 refine qb3 [rA a n wr b g f,.int k] (λ K v=>qB1 (qn0 ?_)) ?_
 . refine qd0 (y:=Ad true a.C3 n wr b) (Ba rfl ql2) rfl (qh3 (qai4 ?_))
   refine qaA2 (p:=rA a n wr b g f) (d:=kL ((Kz n.toNat).filterMap g)) rfl (qt0 rfl) ⟨false,n,wr,b,g,f,rfl,t,rfl⟩ rfl ?_;refine qa0 (a:=D.l false (N4 ((Kz n.toNat).filterMap g++[k]))) (qaX8 (z:=false) (z':=false) (B:=[k]) (by show _+1<=1000;lia)) (qc1 ?_);refine⟨_,⟨true,n,wr,b,false,_,rfl,s,t,λ x J=>?_,by rw[zAk];show _+1<=1000;lia,qG6.of s λ q c=>C q (c.perm (E.append_right [k])),rfl⟩,v⟩;rcases zAj.mp J with h | h
   . exact A x (E.subset h)
   rw[zAg.mp h];exact u
 refine qb3 [rA a n wr b g (f++[.q [.str "put",.int k]]),.int k] (λ K v=>qB1 ?_) ?_
 . refine qab1 (i:=0) (p:=[2]) (ys:=f) (d0:=rA a n wr b g f) (by show (D.fidx a.C4 "done" (rA a n wr b g f)).map (λ n=>(0,[n]))=_;rw[qan4];rfl) rfl rfl ?_
   exact qd9 (y:=.q [.str "put",.int k]) rfl (qc1 (qa0 (a:=(f++[D.q [.str "put",.int k]],D.non)) (if_pos (show f.length < big by unfold big;lia)) v))
 generalize f++[.q [.str "put",.int k]]=o at q ⊢;refine qi2 (qn0 (qd0 (y:=Ad true a.C3 n wr b) (Ba rfl ql2) rfl ?_));refine qa0 (a:=(0,[1])) (by show (D.fidx a.C4 "held" (rA a n wr b g o)).map (λ n=>(0,[n]))=_;rw[qR2];rfl) (qa0 (a:=D.l false (N5 n.toNat g)) rfl ⟨rfl,λ w=>?_⟩);refine qb6 (x:=.int k) rfl (qc1 (qa0 (a:=D.int k) rfl ?_));refine⟨true,n,wr,b,g,S,k,rfl,s,t,u,A,KP,j,?_,λ came G K'=>?_⟩
 . by_cases h:∃ e,Gk n.toNat wr (N2 n b) g k e
   . exact h
   obtain⟨q,c⟩:=KP.crowd λ e z=>h ⟨e,z⟩
   exact absurd c (C q)
 refine qa0 (a:=[rA a n wr b G o,.int k]) ?_ (q came G K');show As (.pl 0 [1] w::_) _ _=_;rw[qaE0 rfl];rfl
theorem qt5:qa9 ["self"] ["self"] (qa3 qg4):=by walk_at "s"
def qt3(C CP:γ):VSp:=Aw λ ds d=>∃ zr n wr ps g dn,ds=[Ay zr C CP n wr ps g dn]/\d=.l false (N5 n.toNat g)
theorem qj9(T:Txt K mg a):VFn P w K mg base 1 a.f22 a.d22 ["self"] (qt3 a.C4 a.C3):=by
 refine VFn.mk2 T.d22.F qt5 (wOf [true]) qb2 (by walk_at "l") (λ _ _ _ _ _ _ _ f=>⟨_,(Ag (At (qa5 (Ev qd2 qx7.ops T.Ch (qa2 (Bi rfl (vnm 0) T.C7.cl T.Ca) qa7 rfl))))),λ i Q j h=>?_⟩);obtain⟨d,⟨b,n,wr,c,g,e,rfl,rfl⟩,q⟩:=h;refine Au [Ay b a.C4 a.C3 n wr c g e] rfl ?_;refine qi3 (rL n g) ?_ q;unfold A4 Ax;rw[Ba rfl qu1];exact qk2 (qx0 _ _)
theorem qY7:qa9 ["row"] ["row"] (qa3 qC3):=by walk_at "s"
def farE(n:Int)(wr:Bool)(ps:Pr)(y:D):Option D:=match y with
 | .q [.int i,.int k]=>some (.q [.int k,Dg (An n wr ps k i)])
 | _=>none
def qX9(C CP:γ):VSp:=Aw λ ds d=>∃ zr n wr ps g dn,ds=[Ay zr C CP n wr ps g dn]/\1<=n/\n<=64/\(∀ i k,i < n.toNat->g i=some k->Aq k)/\d=.l false ((enD (N5 n.toNat g)).filterMap (farE n wr ps))
theorem qG3(T:Txt K mg a):VFn P w K mg base 6 a.f27 a.d27 ["row"] (qX9 a.C4 a.C3):=by
 refine VFn.mk2 T.d27.F qY7 (wOf [true]) qb2 (by walk_at "l") (λ _ _ _ _ _ _ _ t=>⟨_,(Ag (At (ecE (NY:=["room", "key", "row"]) (src:=[none,none,some 0]) T.Cj (qaf7 0 T.d22 T.C7.cl (qj9 T) qa1 (rm t)) (blk (λ u C v H0 z=>(Ez (n:=2) rfl (qp3 (A8 0 (show (["room", "key", "row"]:List Str).Nodup by decide +kernel)) (qp3 (A8 1 (show (["room", "key", "row"]:List Str).Nodup by decide +kernel)) Ey)))) (λ u C v H0 z=>(Ec (q2 (Am qk6 (qa8 _)) qo6 (vnm 1) A7))) (λ u C v H0 z=>(Gp (vaV (qb4 (vnm 1)) (vaV (qaD1 T.d10 T.C5.cl (qg0 T) L2.qa1 (rm t) (Bi rfl (vnm 2) T.C7.cl T.C9) (vaN 1 (vaN 0 Ac))) Ac)))))))),λ I Q J h=>?_⟩);obtain⟨d,⟨f,n,wr,c,g,j,rfl,A,L,B,rfl⟩,q⟩:=h;refine Au [Ay f a.C4 a.C3 n wr c g j] rfl ?_;refine qi2 ?_;refine qaA2 (p:=Ay f a.C4 a.C3 n wr c g j) (d:=rL n g) rfl (qt0 rfl) ⟨f,n,wr,c,g,j,rfl,rfl⟩ rfl (qa0 (a:=N5 n.toNat g) rfl ⟨qx0 _ _,?_⟩);refine qe2 (λ ι=>∃ d e,ι=[d,e,Ay f a.C4 a.C3 n wr c g j]) (farE n wr c) _ [] _ (by show 0+_ < 1000000;rw[qaA5,qm7];lia) ⟨_,_,rfl⟩ ?_ ?_
 . rintro y E ι o ⟨d,e,rfl⟩ R G r
   obtain⟨i,H⟩:=List.getElem?_of_mem E;obtain⟨s,rfl⟩:=en_at H;have this:=G [.int (i:Nat),De (g i),Ay f a.C4 a.C3 n wr c g j] ⟨_,_,rfl⟩;refine qs2 ?_;cases m:g i with
   | none =>
     rw[m] at this;have this:R (o++[]) _:=this;rw[zAe] at this;exact qe9 (b:=false) (Ae rfl rfl rfl) (E6 (by decide) this)
   | some k =>
     rw[m] at this;have this:R (o++[D.q [.int k,Dg (An n wr c k (i:Nat))]]) [.int (i:Nat),.int k,Ay f a.C4 a.C3 n wr c g j]:=this;refine qe9 (b:=true) (Ae rfl rfl rfl) (Bu rfl (qai2 (qd0 (y:=.int k) rfl rfl (qh3 ?_))));refine qM1 (d:=Ad true a.C3 n wr c) (Ba rfl ql2) rfl (qd5 rfl) (qb6 (x:=.int k) rfl (qb6 (x:=.int (i:Nat)) rfl (qc1 ?_)));refine qa0 (a:=D.int (i:Nat)) rfl (qa0 (a:=D.int k) rfl ?_);refine⟨_,⟨true,n,wr,c,k,(i:Nat),rfl,A,B i k s m,by lia,by lia,rfl⟩,?_⟩;exact qa0 (a:=[.int (i:Nat),.int k,Ay f a.C4 a.C3 n wr c g j]) rfl (qc1 ⟨lt2,r,this⟩)
 rintro ι ⟨d,e,rfl⟩;rw[zB0];exact q
theorem qi1:qa9 ["row", "best", "key", "far"] ["row"] (qa3 qv3):=by walk_at "s"
def Dh(n:Int)(ps:Pr)(g:Nat->Option Int):Pr:=(Kz n.toNat).filterMap λ i=>(g i).map λ k=>(k,((dist n.toNat (N2 n ps k) i:Nat):Int))
theorem en_rl(N:Nat)(g:Nat->Option Int):enD (N5 N g)=(Kz N).map λ i=>D.q [.int (i:Nat),De (g i)]:=by
 apply List.ext_getElem?;intro i;by_cases h:i < N
 . unfold enD
   rw[zAy,List.getElem?_zipIdx,qx1 h,zAy,List.getElem?_range h];simp
 rw[zCb (by rw[qaA5,qm7];lia),zCb (by rw[zA8,zAv];lia)]
theorem qae7{α β:Type}{f g:α->Option β}:∀ l:List α,(∀ x∈l,f x=g x)->l.filterMap f=l.filterMap g
 | [],_=>rfl
 | a::l,h=>by rw[zAz,zAz,h a zA7,qae7 l λ x b=>h x (zA3 _ b)]
theorem qat7{n:Int}{wr:Bool}{ps:Pr}{g:Nat->Option Int}(b:1<=n)(c:wr=false->∀ i k,i < n.toNat->g i=some k->N2 n ps k<=i):(enD (N5 n.toNat g)).filterMap (farE n wr ps)=N6 (Dh n ps g):=by
 rw[en_rl,zCs];unfold Dh N6;rw[Lr];refine qae7 _ λ i a=>?_
 have a:=zA9.mp a;show farE n wr ps (.q [.int (i:Nat),De (g i)])=((g i).map λ k=>(k,((dist n.toNat (N2 n ps k) i:Nat):Int))).map λ p=>D.q [.int p.1,.int p.2]
 cases h:g i with
 | none=>rfl
 | some k =>
   show some (D.q [.int k,Dg (An n wr ps k (i:Nat))])=_;rw[qp5 b a λ d=>c d i k a h];rfl
theorem qaC3{n:Int}{ps:Pr}{g:Nat->Option Int}:q∈Dh n ps g↔∃ i,i < n.toNat/\g i=some q.1/\q.2=((dist n.toNat (N2 n ps q.1) i:Nat):Int):=by
 unfold Dh;rw[zCa];constructor
 . rintro⟨i,a,e⟩
   obtain⟨k,b,rfl⟩:=zAa.mp e;exact⟨i,zA9.mp a,b,rfl⟩
 rintro⟨i,a,c,e2⟩;refine⟨i,zA9.mpr a,?_⟩;rw[c];show some (q.1,_)=some q;rw[<- e2]
theorem qaC4{n:Int}{ps:Pr}{g:Nat->Option Int}:(Dh n ps g).length<=n.toNat:=by
 have:=La (λ i=>(g i).map λ k=>(k,((dist n.toNat (N2 n ps k) i:Nat):Int))) (Kz n.toNat)
 rwa[zAv] at this
theorem qaH9{ps:Pr}(h:(N6 ps)[i]? = some y):∃ q,ps[i]? = some q/\y=.q [.int q.1,.int q.2]:=by
 unfold N6 at h;rw[zAy] at h;cases e:ps[i]? with
 | none=>rw[e] at h;cases h
 | some q=>rw[e] at h;exact⟨q,rfl,(Nc h).symm⟩
theorem qaL5(ps:Pr):(N6 ps).length=ps.length:=zA8 _
noncomputable def Gi(b:Option (Int×Int))(q:Int×Int):Option (Int×Int):=match b with
 | none=>some q
 | some p=>if p.2 < q.2 then some q else some p
def bst(l:Pr):Option (Int×Int):=l.foldl Gi none
theorem qaD9{l:Pr}(h:l[i]? = some q):bst (l.take (i+1))=Gi (bst (l.take i)) q:=by
 unfold bst;rw[zBk,h,Mj];rfl
def E7(N:Nat)(g:Nat->Option Int):Option (Int×Int)->D
 | none=>.non
 | some p=>.q [.int p.2,.int p.1,Dp N g p.1]
theorem qaG7{g:Nat->Option Int}(hi:i < N)(e:g i=some k)(inj:∀ j,j < N->g j=some k->j=i):Dp N g k=.int (i:Nat):=by
 have:El N g k=some i:=by
   refine List.findIdx?_eq_some_iff_getElem.mpr ⟨by rw[zAv];exact hi,?_,λ j a=>?_⟩
   . rw[Mg];exact zAb e
   rw[Mg];intro z
   have:=inj j (by lia) (zAc z)
   lia
 unfold Dp;rw[this]
def E8(n:Int)(ps:Pr)(g:Nat->Option Int)(m:Nat):Pr:=(Kz m).filterMap λ i=>(g i).map λ k=>(k,((dist n.toNat (N2 n ps k) i:Nat):Int))
theorem qag6{n:Int}{ps:Pr}{g:Nat->Option Int}:∀ m:Nat,(E8 n ps g m=[]/\∀ j,j < m->g j=none)∨∃ i k,i < m/\g i=some k/\bst (E8 n ps g m)=some (k,((dist n.toNat (N2 n ps k) i:Nat):Int))/\(∀ j b,j < m->g j=some b->dist n.toNat (N2 n ps b) j<=dist n.toNat (N2 n ps k) i)/\∀ j b,j < i->g j=some b->dist n.toNat (N2 n ps b) j < dist n.toNat (N2 n ps k) i
 | 0=>.inl ⟨rfl,λ j c=>absurd c (zC5 j)⟩
 | m+1=>by
   have d:=qag6 (n:=n) (ps:=ps) (g:=g) m;have e:E8 n ps g (m+1)=E8 n ps g m++((g m).map λ k=>(k,((dist n.toNat (N2 n ps k) m:Nat):Int))).toList:=by
     unfold E8;rw[zCi,Ly,zAz,Lp];cases g m<;>rfl
   cases h:g m with
   | none =>
     rw[h] at e;have e:E8 n ps g (m+1)=E8 n ps g m:=by rw[e];exact zAe _
     rw[e];rcases d with⟨h1,h2⟩ | ⟨i,k,h1,h2,h3,h4,h5⟩
     . refine .inl ⟨h1,λ j c=>?_⟩
       by_cases z:j=m
       . subst z;exact h
       exact h2 j (by lia)
     refine .inr ⟨i,k,by lia,h2,h3,λ j b c a=>?_,h5⟩;by_cases z:j=m
     . subst z;rw[h] at a;cases a
     exact h4 j b (by lia) a
   | some k =>
     rw[h] at e;have e:E8 n ps g (m+1)=E8 n ps g m++[(k,((dist n.toNat (N2 n ps k) m:Nat):Int))]:=e;have f:bst (E8 n ps g (m+1))=Gi (bst (E8 n ps g m)) (k,((dist n.toNat (N2 n ps k) m:Nat):Int)):=by
       rw[e];unfold bst;rw[Mj];rfl
     rcases d with⟨h1,h2⟩ | ⟨i,k0,h1,h2,h3,h4,h5⟩
     . refine .inr ⟨m,k,by lia,h,by rw[f,h1];rfl,λ j b c a=>?_,λ j b c a=>?_⟩
       . by_cases z:j=m
         . subst z;rw[h] at a;cases a;exact zA4 _
         rw[h2 j (by lia)] at a;cases a
       rw[h2 j c] at a;cases a
     rw[f,h3];by_cases l:dist n.toNat (N2 n ps k0) i < dist n.toNat (N2 n ps k) m
     . refine .inr ⟨m,k,by lia,h,if_pos (by lia),λ j b c a=>?_,λ j b c a=>?_⟩
       . by_cases z:j=m
         . subst z;rw[h] at a;cases a;exact zA4 _
         have:=h4 j b (by lia) a;lia
       have:=h4 j b (by lia) a;lia
     refine .inr ⟨i,k0,by lia,h2,if_neg (by lia),λ j b c a=>?_,h5⟩;by_cases z:j=m
     . subst z;rw[h] at a;cases a;lia
     exact h4 j b (by lia) a
def qT7(C CP:γ):VSp:=Aw λ ds d=>∃ zr n wr ps g dn,ds=[Ay zr C CP n wr ps g dn]/\1<=n/\n<=64/\(∀ i k,i < n.toNat->g i=some k->Aq k)/\(wr=false->∀ i k,i < n.toNat->g i=some k->N2 n ps k<=i)/\d=E7 n.toNat g (bst (Dh n ps g))
theorem qU9(T:Txt K mg a):VFn P w K mg base 7 a.f28 a.d28 ["row"] (qT7 a.C4 a.C3):=by
 refine VFn.mk2 T.d28.F qi1 (wOf [true]) qb2 (by walk_at "l") (λ _ _ _ _ _ _ _ A=>⟨_,(Ab (Ak 1 qi1.nd (qa5 A7)) (Ab (I9 Nd (Aj T.d27 (qG3 T) qa1 (rm A) (vaN 0 Ac)) (Ez (n:=2) rfl (qp3 (A8 2 qi1.nd) (qp3 (A8 3 qi1.nd) Ey))) (Ag (sif (tor (q2 (Am Br (qa8 _)) B6 (vnm 1) A7) (Iv (q2 (Am Bp (qa8 _)) Bz (vnm 3) (v2 (Ap qb0) Ah (vnm 1) Af)))).te (Ag (Ak 1 qi1.nd (Gp (vaV (qb4 (vnm 3)) (vaV (qb4 (vnm 2)) (vaV (qm2 0 T.d24 T.C7.cl (qf7 T) qa1 (rm A) (vaN 2 Ac)) Ac)))))) Av))) (Ag (At (emv 1))))),λ s Q E h=>?_⟩);obtain⟨d,⟨m,n,wr,c,g,r,rfl,B,G,C,H,rfl⟩,q⟩:=h;refine Au [Ay m a.C4 a.C3 n wr c g r,.u,.u,.u] rfl ?_;refine qb3 [Ay m a.C4 a.C3 n wr c g r,.non,.u,.u] (λ K v=>v) ?_;refine qb9 (λ s=>∃ t u,s=[Ay m a.C4 a.C3 n wr c g r,E7 n.toNat g (bst (Dh n c g)),t,u]) (λ K v=>?_) ?_
 . refine qaL1 (x:=Ay m a.C4 a.C3 n wr c g r) (d:=.l false (N6 (Dh n c g))) rfl ⟨m,n,wr,c,g,r,rfl,B,G,C,by rw[qat7 B H]⟩ rfl ?_
   refine qa0 (a:=N6 (Dh n c g)) rfl ⟨qk8 _,?_⟩;refine qd6 (λ i s=>∃ t u,s=[Ay m a.C4 a.C3 n wr c g r,E7 n.toNat g (bst ((Dh n c g).take i)),t,u]) _ 0 _ ⟨_,_,rfl⟩ ?_ ?_
   . rintro i x I s ⟨t,u,rfl⟩ K2 e
     rw[zAi] at e;obtain⟨⟨k,f⟩,D,rfl⟩:=qaH9 I;obtain⟨j,J,L,_⟩:=qaC3.mp (zB4 D);rw[qaD9 D] at e;rw[zAi];refine qs2 ?_;generalize bst ((Dh n c g).take i)=o at e ⊢;refine Au [Ay m a.C4 a.C3 n wr c g r,E7 n.toNat g o,.int k,.int f] rfl ?_;have set:∀ K:Ds->Prop,K [Ay m a.C4 a.C3 n wr c g r,E7 n.toNat g (some (k,f)),.int k,.int f]->Dt (Ha (tbV (Bq (rdN 3)) (tbV (Bq (rdN 2)) (tbV (qu5 a.C4 "room_of" (qo1 a.C4 a.C3) [] 0 (tbN 2 A9)) A9)))) (gNm 1) { (Jc (wOf [true]) [Ay m a.C4 a.C3 n wr c g r] Q E) with nx:=K,ct:=K,bk:=K } [Ay m a.C4 a.C3 n wr c g r,E7 n.toNat g o,.int k,.int f]:=λ K v=>by
       refine qi0 (qai2 (qd0 (y:=.int f) rfl rfl (qd0 (y:=.int k) rfl rfl (qh3 ?_))));refine qD9 (p:=Ay m a.C4 a.C3 n wr c g r) (x:=.int k) rfl (qt0 rfl) rfl rfl ⟨m,n,wr,c,g,r,k,rfl,C j k J L,rfl⟩ rfl ?_;exact qc1 ⟨lt3,v⟩
     cases o with
     | none =>
       refine Hf true (λ Q q=>qO5 true true (λ Q q=>qe9 (b:=true) (Ae rfl rfl rfl) q) nofun q) (λ _=>?_) nofun;exact set _ (e _ ⟨_,_,rfl⟩)
     | some p =>
       refine Hf (decide (p.2 < f)) (λ Q q=>qO5 false (decide (p.2 < f)) (λ Q q=>qe9 (b:=false) (Ae rfl rfl rfl) q) (λ _ Q q=>qe9 (b:=decide (p.2 < f)) (Ae rfl (Ae rfl rfl rfl) rfl) q) q) (λ h=>?_) λ h=>?_
       . have z:Gi (some p) (k,f)=some (k,f):=if_pos (zAc h)
         rw[z] at e;exact set _ (e _ ⟨_,_,rfl⟩)
       have z:Gi (some p) (k,f)=some p:=if_neg (zB8 h);rw[z] at e;exact e _ ⟨_,_,rfl⟩
   rintro s ⟨t,u,rfl⟩;rw[zAi,qaL5,zC1];exact v _ ⟨_,_,rfl⟩
 rintro s ⟨t,u,rfl⟩;have M:(E7 n.toNat g (bst (Dh n c g))).known=true:=by cases bst (Dh n c g)<;>rfl
 exact qi2 (mv_to (qe5 rfl M) q)
theorem qY8:qa9 ["row"] ["row"] (qa3 qC4):=by walk_at "s"
noncomputable def sndE(y:D):Option D:=match y with
 | .q [_,d]=>some d
 | _=>none
theorem qaq1:∀ ps:Pr,(N6 ps).filterMap sndE=N4 (ps.map (·.2))
 | []=>rfl
 | p::r=>by
   show (D.int p.2)::(N6 r).filterMap sndE=_;rw[qaq1 r];rfl
theorem qav6(ks:List Int):gSum (kL ks)=some (.int ks.sum):=by
 show (intsD (N4 ks)).map (λ a=>D.int a.sum)=_;rw[qG8];rfl
theorem qaP1{K:Ds->Ds->Prop}{ps:Pr}{b c:D}(n:ps.length < 1000)(h:∀ d e,K (N4 (ps.map (·.2))) [d,e]):Dz (F9 2 (qz5 (gNm 0) (qz5 (gNm 1) Fh))) qYes (Bq (rdN 1)) K (N6 ps) [] [b,c]:=by
 refine qe2 (λ ι=>∃ d e,ι=[d,e]) sndE _ [] _ (by show 0+_ < 1000000;rw[qaL5];lia) ⟨_,_,rfl⟩ ?_ ?_
 . rintro y g ι j ⟨d,e,rfl⟩ R l a
   obtain⟨i,m⟩:=List.getElem?_of_mem g;obtain⟨⟨k,f⟩,o,rfl⟩:=qaH9 m;have this:=l [.int k,.int f] ⟨_,_,rfl⟩;exact qs2 (qF2 (Bu rfl (qt7 (d:=.int f) rfl rfl ⟨a,this⟩)))
 rintro ι ⟨d,e,rfl⟩;rw[qaq1,zB0];exact h _ _
def qY0(C CP:γ):VSp:=Aw λ ds d=>∃ zr n wr ps g dn,ds=[Ay zr C CP n wr ps g dn]/\1<=n/\n<=64/\(∀ i k,i < n.toNat->g i=some k->Aq k)/\(wr=false->∀ i k,i < n.toNat->g i=some k->N2 n ps k<=i)/\d=.int ((Dh n ps g).map (·.2)).sum
theorem qaa4(T:Txt K mg a):VFn P w K mg base 7 a.f29 a.d29 ["row"] (qY0 a.C4 a.C3):=by
 refine VFn.mk2 T.d29.F qY8 (wOf [true]) qb2 (by walk_at "l") (λ _ _ _ _ _ _ _ m=>⟨_,(Ag (At (ebi (qN5 rfl) qaD3.ops T.Cw (Da (vaV (ecL (NY:=["key", "far"]) (src:=[none,none]) (Aj T.d27 (qG3 T) qa1 (rm m) (vaN 0 Ac)) (blk (λ f C i H0 j=>(Ez (n:=2) rfl (qp3 (A8 0 (show (["key", "far"]:List Str).Nodup by decide +kernel)) (qp3 (A8 1 (show (["key", "far"]:List Str).Nodup by decide +kernel)) Ey)))) (λ f C i H0 j=>Dn) (λ f C i H0 j=>(qb4 (vnm 1))))) Ac))))),λ s Q t h=>?_⟩);obtain⟨d,⟨c,n,wr,b,g,e,rfl,k,o,p,r,rfl⟩,q⟩:=h;refine Au [Ay c a.C4 a.C3 n wr b g e] rfl ?_;refine qi2 (Fl (qh3 ?_));refine qaL1 (x:=Ay c a.C4 a.C3 n wr b g e) (d:=.l false (N6 (Dh n b g))) rfl ⟨c,n,wr,b,g,e,rfl,k,o,p,by rw[qat7 k r]⟩ rfl ?_;refine qa0 (a:=N6 (Dh n b g)) rfl ⟨qk8 _,?_⟩;refine qaP1 (by have:=qaC4 (n:=n) (ps:=b) (g:=g);lia) λ _ _=>?_
 exact qc1 (qa0 (qav6 _) q)
theorem qh5:qa9 ["row", "key"] ["row", "key"] (qa3 qc3):=by walk_at "s"
def qh4(C:γ):VSp:=Aw λ ds d=>∃ r k,ds=[r,.int k]/\r.isC C=some (.bl true)/\Aq k/\d=.non
theorem qh7(T:Txt K mg a):VFn P w K mg base 4 a.f26 a.d26 ["row", "key"] (qh4 a.C4):=by
 refine VFn.mk2 T.d26.F qh5 (wOf [true,true]) qb2 (by walk_at "l") (λ _ _ _ _ _ _ _ c=>⟨_,(Ab (sif (B9 (tv (vbi (qag5 T.D5 T.C7.cl) qaO7.ops T.C8 (qa2 (vnm 0) (qa2 (vcls a.C4 T.C7.m) qa7 rfl) rfl)))) (Ag qk1) Av) (Ag (sif (B9 (te (Aj T.d3 (qc0 T) qa1 (rm c) (vaN 1 Ac)))) (Ag qk1) Av))),λ i Q e h=>?_⟩);obtain⟨d,⟨r,k,rfl,b,g,rfl⟩,q⟩:=h;refine Au [r,.int k] rfl ?_;refine qat4 (f:=A4 (fx2 (Iu a.C4)) (Ax (rdN 0) (Ax (kC (D.adr a.C4)) λ _=>some []))) ?_ ?_
 . unfold A4 Ax
   rw[rd0 (qam5 b)];show (if a.C4=a.C4 then r.isC a.C4 else none)=_;rw[if_pos rfl,b]
 exact qH2 (λ Q e q=>qD1 (x:=.int k) (d:=.bl true) rfl (Jo g) rfl q) q
theorem qg2:qa9 ["row", "key", "rooms", "home", "first"] ["row", "key"] (qa3 qq6):=by walk_at "s"
def Jp(n:Int)(wr:Bool)(ps:Pr)(g:Nat->Option Int)(r:Nat)(k:Int)(s:Nat):Prop:=s < n.toNat/\(wr=false->s<=N2 n ps k)/\∀ S:List Int,(∀ i x,i < n.toNat->g i=some x->x∈S)->dist n.toNat s (N2 n ps k)+1+dist n.toNat (N2 n ps k) r<=(S.filter λ y=>decide (dist n.toNat s (N2 n ps y)<=dist n.toNat s (N2 n ps k))).length
def qJ5(C CP:γ):VSp:=λ ds Q _=>∃ zr n wr ps g dn S key,ds=[Ay zr C CP n wr ps g dn,.int key]/\1<=n/\n<=64/\(∀ x∈S,Aq x)/\Kept n.toNat wr (N2 n ps) g S/\key∈S/\∀ i s,i < n.toNat->g i=some key->Jp n wr ps g i key s->Q (.q [.int (s:Nat),.int (N2 n ps key:Nat)]) ds
theorem qL5(T:Txt K mg a):VFn P w K mg base 6 a.f30 a.d30 ["row", "key"] (qJ5 a.C4 a.C3):=by
 refine VFn.mk2 T.d30.F qg2 (wOf [true,true]) (by walk_at "m") (by walk_at "l") (λ _ _ _ _ _ _ _ B=>⟨_,(Ab (Dl (Aj T.d26 (qh7 T) qa1 (rm B) (vaN 0 (vaN 1 Ac)))) (Ab (sif (q2v (A6 Br (qa8 _)) (Am Br (qa8 _)) B6 (qm2 0 T.d24 T.C7.cl (qf7 T) qa1 (rm B) (vaN 1 Ac)) A7) (Ag qk1) Av) (Ab (Ak 2 qg2.nd (qaf7 0 T.d22 T.C7.cl (qj9 T) qa1 (rm B))) (Ab (Ak 3 qg2.nd (qaD1 T.d9 T.C5.cl (qj6 T) qa1 (rm B) (Bi rfl (vnm 0) T.C7.cl T.C9) (vaN 1 Ac))) (Ab (Ak 4 qg2.nd (qb4 (vnm 3))) (Ab (qX5 Nd (q2v (A6 Bp (qa8 _)) (Am Bp (qa8 _)) Bz (qaD1 T.d10 T.C5.cl (qg0 T) qa1 (rm B) (Bi rfl (vnm 0) T.C7.cl T.C9) (vaV (qb4 (v2 (Ap qb0) Ah (vnm 2) (vnm 4))) (vaN 4 Ac))) Af) (Ag (Ak 4 qg2.nd (Aj T.d12 (qs4 T) qa1 (rm B) (vaV (qb4 (Bi rfl (vnm 0) T.C7.cl T.C9)) (vaN 4 Ac)))))) (Ag (At (qa5 (F7 (qa2 (vnm 4) (qa2 (vnm 3) qa7 rfl) rfl))))))))))),λ C Q xe h=>?_⟩);obtain⟨f,n,wr,b,g,k,S,key,rfl,E,n2,V,KP,G,X⟩:=h;have q:=V key G;refine Au [Ay f a.C4 a.C3 n wr b g k,.int key,.u,.u,.u] rfl ?_;refine qaC7 (qN8 (x:=Ay f a.C4 a.C3 n wr b g k) (y:=.int key) rfl rfl rfl ⟨_,⟨_,_,rfl,qaM6,q,rfl⟩,?_⟩);refine qa0 (a:=[Ay f a.C4 a.C3 n wr b g k,.int key,.u,.u,.u]) rfl ?_;obtain⟨i,u,e⟩:=(KP.h.2 key).mp G;obtain⟨j,Y⟩:=qaj6 u e;refine qaB4 (qC9 (qD9 (p:=Ay f a.C4 a.C3 n wr b g k) (x:=.int key) (d:=.int (j:Nat)) rfl (qt0 rfl) rfl rfl ⟨f,n,wr,b,g,k,key,rfl,q,Y.symm⟩ rfl ?_));refine qa0 (a:=D.bl false) rfl (qa0 (a:=false) rfl (E6 (by decide) ?_));refine qb3 [Ay f a.C4 a.C3 n wr b g k,.int key,rL n g,.u,.u] (λ K v=>?_) ?_
 . exact qi0 (qaA2 (p:=Ay f a.C4 a.C3 n wr b g k) (d:=rL n g) rfl (qt0 rfl) ⟨f,n,wr,b,g,k,rfl,rfl⟩ rfl v)
 have L:=Bk (ps:=b) E key;generalize J:N2 n b key=h at L X;refine qb3 [Ay f a.C4 a.C3 n wr b g k,.int key,rL n g,.int (h:Nat),.u] (λ K v=>?_) ?_
 . refine qi0 (qM1 (d:=Ad true a.C3 n wr b) (Ba rfl ql2) rfl (qd5 rfl) (qb6 (x:=.int key) rfl (qc1 (qa0 (a:=D.int key) rfl ⟨_,⟨true,n,wr,b,key,rfl,E,q,rfl⟩,?_⟩))))
   rw[<- ql0 E key,J];exact v
 refine qb3 [Ay f a.C4 a.C3 n wr b g k,.int key,rL n g,.int (h:Nat),.int (h:Nat)] (λ K v=>qo3 (d:=.int (h:Nat)) rfl rfl v) ?_;have A0:Arc n.toNat (N2 n b) g i (dist n.toNat h i) h h:=by rw[<- J];exact Arc.start KP.o u e
 refine qb9 (λ C=>∃ s,C=[Ay f a.C4 a.C3 n wr b g k,.int key,rL n g,.int (h:Nat),.int (s:Nat)]/\Jp n wr b g i key s) (λ K v=>?_) ?_
 . refine qI8 (λ m C=>∃ s,C=[Ay f a.C4 a.C3 n wr b g k,.int key,rL n g,.int (h:Nat),.int (s:Nat)]/\Arc n.toNat (N2 n b) g i (dist n.toNat h i) h s/\(wr=false->s<=h)/\m+dist n.toNat s i=n.toNat) (n.toNat - dist n.toNat h i) ⟨h,rfl,A0,λ _=>zA4 _,by have:=qe0 u L;lia⟩ ?_
   rintro m C ⟨s,rfl,A,H,Z⟩ K2 M;have r:=A.hs;obtain⟨x,I,_⟩:=A.oc s r (by rw[(qb5 r r).mpr rfl];lia);have z:wr=false->N2 n b x<=s:=λ t=>KP.ln t s x r I
   refine qC9 (qM1 (d:=Ad true a.C3 n wr b) (Ba rfl ql2) rfl (qd5 rfl) (qd0 (y:=.int x) (Ae rfl rfl (by rw[Bw r,I];rfl)) rfl (qb6 (x:=.int (s:Nat)) rfl (qc1 (qa0 (a:=D.int (s:Nat)) rfl ⟨_,⟨true,n,wr,b,x,(s:Nat),rfl,E,V x ((KP.h.2 x).mpr ⟨s,r,I⟩),by lia,by lia,rfl⟩,?_⟩)))));rw[qp5 E r z];refine qa0 (a:=[Ay f a.C4 a.C3 n wr b g k,.int key,rL n g,.int (h:Nat),.int (s:Nat)]) rfl ?_;refine qa0 (a:=D.bl (decide (0 < ((dist n.toNat (N2 n b x) s:Nat):Int)))) rfl (qa0 (a:=decide (0 < ((dist n.toNat (N2 n b x) s:Nat):Int))) rfl (ite_b (λ N=>?_) λ N=>?_))
   . have O:0 < dist n.toNat (N2 n b x) s:=by have:=zAc N;lia
     obtain⟨A',e1,e2⟩:=A.back KP.o KP.c u L I O;have a0:=qe0 u A'.hs;have R:(if 0 < ((s:Nat):Int) then D.int (((s:Nat):Int) - 1) else if wr=true then D.int (n - 1) else D.non)=.int (Row.prev n.toNat s:Nat):=by
       have p:=por n.toNat s;by_cases h0:0 < s
       . rw[if_pos (by lia),show Row.prev n.toNat s=s - 1 by lia]
         exact congrArg D.int (by lia)
       have t:wr=true:=by
         cases wr with
         | true=>rfl
         | false=>have:=z rfl;have d:=dor n.toNat (N2 n b x) s;lia
       rw[if_neg (by lia),if_pos t,show Row.prev n.toNat s=n.toNat - 1 by lia];exact congrArg D.int (by lia)
     refine qi0 (qn0 (qd0 (y:=Ad true a.C3 n wr b) (Ba rfl ql2) rfl (qb6 (x:=.int (s:Nat)) rfl (qc1 (qa0 (a:=D.int (s:Nat)) rfl ⟨_,⟨true,n,wr,b,(s:Nat),rfl,rfl⟩,?_⟩)))));rw[R];refine M (m - 1) _ (by lia) ⟨Row.prev n.toNat s,rfl,A',λ t=>?_,by lia⟩
     have:=H t
     have:=z t
     have d:=dor n.toNat (N2 n b x) s;have p:=por n.toNat s;lia
   have O:dist n.toNat (N2 n b x) s=0:=by have:=zB8 N;lia
   have hz:=((qb5 (Bk E x) r).mp O).symm;refine v _ ⟨s,rfl,r,λ t=>by rw[J];exact H t,λ S' U=>?_⟩;rw[J];exact A.done KP.o u U I hz
 rintro C ⟨s,rfl,W⟩;exact qi3 (.q [.int (s:Nat),.int (h:Nat)]) rfl (X i s u e W)
theorem qaG4:qa9 ["_law_script"] ["_law_script"] (qa3 qaw9):=by walk_at "s"
theorem qaK0(T:Txt K mg a):Fo P w K mg base CX0 1 a.f31 a.d31 ["_law_script"] (qaQ9 K):=by
 refine T.d31.F.ok qaG4 (λ J H Q E h=>?_) (λ L A outer s H J Q E O h=>?_)
 . obtain⟨l,d,rfl,_⟩:=h
   rfl
 obtain⟨l,d,rfl,M,R,k⟩:=h;refine⟨_,(qar2 (qaH6 (qay4 (qg5 qG2 (qg5 qG2 (qg5 qG2 (qg5 (qw0 ["_law_cell"] [none] (qv9 (qZ9 qaq2 (pv 0) qar6 (qar5 qG2))) (λ C B H0 G=>(gnm 0 (show (["_law_cell"]:List Str).Nodup by decide +kernel))) (λ C B H0 G=>qaI3) (λ C B H0 G=>(cbi qaD7 T.D7 (qg5 (pv 0) qy7)))) qy7))))))),?_⟩;refine⟨_,rfl,_,rfl,l,_,rfl,M,λ c N=>?_⟩;have ec:Fv (d.map V.int) none (some 63)=d.map V.int:=by
   unfold Fv;have t:HT.sIx (d.map V.int).length (d.map V.int).length (some (63:Int))=min 63 (d.map V.int).length:=HT.qaq7 _ _ 63;rw[t,HT.qZ5,Lm,Nat.sub_zero];apply zAr;rw[zA8];lia
 rw[ec];refine⟨c,rfl,⟨_,SqL.of qb8⟩,λ D r=>?_⟩;have I:D≠c:=λ z=>by rw[z,qb8] at r;cases r
 have g:H D=none:=by rw[qc7 I] at r;exact r
 refine qS1 (K:=K) (xs:=d.map V.int) (λ i σ H1=>∃ v,σ=[v]/\H1=upd (upd H c (.l (d.map V.int))) D (.l (((d.take i).map λ n=>if n < 0 then -n else n).map V.int))) ⟨none,rfl,rfl⟩ ?_ ?_ ?_
 . rintro i σ H1 _ ⟨v,rfl,rfl⟩
   refine SqL.of ?_;rw[qc7 I.symm,qb8]
 . rintro i x σ H1 j ⟨v,rfl,rfl⟩
   obtain⟨n,u,rfl⟩:∃ n,d[i]? = some n/\V.int n=x:=by
     rw[zAy] at j;cases e:d[i]? with
     | none=>rw[e] at j;cases j
     | some z=>rw[e] at j;exact⟨z,rfl,Nc j⟩
   refine⟨_,rfl,_,rfl,_,qb8,?_,_,rfl,?_⟩
   . rw[zA8,zA8,zBh]
     exact qaj2 (by lia)
   rw[qaE8];congr 1;rw[zBk,u];simp
 rintro σ H1 ⟨v,rfl,rfl⟩;rw[zA8,zAr (zA4 _)];refine⟨by show 4<=Jt;decide,λ p f=>?_⟩;have q:p≠D:=λ z=>by rw[z,qb8] at f;cases f
 rw[qc7 q] at f;have y:p≠c:=λ z=>by rw[z,qb8] at f;cases f
 rw[qc7 y] at f;refine k p D _ f g (λ b o e=>?_) ⟨0,1234567891,0,d.map λ n=>if n < 0 then -n else n,qb8,?_,by decide,by decide,by decide,by decide,?_⟩
 . rw[qc7 (qd4 e f),qc7 (qd4 e g),qc7 (qd4 e N)]
   exact e
 . rw[qc7 q.symm,qb8]
 intro n u;obtain⟨m,_,rfl⟩:=zAt.mp u
 split<;>lia
theorem qq5:qa9 ["_law_bag_here", "_law_many", "_law_cell", "_law_value", "_law_first", "_law_second"] ["_law_bag_here", "_law_many"] (qa3 qZ0):=by walk_at "s"
theorem qc4(T:Txt K mg a):VFn P w K mg base 1 a.f32 a.d32 ["_law_bag_here", "_law_many"] qB7:=by
 refine VFn.mk' T.d32.F qq5 (wOf [true,true]) (λ r Q Q' u J L _ h=>by obtain⟨b,m,g,e,H,A,M,q⟩:=h;exact⟨b,m,g,e,H,A,M,λ v N O R B=>L _ _ (q v N O R B)⟩) (λ r Q u ⟨b,m,g,e,_⟩=>by rw[e];rfl) (λ r Q u h=>by obtain⟨b,m,g,e,⟨x,y,z,S,_⟩,_⟩:=h;rw[e,S];rfl) (λ _ _ _ _ _ _ _ U=>⟨_,(Ab (sif (q2 (Am (qk7 U.u64) (qa8 _)) Bh (v2 (Ap qb0) Ah (vnm 0) Af) Af) (Ab (Ak 2 qq5.nd (qa5 Af)) (Ab (sif (q2 (Am Du (qa8 _)) Eh (v2 (Ap qb0) Ah (vnm 0) Af) (vbi qt9 qt8.ops T.Ci (qa2 (v2 (Ap qb0) Ah (vnm 0) Af) qa7 rfl))) (Ag (Ak 2 qq5.nd (qb4 (v2 (Ap qb0) Ah (v2 (Ap qb0) Ah (vnm 0) Af) (v2 (Ap qb0) Ah (vnm 0) Af))))) Av) (Ab (saug (vpn 0) Af Af qaV4) (Ab (sif (q2 (Am G0 (qa8 _)) Im (vnm 2) Af) (Ag (Fc (qb4 (vnm 2)) (Eb (vpn 0) Af))) Av) (Ag (Fc (qa5 (v2 (Al qj5) qj4 (v2 (Al ql8) ql7 (v2 (Al ql8) ql7 (v2 (Al qo7) qo5 (v2 (Ap qb0) Ah (vnm 0) Af) Af) (v2 (Al qj5) qj4 (vnm 2) Af)) (v2 (Al qo7) qo5 Af (v2 (Ap qb0) Ah (vnm 0) Af))) Af)) (Eb (vpn 0) Af))))))) Av) (Ab (sif (q2 (Am Bp (qa8 _)) Bz (v2 (Ap qb0) Ah (vnm 0) Af) Af) (Ab (Ak 3 qq5.nd (qa5 (v2 (Al qj5) qj4 (v2 (Ap qb0) Ah (vnm 0) Af) (vnm 1)))) (Ab (Fc (qa5 (v2 (Al qL4) qaz1 (v2 (Ap qb0) Ah (vnm 0) Af) (vnm 1))) (Eb (vpn 0) Af)) (Ag (At (emv 3))))) Av) (Ab (Ak 4 qq5.nd (qa5 (v2 (Al qj5) qj4 (v2 (Al qo7) qo5 (v2 (Al ql8) ql7 (v2 (Ap qb0) Ah (vnm 0) Af) Af) Af) Af))) (Ab (Ak 5 qq5.nd (qa5 (v2 (Al qj5) qj4 (v2 (Al qo7) qo5 (v2 (Al qj5) qj4 (v2 (Al qo7) qo5 (vnm 4) (vnm 4)) Af) Af) Af))) (Ab (sif (q2 (Am Bp (qa8 _)) Bz (vnm 1) Af) (Ag (At (qa5 (v2 (Al qj5) qj4 (v2 (Al ql8) ql7 (v2 (Al qo7) qo5 (vnm 5) Af) (vnm 4)) (vnm 1))))) Av) (Ag (At (qa5 (v2 (Al qj5) qj4 (v2 (Al qL4) qaz1 (vnm 5) Af) (vnm 1)))))))))),λ r Q u h=>?_⟩);obtain⟨b,m,g,rfl,⟨x,y,z,rfl,B⟩,p,C,k⟩:=h;refine Au [bagD x y z g,.int m,.u,.u,.u,.u] rfl ?_;refine qb9 (λ r=>∃ j o t c,r=[bagD j o t g,.int m,c,.u,.u,.u]/\Bg j o t g) (λ K l=>?_) ?_
 . refine if_v (b:=decide (x=0)) rfl (λ _=>?_) (λ _=>l _ ⟨x,y,z,_,rfl,B⟩)
   refine qb3 [bagD x y z g,.int m,.int 0,.u,.u,.u] (λ K l=>l) ?_;refine qb9 (λ r=>∃ c:Int,0<=c/\r=[bagD x y z g,.int m,.int c,.u,.u,.u]) (λ K l=>?_) ?_
   . refine if_v (b:=decide (z < (((g.map D.int).length:Nat):Int))) rfl (λ A=>?_) (λ _=>l _ ⟨0,by decide,rfl⟩)
     obtain⟨v,V,e⟩:=qB3 (xs:=g.map D.int) (i:=z) B.z0 (zAc A);obtain⟨c,E,rfl⟩:=zAt.mp V;exact qo3 (Ae (y:=.int z) (x:=.l false (g.map .int)) rfl rfl e) rfl (l _ ⟨c,B.nn c E,rfl⟩)
   rintro r ⟨c,E,rfl⟩;refine qb3 [bagD x y (z+1) g,.int m,.int c,.u,.u,.u] (λ K l=>?_) ?_
   . exact qaX3 (k:=2) (x:=z) (y:=1) (ys:=[.int x,.int y,.int z,.l false (g.map .int)]) rfl rfl (by decide) rfl rfl l
   refine qb9 (λ r=>∃ j:Int,0<=j/\r=[bagD j y (z+1) g,.int m,.int c,.u,.u,.u]) (λ K l=>?_) ?_
   . refine if_v (b:=decide (1000000000000000000<=c)) rfl (λ _=>?_) (λ _=>l _ ⟨x,B.x0,rfl⟩)
     exact qz6 (d:=.int c) (ys:=[.int x,.int y,.int (z+1),.l false (g.map .int)]) (k:=0) (n:=0) rfl rfl rfl rfl rfl (l _ ⟨c,E,rfl⟩)
   rintro r ⟨j,G,rfl⟩;have W:f2 Hl (f2 Gn (f2 Gn (f2 Fx (f2 gIx (rdN 0) (kC (.int 1))) (kC (.int 48271))) (f2 Hl (rdN 2) (kC (.int 2147483647)))) (f2 Fx (kC (.int 7919)) (f2 gIx (rdN 0) (kC (.int 2))))) (kC (.int 2147483647)) [bagD j y (z+1) g,.int m,.int c,.u,.u,.u]=some (.int ((y * 48271+c % 2147483647+7919 * (z+1)) % 2147483647)) :=
     Ae (Ae (Ae (Ae (x:=.int y) rfl rfl (mulR (by decide))) (Ae rfl rfl (Db (by decide))) rfl) (Ae (y:=.int (z+1)) rfl rfl (Hw (by decide))) rfl) rfl (Db (by decide))
   exact qaq0 (ys:=[.int j,.int y,.int (z+1),.l false (g.map .int)]) (k:=1) (n:=1) W rfl rfl rfl (l _ ⟨j,_,z+1,_,rfl,G,zC4 _ (by decide),zBy _ (by decide),by have:=B.z0;lia,B.nn⟩)
 rintro r ⟨j,o,t,c,rfl,B'⟩;refine qg9 (decide (0 < j)) rfl (λ H=>?_) λ _=>?_
 . refine qb3 [bagD j o t g,.int m,c,.int (j % m),.u,.u] (λ K l=>qa0 (Ae (x:=.int j) rfl rfl (Db p)) l) ?_
   refine qb3 [bagD (j / m) o t g,.int m,c,.int (j % m),.u,.u] (λ K l=>?_) ?_
   . exact qaq0 (ys:=[.int j,.int o,.int t,.l false (g.map .int)]) (k:=0) (n:=0) (Ae (x:=.int j) rfl rfl (qaD2 p C)) rfl rfl rfl l
   exact k (j % m) _ (zC4 _ (by lia)) (zBy _ p) ⟨_,_,_,rfl,Int.ediv_nonneg B'.x0 (by lia),B'.y0,B'.y1,B'.z0,B'.nn⟩
 have X:0<=(o+1) * 39373 % 1000000007:=zC4 _ (by decide);have f1:(o+1) * 39373 % 1000000007 < 1000000007:=zBy _ (by decide);refine qb3 [bagD j o t g,.int m,c,.u,.int ((o+1) * 39373 % 1000000007),.u] (λ K l=>qa0 (Ae (Ae (Ae (x:=.int o) rfl rfl rfl) rfl (mulR (by decide))) rfl (Db (by decide))) l) ?_;generalize (o+1) * 39373 % 1000000007=f at X f1;refine qb3 [bagD j o t g,.int m,c,.u,.int f,.int (f * f % 998244353 * 30011 % 998244353)] (λ K l=>qa0 (Ae (Ae (Ae (Ae rfl rfl (Hw (qK0 (by lia) (by lia)))) rfl (Db (by decide))) rfl (mulR (by decide))) rfl (Db (by decide))) l) ?_;generalize f * f % 998244353 * 30011 % 998244353=s;have I:∀ v,Q (.int (v % m)) [bagD j o t g,.int m]:=λ v=>k _ _ (zC4 _ (by lia)) (zBy _ p) ⟨_,_,_,rfl,B'⟩
 refine qg9 (decide (1000000 < m)) rfl (λ _=>?_) λ _=>?_
 . exact qi3 _ (Ae (Ae (Ae rfl rfl (mulR (by decide))) rfl rfl) rfl (Db p)) (I _)
 exact qi3 _ (Ae (Ae rfl rfl (qaD2 (by decide) (by decide))) rfl (Db p)) (I _)
theorem qaw4:qa9 ["_law_case_here", "_law_key_here"] ["_law_case_here", "_law_key_here"] (qa3 qZ2):=by walk_at "s"
def qav9:VSp:=Aw λ ds d=>∃ n wr ps k,ds=[Aa n wr ps,.int k]/\1<=n/\(ps.map (·.1)).Nodup/\d=.int (qb7 n ps k)
theorem qD4(T:Txt K mg a):VFn P w K mg base 1 a.f36 a.d36 ["_law_case_here", "_law_key_here"] qav9:=by
 refine VFn.mk2 T.d36.F qaw4 (wOf [true,true]) qb2 (by walk_at "l") (λ _ _ _ _ _ _ _ c=>⟨_,(Ag (At (qa5 (v2 (Al qj5) qj4 (vget (hu_of c) (Ev (qI3 rfl) qau2.ops T.Cy (qa2 (v2 (Ap qb0) Ah (vnm 0) Af) qa7 rfl)) (vnm 1) (vnm 1) ⟨rfl,rfl,rfl,rfl⟩) (v2 (Ap qb0) Ah (vnm 0) Af))))),λ g Q i h=>?_⟩);obtain⟨d,⟨n,wr,b,k,rfl,j,e,rfl⟩,q⟩:=h;have f:A4 (fx1 G8) (Ax (f2 gIx (rdN 0) (kC (.int 2))) λ _=>some []) [Aa n wr b,.int k]=some (.dct false (kvD b)):=by
   show G8 (.l false (N6 b))=_;exact qat9 e
 exact qi3 _ (Ae (qae3 f rfl) (y:=.int n) rfl (Db (by lia))) q
theorem qaq5:qa9 ["_law_case_here", "_law_key_here", "_law_room", "_law_way"] ["_law_case_here", "_law_key_here", "_law_room"] (qa3 qaw8):=by walk_at "s"
def qaG2:VSp:=Aw λ ds d=>∃ n wr ps k r,ds=[Aa n wr ps,.int k,.int r]/\1<=n/\(ps.map (·.1)).Nodup/\d=Dg (An n wr ps k r)
theorem qA1(T:Txt K mg a):VFn P w K mg base 2 a.f37 a.d37 ["_law_case_here", "_law_key_here", "_law_room"] qaG2:=by
 refine VFn.mk2 T.d37.F qaq5 (wOf [true,true,true]) qb2 (by walk_at "l") (λ _ _ _ _ _ _ _ e=>⟨_,(Ab (Ak 3 qaq5.nd (e2n 2 (Al qr4) qr3 (Aj T.d36 (qD4 T) qa1 (rm e) (vaN 0 (vaN 1 Ac))))) (Ab (sif (tv (v2 (Ap qb0) Ah (vnm 0) Af)) (Ag (At (qa5 (v2 (Al qj5) qj4 (vnm 3) (v2 (Ap qb0) Ah (vnm 0) Af))))) Av) (Ag (At (qa5 (v2 (Ap qb0) Ah (Dk (qa2 (vnm 3) (qa2 A7 qa7 rfl) rfl)) (Ev qS5 qaO8.ops T.Ct (qa2 (v2 (A6 Du (qa8 _)) Eh (vnm 3) Af) qa7 rfl)))))))),λ j Q m h=>?_⟩);obtain⟨d,⟨n,wr,b,k,r,rfl,f,g,rfl⟩,q⟩:=h;refine Au [Aa n wr b,.int k,.int r,.u] rfl ?_;refine qb3 [Aa n wr b,.int k,.int r,.int (r - qb7 n b k)] (λ K i=>⟨rfl,qM2 (x:=Aa n wr b) (y:=.int k) (d:=.int (qb7 n b k)) rfl rfl rfl ⟨n,wr,b,k,rfl,f,g,rfl⟩ rfl (qa0 (a:=D.int (r - qb7 n b k)) rfl i)⟩) ?_;unfold An at q;refine qg9 wr rfl (λ h=>?_) (λ h=>?_)
 . subst h
   exact qi3 (.int ((r - qb7 n b k) % n)) (Ae rfl (y:=.int n) rfl (Db (by lia))) q
 subst h;rw[if_neg (by decide)] at q;by_cases c:0<=r - qb7 n b k
 . rw[if_pos c] at q
   refine qi3 (.int (r - qb7 n b k)) (Ae (x:=.l false [.int (r - qb7 n b k),.non]) (y:=.int 0) rfl ?_ rfl) q;show some (D.int (if decide (r - qb7 n b k < 0)=true then 1 else 0))=_;rw[if_neg (by simpa using c)]
 rw[if_neg c] at q;refine qi3 .non (Ae (x:=.l false [.int (r - qb7 n b k),.non]) (y:=.int 1) rfl ?_ rfl) q;show some (D.int (if decide (r - qb7 n b k < 0)=true then 1 else 0))=_;rw[if_pos (zAb (by lia))]
theorem qC1:qa9 ["_law_bag_here", "_law_most", "_law_way", "_law_rooms"] ["_law_bag_here", "_law_most"] (qa3 qZ4):=by walk_at "s"
def qaw1:VSp:=λ ds Q _=>∃ b ns M,ds=[b,.int M]/\Oe ns b/\1<=M/\M<=64/\∀ a n wr,Oe ns a->1<=n->n<=64->Q (Aa n wr []) [a,.int M]
theorem qaz4(T:Txt K mg a):VFn P w K mg base 2 a.f33 a.d33 ["_law_bag_here", "_law_most"] qaw1:=by
 refine VFn.mk' T.d33.F qC1 (wOf [true,true]) (λ c Q Q' o u A _ h=>by obtain⟨b,g,M,e,C,E,G,q⟩:=h;exact⟨b,g,M,e,C,E,G,λ f n wr H I J=>A _ _ (q f n wr H I J)⟩) (λ c Q o ⟨b,g,M,e,_⟩=>by rw[e];rfl) (λ c Q o h=>by obtain⟨b,g,M,e,⟨x,y,z,L,_⟩,_⟩:=h;rw[e,L];rfl) (λ _ _ _ _ _ _ _ l=>⟨_,(Ab (Ak 2 qC1.nd (Aj T.d32 (qc4 T) qa1 (rm l) (vaN 0 (vaV (qa5 Af) Ac)))) (Ab (Ak 3 qC1.nd (qb4 (vnm 1))) (Ab (sif (q2 (Am Du (qa8 _)) Eh (vnm 2) Af) (Ag (Ak 3 qC1.nd (e2 (Al ql8) ql7 (qa5 Af) (Aj T.d32 (qc4 T) qa1 (rm l) (vaN 0 (vaV (qb4 (v2 (Ap qb0) Ah (Dk (qa2 Af (qa2 Af (qa2 (vnm 1) qa7 rfl) rfl) rfl)) (vnm 2))) Ac)))))) Av) (Ag (At (elst (vaV (qb4 (vnm 3)) (vaV (e2v (A6 (qk7 l.u64) (qa8 _)) Bh (Aj T.d32 (qc4 T) qa1 (rm l) (vaN 0 (vaV (qa5 Af) Ac))) Af) (vaV (qa5 (Dk qa7)) Ac))))))))),λ c Q o h=>?_⟩);obtain⟨b,g,M,rfl,B,M1,M2,k⟩:=h;refine Au [b,.int M,.u,.u] rfl ?_;refine qb9 (λ c=>∃ b w,c=[b,.int M,.int w,.u]/\Oe g b/\0<=w/\w < 4) (λ K j=>?_) ?_
 . exact qf1 rfl B rfl (by decide) (by decide) λ v f p r B'=>j _ ⟨f,v,rfl,B',p,r⟩
 rintro c ⟨b,way,rfl,B,N,U⟩;refine qb3 [b,.int M,.int way,.int M] (λ K j=>qo3 (d:=.int M) rfl rfl j) ?_;refine qb9 (λ c=>∃ b n,c=[b,.int M,.int way,.int n]/\Oe g b/\1<=n/\n<=64) (λ K j=>?_) ?_
 . refine if_v (b:=decide (way < 3)) rfl (λ s=>?_) λ _=>j _ ⟨b,M,rfl,B,M1,M2⟩
   have s:way < 3:=zAc s;obtain⟨d,t,O⟩:=qB3 (xs:=[D.int 4,D.int 8,D.int M]) (i:=way) N s;obtain⟨m,rfl,V,W⟩:∃ m:Int,d=.int m/\1<=m/\m<=64:=by
     simp only[zAh,zBn,or_false] at t;rcases t with rfl | rfl | rfl
     . exact⟨_,rfl,by decide,by decide⟩
     . exact⟨_,rfl,by decide,by decide⟩
     exact⟨_,rfl,M1,M2⟩
   refine qi0 (qaF5 (x:=.int 1) rfl ?_);refine qX2 (ds:=[b,.int M,.int way,.int M]) (m:=m) rfl B (Ae rfl rfl O) (by lia) (by lia) λ v f p r B'=>?_
   exact qa0 (a:=D.int (1+v)) rfl (j _ ⟨f,1+v,rfl,B',by lia,by lia⟩)
 rintro c ⟨b,n,rfl,B,R,S⟩;refine qi2 (qab9 (qd0 (y:=.int n) rfl rfl (qh3 (qai4 ?_))));refine qf1 (ds:=[b,.int M,.int way,.int n]) rfl B rfl (by decide) (by decide) λ v f p r B'=>?_
 refine qa0 (a:=D.bl (decide (v=1))) rfl ?_;refine qd9 (y:=.l false []) rfl (qc1 ⟨lt3,?_⟩);exact k f n (decide (v=1)) B' R S
theorem qaq4:qa9 ["_law_bag_here", "_law_rooms", "_law_home_here", "_law_way"] ["_law_bag_here", "_law_rooms", "_law_home_here"] (qa3 qaw7):=by walk_at "s"
def qaG1:VSp:=λ ds Q _=>∃ b n h ns,ds=[b,.int n,.int h]/\Oe ns b/\1<=n/\n<=64/\0<=h/\h < n/\∀ k a,qs0 k->Oe ns a->Q (.int k) [a,.int n,.int h]
theorem qaa7(T:Txt K mg a):VFn P w K mg base 2 a.f34 a.d34 ["_law_bag_here", "_law_rooms", "_law_home_here"] qaG1:=by
 refine VFn.mk' T.d34.F qaq4 (wOf [true,true,true]) (λ c Q Q' r E G _ h=>by obtain⟨b,n,h,j,e,t,H,I,J,L,q⟩:=h;exact⟨b,n,h,j,e,t,H,I,J,L,λ k o l B=>G _ _ (q k o l B)⟩) (λ c Q r h=>by obtain⟨b,n,h,j,e,_⟩:=h;rw[e];rfl) (λ c Q r h=>by obtain⟨b,n,h,j,e,⟨x,y,z,M,_⟩,_⟩:=h;rw[e,M];rfl) (λ _ _ _ _ _ _ _ p=>⟨_,(Ab (Ak 3 qaq4.nd (Aj T.d32 (qc4 T) qa1 (rm p) (vaN 0 (vaV (qa5 Af) Ac)))) (Ab (sif (q2 (Am (qk7 p.u64) (qa8 _)) Bh (vnm 3) Af) (Ag (At (e2 (Al qr4) qr3 (qa5 (v2 (Al qr4) qr3 (vpow 1000000000000000000) (v2 (Al qj5) qj4 (v2 (Al qr4) qr3 (vpow 1000000000000000000) (vnm 2)) (vnm 1)))) (e2n 1 (Al qo7) qo5 (Aj T.d32 (qc4 T) qa1 (rm p) (vaN 0 (vaV (qa5 Af) Ac))))))) Av) (Ag (At (e2n 2 (Al ql8) ql7 (e2n 1 (Al qo7) qo5 (Aj T.d32 (qc4 T) qa1 (rm p) (vaN 0 (vaV (qa5 (v2 (Ap qb0) Ah (Dk (qa2 Af (qa2 Af (qa2 Af (qa2 Af (qa2 (vpow 1000000000000000) qa7 rfl) rfl) rfl) rfl) rfl)) (v2 (Al qr4) qr3 (vnm 3) Af))) Ac))))))))),λ c Q r h=>?_⟩);obtain⟨b,n,h,j,rfl,B,V,u,W,t,k⟩:=h;refine Au [b,.int n,.int h,.u] rfl ?_;refine qb9 (λ c=>∃ b w,c=[b,.int n,.int h,.int w]/\Oe j b/\0<=w/\w < 6) (λ K N=>?_) ?_
 . exact qf1 rfl B rfl (by decide) (by decide) λ v o d s B'=>N _ ⟨o,v,rfl,B',d,s⟩
 rintro c ⟨b,way,rfl,B,X,Y⟩;refine qg9 (decide (way=0)) rfl (λ _=>?_) λ A=>?_
 . refine qi2 ?_
   have Z:0<=(1000000000000000000 - h) % n:=zC4 _ (by lia);have e1:(1000000000000000000 - h) % n < n:=zBy _ (by lia);refine qa0 (a:=D.int (1000000000000000000 - (1000000000000000000 - h) % n)) (Ae rfl (Ae rfl rfl (Db (by lia))) rfl) ?_;refine⟨rfl,qf1 (ds:=[b,.int n,.int h,.int way]) rfl B rfl (by decide) (by decide) λ v o d s B'=>?_⟩;have e2:0<=n * v:=Int.mul_nonneg (by lia) d;have O:n * v<=64 * 8:=by
     have R:n * v<=64 * v:=Int.mul_le_mul_of_nonneg_right u d;lia
   refine qa0 (a:=D.int (n * v)) (Hw (qK0 (by lia) (by lia))) (qa0 (a:=D.int (1000000000000000000 - (1000000000000000000 - h) % n - n * v)) rfl ?_);exact k _ _ (.inr ⟨by lia,by lia⟩) B'
 have A:¬ way=0:=zB8 A;obtain⟨f,C,S⟩:=qB3 (xs:=[D.int 9,D.int 9,D.int 9,D.int 9,D.int 1000000000000000]) (i:=way - 1) (by lia) (by show way - 1 < 5;lia);obtain⟨g,rfl,U,g1⟩:∃ g:Int,f=.int g/\0 < g/\g<=1000000000000000:=by
   simp only[zAh,zBn,or_false] at C;rcases C with rfl | rfl | rfl | rfl | rfl
   . exact⟨9,rfl,by decide,by decide⟩
   . exact⟨9,rfl,by decide,by decide⟩
   . exact⟨9,rfl,by decide,by decide⟩
   . exact⟨9,rfl,by decide,by decide⟩
   exact⟨_,rfl,by decide,by decide⟩
 refine qi2 ⟨rfl,rfl,?_⟩;refine qf1 (ds:=[b,.int n,.int h,.int way]) (m:=g) rfl B (Ae (x:=.l false [.int 9,.int 9,.int 9,.int 9,.int 1000000000000000]) (y:=.int (way - 1)) rfl rfl S) U (Int.lt_of_le_of_lt g1 (by decide)) λ v o d s B'=>?_
 have e2:0<=n * v:=Int.mul_nonneg (by lia) d;have O:n * v<=64 * 1000000000000000:=by
   have R:n * v<=64 * v:=Int.mul_le_mul_of_nonneg_right u d;lia
 refine qa0 (a:=D.int (n * v)) (Hw (qK0 (by lia) (by lia))) (qa0 (a:=D.int (h+n * v)) rfl ?_);exact k _ _ (.inl ⟨by lia,by lia⟩) B'
theorem qd3:qa9 ["_law_bag_here", "_law_case_here", "_law_many", "_law_rooms", "_law_way", "_law_homes", "_law_found", "_law_k", "_law_home_here", "_law_key_here", "_law_told"] ["_law_bag_here", "_law_case_here", "_law_many"] (qa3 qZ1):=by walk_at "s"
def qav8:VSp:=λ ds Q _=>∃ b n wr m ns,ds=[b,Aa n wr [],.int m]/\Oe ns b/\1<=n/\n<=64/\0<=m/\m<=100 /\
 ∀ a ks ps,Oe ns a->ks.Nodup->(∀ k∈ks,qs0 k)->(ks.length:Int)<=m->(1<=m->ks≠[])->Drawn ks ps->Q (kL ks) [a,Aa n wr ps,.u]
theorem qaW8{j:Int}(h:0<=j):gSl (kL ks) none (some j)=some (kL (ks.take j.toNat)):=by
 have e:Eo (N4 ks) none (some j)=N4 (ks.take j.toNat):=by
   rw[show j=((j.toNat:Nat):Int) by lia,qR8,Int.toNat_natCast];unfold N4;rw[Ma]
 show gd (D.imms (Eo (N4 ks) none (some j))=true) (.l false (Eo (N4 ks) none (some j)))=_;rw[e];exact qk2 (qk9 _)
abbrev qg1(n:Int)(wr:Bool) (way) (g1) (g2) (p0 p2 b c d e a:D):=([p0,Aa n wr [],p2,.int n,.int way,.l false [.int g1,.int g2],b,c,d,e,a]:Ds)
theorem qaz2(T:Txt K mg a):VFn P w K mg base 3 a.f35 a.d35 ["_law_bag_here", "_law_case_here", "_law_many"] qav8:=by
 refine VFn.mk' T.d35.F qd3 (wOf [true,true,true]) (λ c Q Q' xe b3 hQ _ h=>by obtain⟨b,n,wr,m,E,e,J,h2,h3,h4,h5,q⟩:=h;exact⟨b,n,wr,m,E,e,J,h2,h3,h4,h5,λ R f g X a2 a3 a4 a5 a6=>hQ _ _ (q R f g X a2 a3 a4 a5 a6)⟩) (λ c Q xe h=>by obtain⟨b,n,wr,m,E,e,_⟩:=h;rw[e];rfl) (λ c Q xe h=>by obtain⟨b,n,wr,m,E,e,⟨x,y,z,eb,_⟩,_⟩:=h;rw[e,eb];rfl) (λ _ _ _ _ _ _ _ I=>⟨_,(Ab (Ak 3 qd3.nd (qb4 (v2 (Ap qb0) Ah (vnm 1) Af))) (Ab (Ak 4 qd3.nd (Aj T.d32 (qc4 T) qa1 (rm I) (vaN 0 (vaV (qa5 Af) Ac)))) (Ab (Ak 5 qd3.nd (elst (vaV (Aj T.d32 (qc4 T) qa1 (rm I) (vaN 0 (vaN 3 Ac))) (vaV (Aj T.d32 (qc4 T) qa1 (rm I) (vaN 0 (vaN 3 Ac))) Ac)))) (Ab (Ak 6 qd3.nd (qa5 (Dk qa7))) (Ab (qU2 Nd T.Ce (Da (vaN 2 Ac)) (A8 7 qd3.nd) (Ab (Ak 8 qd3.nd (Aj T.d32 (qc4 T) qa1 (rm I) (vaN 0 (vaN 3 Ac)))) (Ab (sif (q2 (Am (qk7 I.u64) (qa8 _)) Bh (vnm 4) Af) (Ag (Ak 8 qd3.nd (qa5 (v2 (Al qr4) qr3 (v2 (Al qr4) qr3 (vnm 3) Af) (v2 (Al qL4) qaz1 (vnm 8) Af))))) Av) (Ab (sif (q2 (Am (qk7 I.u64) (qa8 _)) Bh (vnm 4) Af) (Ag (Ak 8 qd3.nd (qb4 (v2 (Ap qb0) Ah (vnm 5) (v2 (Al qj5) qj4 (vnm 8) Af))))) Av) (Ab (sif (Ho (q2 (Am (qk7 I.u64) (qa8 _)) Bh (vnm 4) Af) (Fe (q2 (Am Bp (qa8 _)) Bz (v2 (Al qj5) qj4 (vnm 8) Af) Af))).te (Ag (Ak 8 qd3.nd (qb4 (v2 (Ap qb0) Ah (vnm 5) Af)))) Av) (Ab (Ak 9 qd3.nd (Aj T.d34 (qaa7 T) qa1 (rm I) (vaN 0 (vaN 3 (vaN 8 Ac))))) (Ag (sif (q2 (Am qL3 (by with_unfolding_all rfl)) F4 (vnm 9) (vnm 6)) (Ag (Dl (Ga 6 qM0 Ni Nj Nk qh1 (vaN 9 Ac)))) Av)))))))) (Ab (Ak 10 qd3.nd (Aj T.d32 (qc4 T) qa1 (rm I) (vaN 0 (vaV (qa5 Af) Ac)))) (Ab (I9 Nd (qa5 (vsl (vnm 6) vpo_n (vpo_s (v2 (Ap qb0) Ah (Dk (qa2 Af (qa2 Af (qa2 Af (qa2 Af (qa2 Af (qa2 Af (qa2 Af (qa2 Af (qa2 Af (qa2 Af qa7 rfl) rfl) rfl) rfl) rfl) rfl) rfl) rfl) rfl) rfl)) (vnm 10))))) (A8 9 qd3.nd) (Ag (Dl (I8 qM0 Ni Nj Nk qh1 (vpix (vpn 1) Af) (vaV (Gp (vaV (qb4 (vnm 9)) (vaV (Aj T.d34 (qaa7 T) qa1 (rm I) (vaN 0 (vaN 3 (vaV (Aj T.d32 (qc4 T) qa1 (rm I) (vaN 0 (vaN 3 Ac))) Ac)))) Ac))) Ac))))) (Ab (qU2 Nd T.Ce (Da (vaV (qa5 (v2 (Al qj5) qj4 (vnm 10) Af)) Ac)) (A8 7 qd3.nd) (Ag (Dl (I8 qaT9 Ni Nn F.type_list_insert qal4 (vpix (vpn 1) Af) (vaV (qa5 Af) (vaV (Gp (vaV (qa5 (v2 (Al ql8) ql7 (v2 (Al ql8) ql7 (v2 (Al qo7) qo5 Af (vpow 100000000000000000)) (v2 (Al qo7) qo5 Af (vnm 7))) (vnm 10))) (vaV (Aj T.d34 (qaa7 T) qa1 (rm I) (vaN 0 (vaN 3 (vaV (qa5 Af) Ac)))) Ac))) Ac)))))) (Ag (At (emv 6))))))))))),λ c Q xe h=>?_⟩);obtain⟨b,n,wr,m,E,rfl,B,n1,n2,m0,m1,q⟩:=h;refine Au [b,Aa n wr [],.int m,.u,.u,.u,.u,.u,.u,.u,.u] rfl ?_;refine qb3 [b,Aa n wr [],.int m,.int n,.u,.u,.u,.u,.u,.u,.u] (λ K o=>qo3 (d:=.int n) rfl rfl o) ?_;refine qb9 (λ c=>∃ b w,c=[b,Aa n wr [],.int m,.int n,.int w,.u,.u,.u,.u,.u,.u]/\Oe E b/\0<=w/\w < 4) (λ K o=>?_) ?_
 . exact qf1 rfl B rfl (by decide) (by decide) λ v R Y Z B'=>o _ ⟨R,v,rfl,B',Y,Z⟩
 rintro c ⟨b,way,rfl,B,w0,w1⟩;refine qb9 (λ c=>∃ b g1 g2,c=(qg1 n wr way g1 g2 b (.int m) .u .u .u .u .u)/\Oe E b/\0<=g1/\g1 < n/\0<=g2/\g2 < n) (λ K o=>?_) ?_
 . refine qO7 (ds:=[b,Aa n wr [],.int m,.int n,.int way,.u,.u,.u,.u,.u,.u]) (m:=n) rfl B rfl (by decide) (by lia) (by lia) λ g1 b1 a0 X B1=>?_
   refine qO7 (ds:=[b1,Aa n wr [],.int m,.int n,.int way,.u,.u,.u,.u,.u,.u]) (m:=n) rfl B1 rfl (by decide) (by lia) (by lia) λ g2 b2 c0 c1 B2=>?_
   exact⟨lt2,o _ ⟨b2,g1,g2,rfl,B2,a0,X,c0,c1⟩⟩
 rintro c ⟨b,g1,g2,rfl,B,a0,X,c0,c1⟩;refine qb3 (qg1 n wr way g1 g2 b (.int m) (kL []) .u .u .u .u) (λ K o=>o) ?_;refine qb9 (λ c=>∃ b f t G r,c=(qg1 n wr way g1 g2 b .u (kL f) t G r .u)/\Oe E b/\f.Nodup/\(∀ k∈f,qs0 k)/\f.length<=m.toNat/\(1<=m.toNat->f≠[])) (λ K o=>?_) ?_
 . refine qan3 (n:=m) rfl (qD8 (by lia) (by lia)) ?_
   refine qd6 (λ i c=>∃ b f t G r,c=(qg1 n wr way g1 g2 b .u (kL f) t G r .u)/\Oe E b/\f.Nodup/\(∀ k∈f,qs0 k)/\f.length<=i/\(1<=i->f≠[])) _ 0 _ ⟨b,[],_,_,_,rfl,B,Lz,λ _ h=>by simp at h,zA4 _,λ h=>absurd h (by decide)⟩ ?_ ?_
   . rintro i x S c ⟨b,f,t,G,r,rfl,B,nd,lk,L,V⟩ K2 u
     rw[zAi] at L V u;obtain⟨hi,rfl⟩:=qG1 S;refine Au (qg1 n wr way g1 g2 b .u (kL f) (.int (i:Nat)) G r .u) rfl ?_;refine qb9 (λ c=>∃ b h,c=(qg1 n wr way g1 g2 b .u (kL f) (.int (i:Nat)) (.int h) r .u)/\Oe E b/\0<=h/\h < n) (λ K o=>?_) ?_
     . exact qO7 (m:=n) rfl B rfl (by decide) (by lia) (by lia) λ v R Y Z B'=>o _ ⟨R,v,rfl,B',Y,Z⟩
     rintro c ⟨b,h,rfl,B,U,J⟩;refine qb9 (λ c=>∃ h,c=(qg1 n wr way g1 g2 b .u (kL f) (.int (i:Nat)) (.int h) r .u)/\0<=h/\h < n) (λ K o=>?_) ?_
     . refine if_v (b:=decide (way=1)) rfl (λ _=>?_) λ _=>o _ ⟨h,rfl,U,J⟩
       exact qs3 (d:=.int (n - 1 - h / 3)) (Ae (x:=.int (n - 1)) rfl (Ae (x:=.int h) (y:=.int 3) rfl rfl (qaD2 (by decide) (by decide))) rfl) (o _ ⟨_,rfl,by lia,by lia⟩)
     rintro c ⟨h,rfl,U,J⟩;refine qb9 (λ c=>∃ h,c=(qg1 n wr way g1 g2 b .u (kL f) (.int (i:Nat)) (.int h) r .u)/\0<=h/\h < n) (λ K o=>?_) ?_
     . refine if_v (b:=decide (way=2)) rfl (λ _=>?_) λ _=>o _ ⟨h,rfl,U,J⟩
       obtain⟨v,hv,ev⟩:=qB3 (xs:=[D.int g1,D.int g2]) (i:=h % 2) (zC4 _ (by decide)) (by show h % 2 < 2;lia);simp only[zAh,zBn,or_false] at hv;rcases hv with rfl | rfl
       . exact qo3 (Ae (x:=.l false [.int g1,.int g2]) rfl (Ae (x:=.int h) (y:=.int 2) rfl rfl (Db (by decide))) ev) rfl (o _ ⟨g1,rfl,a0,X⟩)
       exact qo3 (Ae (x:=.l false [.int g1,.int g2]) rfl (Ae (x:=.int h) (y:=.int 2) rfl rfl (Db (by decide))) ev) rfl (o _ ⟨g2,rfl,c0,c1⟩)
     rintro c ⟨h,rfl,U,J⟩;refine qb9 (λ c=>∃ h,c=(qg1 n wr way g1 g2 b .u (kL f) (.int (i:Nat)) (.int h) r .u)/\0<=h/\h < n) (λ K o=>?_) ?_
     . refine Hf (decide (way=3)&&decide (0 < h % 3)) (λ Q q=>qi8 (decide (way=3)) (decide (0 < h % 3)) (λ Q q=>qe9 rfl q) (λ _ Q q=>qe9 (Ae (Ae (x:=.int h) (y:=.int 3) rfl rfl (Db (by decide))) rfl rfl) q) q) (λ _=>?_) λ _=>o _ ⟨h,rfl,U,J⟩
       exact qo3 (d:=.int g1) rfl rfl (o _ ⟨g1,rfl,a0,X⟩)
     rintro c ⟨h,rfl,U,J⟩;refine qb9 (λ c=>∃ b A,c=(qg1 n wr way g1 g2 b .u (kL f) (.int (i:Nat)) (.int h) (.int A) .u)/\Oe E b/\qs0 A) (λ K o=>?_) ?_
     . exact qap2 (x:=b) (y:=.int n) (w:=.int h) (qe5 rfl B.known) rfl rfl rfl (qe5 rfl B.known) ⟨b,n,h,E,rfl,B,n1,n2,U,J,λ A R l B'=>o _ ⟨R,A,rfl,B',l⟩⟩
     rintro c ⟨b,A,rfl,B,l⟩;refine if_v (b:=!decide (A∈f)) (Ae rfl rfl qaz5) (λ hb=>?_) λ hb=>?_
     . have hm:¬ A∈f:=λ z=>by rw[zAb z] at hb;cases hb
       refine qaP7 (ys:=N4 f) (d:=.int A) rfl rfl rfl (by decide) (by rw[qj7];unfold big;lia) ?_;rw[qac6];refine u _ ⟨b,f++[A],_,_,_,rfl,B,zBt.mpr ⟨nd,(by simp),λ x S y hy e=>hm (by rw[<- zAg.mp hy,<- e];exact S)⟩,λ x S=>?_,by rw[zAk];exact Nat.add_le_add_right L 1,λ _=>by simp⟩;rcases zAj.mp S with h | h
       . exact lk x h
       rw[zAg.mp h];exact l
     have hm:A∈f:=by
       by_cases z:A∈f
       . exact z
       rw[zAl z] at hb;cases hb
     exact u _ ⟨b,f,_,_,_,rfl,B,nd,lk,by lia,λ _ e=>by rw[e] at hm;simp at hm⟩
   rintro c ⟨b,f,t,G,r,rfl,h⟩;rw[zAi,qA5] at h;exact o _ ⟨b,f,t,G,r,rfl,h⟩
 rintro c ⟨b,f,t,G,r,rfl,B,nd,lk,L,V⟩;refine qb9 (λ c=>∃ b told,c=(qg1 n wr way g1 g2 b .u (kL f) t G r (.int told))/\Oe E b/\0<=told/\told < 10) (λ K o=>?_) ?_
 . exact qf1 rfl B rfl (by decide) (by decide) λ v R Y Z B'=>o _ ⟨R,v,rfl,B',Y,Z⟩
 rintro c ⟨b,told,rfl,B,t0,t1⟩;obtain⟨v,hv,ev⟩:=qB3 (xs:=[D.int 0,.int 0,.int 0,.int 0,.int 1,.int 1,.int 2,.int 3,.int 3,.int 12]) t0 t1;obtain⟨j,rfl,j0,j1⟩:∃ j:Int,v=.int j/\0<=j/\j<=12:=by
   simp only[zAh,zBn,or_false] at hv;rcases hv with rfl | rfl | rfl | rfl | rfl | rfl | rfl | rfl | rfl | rfl
   all_goals exact⟨_,rfl,by decide,by decide⟩
 have b4:(f.take j.toNat).length<=12:=by rw[zBh];lia
 refine qb9 (λ c=>∃ b g r,c=[b,Aa n wr g,.u,.int n,.int way,.l false [.int g1,.int g2],kL f,t,G,r,.int told]/\Oe E b/\g.map (·.1)=f.take j.toNat/\∀ q∈g,qs0 q.2) (λ K o=>?_) ?_
 . refine qa0 (a:=D.l false (N4 (f.take j.toNat))) ?_ (qa0 (a:=N4 (f.take j.toNat)) rfl ⟨qk9 _,?_⟩)
   . show (((f2 gIx (A4 gLst _) (rdN 10) [b,Aa n wr [],.u,.int n,.int way,.l false [.int g1,.int g2],kL f,t,G,r,.int told]).bind λ d=>d.asI.map some).bind λ h=>gSl (kL f) none h)=_
     rw[Ae (x:=.l false [D.int 0,.int 0,.int 0,.int 0,.int 1,.int 1,.int 2,.int 3,.int 3,.int 12]) (y:=.int told) rfl rfl ev];exact qaW8 j0
   refine qd6 (λ i c=>∃ b g r,c=[b,Aa n wr g,.u,.int n,.int way,.l false [.int g1,.int g2],kL f,t,G,r,.int told]/\Oe E b/\g.map (·.1)=(f.take j.toNat).take i/\∀ q∈g,qs0 q.2) _ 0 _ ⟨b,[],r,rfl,B,rfl,λ _ h=>by simp at h⟩ ?_ ?_
   . rintro i x S c ⟨b,g,r,rfl,B,s,M⟩ K2 u
     rw[zAi] at s u;obtain⟨N,a7,rfl⟩:=qaA7 S;have a9:g.length<=12:=by
       have q2:=congrArg K9 s;rw[zA8,zBh] at q2;lia
     refine qi6 (qB1 ?_);refine qab1 (i:=1) (p:=[2]) (ys:=N6 g) (d0:=Aa n wr g) rfl rfl rfl ?_;refine qap6 (qd0 (y:=.int N) rfl rfl (qh3 ?_));refine qb6 (x:=b) (qe5 rfl B.known) (qb6 (x:=.int n) rfl (qO7 (m:=n) rfl B rfl (by decide) (by lia) (by lia) λ h b1 U J B1=>?_));refine qc1 ?_;refine qa0 (a:=D.int n) rfl ?_;refine qa0 (a:=b1) (qe5 rfl B1.known) ⟨b1,n,h,E,rfl,B1,n1,n2,U,J,λ A b2 l B2=>?_⟩;refine⟨lt2,qa0 (a:=(N6 g++[D.q [D.int N,D.int A]],D.non)) (if_pos (by unfold N6;rw[zA8];unfold big;lia)) ?_⟩;have e:N6 g++[.q [.int N,.int A]]=N6 (g++[(N,A)]):=by unfold N6;rw[zBe];rfl
     rw[e];refine u _ ⟨b2,g++[(N,A)],_,rfl,B2,?_,?_⟩
     . rw[zBe,s,zBk,a7]
       rfl
     intro q C;rcases zAj.mp C with C | C
     . exact M q C
     rw[zAg.mp C];exact l
   rintro c ⟨b,g,r,rfl,B,s,M⟩;rw[zAi,qj7,zC1] at s;exact o _ ⟨b,g,r,rfl,B,s,M⟩
 rintro c ⟨b,g,r,rfl,B,s,M⟩;have a9:g.length<=12:=by
   have q2:=congrArg K9 s;rw[zA8] at q2;lia
 have b0:(g.map (·.1)).Nodup:=by
   rw[s];exact nd.sublist (K6 _ _)
 have h3:0<=told % 3:=zC4 told (by decide);have h4:told % 3 < 3:=zBy told (by decide);refine qb9 (λ c=>∃ b g t,c=[b,Aa n wr g,.u,.int n,.int way,.l false [.int g1,.int g2],kL f,t,G,r,.int told]/\Oe E b/\Drawn f g) (λ K o=>?_) ?_
 . refine qan2 (n:=told % 3) (Ae rfl rfl (Db (by decide))) (qD8 (by lia) (by lia)) ?_
   refine qd6 (λ i c=>∃ b g t,c=[b,Aa n wr g,.u,.int n,.int way,.l false [.int g1,.int g2],kL f,t,G,r,.int told]/\Oe E b/\g.length<=12+i/\(g.map (·.1)).Nodup/\(∀ q∈g,qs0 q.2)/\(∀ q∈g,q.1∈f∨(300000000000000000<=q.1/\q.1 < 300000000000000000+64 * (i:Int)+told))) _ 0 _ ⟨b,g,t,rfl,B,by lia,b0,M,λ q C=>.inl ?_⟩ ?_ ?_
   . have:q.1∈g.map (·.1):=zAt.mpr ⟨q,C,rfl⟩
     rw[s] at this;exact L9 this
   . rintro i x S c ⟨b,g,t,rfl,B,hlen9,O,W,H⟩ K2 u
     rw[zAi] at hlen9 H u;obtain⟨hi,rfl⟩:=qG1 S;refine qi6 (qB1 ?_);refine qab1 (i:=1) (p:=[2]) (ys:=N6 g) (d0:=Aa n wr g) rfl rfl rfl ?_;refine qd9 (y:=.int 0) rfl (qap6 (qd9 (y:=.int (3 * 100000000000000000+64 * (i:Int)+told)) (Ae (x:=.int (3 * 100000000000000000+64 * (i:Int))) (Ae (Ae (x:=.int 3) rfl rfl (Hw (by decide))) (Ae (x:=.int 64) rfl rfl (Hw (by decide))) rfl) rfl rfl) (qh3 ?_)));refine qb6 (x:=b) (qe5 rfl B.known) (qb6 (x:=.int n) rfl (qd9 (y:=.int 0) rfl ?_));refine qc1 ?_;refine qa0 (a:=D.int n) rfl ?_;refine qa0 (a:=b) (qe5 rfl B.known) ⟨b,n,0,E,rfl,B,n1,n2,by decide,by lia,λ A b2 l B2=>?_⟩;refine⟨lt2,qa0 (a:=(D.q [D.int (3 * 100000000000000000+64 * (i:Int)+told),D.int A]::N6 g,D.non)) (if_pos ⟨by decide,by decide,by unfold N6;rw[zA8];unfold big;lia⟩) ?_⟩;have a8:¬ (3 * 100000000000000000+64 * (i:Int)+told)∈g.map (·.1):=λ z=>by
       obtain⟨q,C,e⟩:=zAt.mp z;rcases H q C with hh | hh
       . have:=lk _ hh
         rw[e] at this;rcases this with w | w<;>lia
       lia
     refine u _ ⟨b2,(3 * 100000000000000000+64 * (i:Int)+told,A)::g,_,rfl,B2,by rw[zAf];lia,by rw[zAo];exact zBw.mpr ⟨a8,O⟩,?_,?_⟩
     . intro q C
       rcases zAh.mp C with rfl | C
       . exact l
       exact W q C
     intro q C;rcases zAh.mp C with rfl | C
     . refine .inr ⟨?_,?_⟩
       . show 300000000000000000<=3 * 100000000000000000+64 * (i:Int)+told
         lia
       show 3 * 100000000000000000+64 * (i:Int)+told < 300000000000000000+64 * ((i+1:Nat):Int)+told;lia
     rcases H q C with z | z
     . exact .inl z
     exact .inr ⟨z.1,by lia⟩
   rintro c ⟨b,g,t,rfl,B,hlen9,O,W,H⟩;rw[zAi,qA5] at hlen9 H;refine o _ ⟨b,g,t,rfl,B,by lia,O,λ q C=>?_,W⟩;rcases H q C with z | z
   . exact .inl z
   exact .inr ⟨z.1,by lia⟩
 rintro c ⟨b,g,t,rfl,B,Dr⟩;exact q b f g B nd lk (by lia) (λ h=>V (by lia)) Dr
theorem qC2:qa9 ["_law_case_here", "_law_room", "_law_one", "_law_other_here", "_law_mine", "_law_others"] ["_law_case_here", "_law_room", "_law_one", "_law_other_here"] (qa3 qL1):=by walk_at "s"
def qaj0:VSp:=Aw λ ds d=>∃ n wr ps r x y,ds=[Aa n wr ps,.int r,.int x,.int y]/\1<=n/\(ps.map (·.1)).Nodup/\d=.bl (qe3 n wr ps r x y)
theorem qak8(T:Txt K mg a):VFn P w K mg base 3 a.f38 a.d38 ["_law_case_here", "_law_room", "_law_one", "_law_other_here"] qaj0:=by
 refine VFn.mk2 T.d38.F qC2 (wOf [true,true,true,true]) qb2 (by walk_at "l") (λ _ _ _ _ _ _ _ e=>⟨_,(Ab (Ak 4 qC2.nd (Aj T.d37 (qA1 T) qa1 (rm e) (vaN 0 (vaN 2 (vaN 1 Ac))))) (Ab (Ak 5 qC2.nd (Aj T.d37 (qA1 T) qa1 (rm e) (vaN 0 (vaN 3 (vaN 1 Ac))))) (Ab (sif (tor (q2 (Am Br (qa8 _)) B6 (vnm 4) A7) (Iv (q2 (Am Br (qa8 _)) B6 (vnm 5) A7))).te (Ag (At (qa5 (v2 (A6 qk6 (qa8 _)) qo6 (vnm 4) A7)))) Av) (Ag (At (qa5 (vor (v2 (A6 Bp (qa8 _)) Bz (vnm 4) (vnm 5)) (Hr (vand (v2 (A6 (qk7 e.u64) (qa8 _)) Bh (vnm 4) (vnm 5)) (Hr (v2 (A6 Du (qa8 _)) Eh (vnm 2) (vnm 3)))))))))))),λ p Q s h=>?_⟩);obtain⟨d,⟨n,wr,c,r,x,y,rfl,j,k,rfl⟩,q⟩:=h;refine Au [Aa n wr c,.int r,.int x,.int y,.u,.u] rfl ?_;refine qb3 [Aa n wr c,.int r,.int x,.int y,Dg (An n wr c x r),.u] (λ K i=>qV6 (x:=Aa n wr c) (y:=.int x) (w:=.int r) rfl rfl rfl rfl rfl ⟨n,wr,c,x,r,rfl,j,k,rfl⟩ rfl i) ?_;refine qb3 [Aa n wr c,.int r,.int x,.int y,Dg (An n wr c x r),Dg (An n wr c y r)] (λ K i=>qV6 (x:=Aa n wr c) (y:=.int y) (w:=.int r) rfl rfl rfl rfl rfl ⟨n,wr,c,y,r,rfl,j,k,rfl⟩ rfl i) ?_;unfold qe3 at q;cases m:An n wr c x r with
 | none =>
   rw[m] at q;exact qg7 true (λ Q q=>q) (λ _=>q) nofun
 | some f =>
   rw[m] at q;cases o:An n wr c y r with
   | none =>
     rw[o] at q;exact qg7 true (λ Q q=>q) (λ _=>q) nofun
   | some g =>
     rw[o] at q;refine qg7 false (λ Q q=>q) nofun λ _=>?_
     exact qi3 _ (qaO3 (a:=decide (g < f)) rfl (qaf0 (a:=decide (f=g)) (b:=decide (x < y)) rfl rfl)) q
theorem qz8:qa9 ["_law_case_here", "_law_rooms", "_law_key_here", "_law_room", "_law_step"] ["_law_case_here", "_law_rooms", "_law_key_here"] (qa3 qaw6):=by walk_at "s"
def qaG0:VSp:=λ ds Q _=>∃ n wr ps g S key,ds=[Aa n wr ps,rL n g,.int key]/\1<=n/\n<=64/\(ps.map (·.1)).Nodup/\Kept n.toNat wr (N2 n ps) g S/\¬ key∈S /\
 (∀ g',Kept n.toNat wr (N2 n ps) g' (S++[key])->Q (.bl true) [Aa n wr ps,rL n g',.int key]) /\
 ((∀ e,¬ Gk n.toNat wr (N2 n ps) g key e)->∀ g',Q (.bl false) [Aa n wr ps,rL n g',.int key])
theorem qaJ9(T:Txt K mg a):VFn P w K mg base 4 a.f39 a.d39 ["_law_case_here", "_law_rooms", "_law_key_here"] qaG0:=by
 refine VFn.mk2 T.d39.F qz8 (wOf [true,true,false]) (by walk_at "m") (by walk_at "l") (λ _ _ _ _ _ _ _ k=>⟨_,(Ab (Ak 3 qz8.nd (Aj T.d36 (qD4 T) qa1 (rm k) (vaN 0 (vaN 2 Ac)))) (Ab (qU2 Nd T.Ce (Da (vaV (qb4 (v2 (Ap qb0) Ah (vnm 0) Af)) Ac)) (A8 4 qz8.nd) (Ab (sif (q2 (Am Br (qa8 _)) B6 (v2 (Ap qb0) Ah (vnm 1) (vnm 3)) A7) (Ab (Fc (qb4 (vnm 2)) (Eb (vpn 1) (vnm 3))) (Ag (At (qa5 vbl)))) Av) (Ab (sif (te (Aj T.d38 (qak8 T) qa1 (rm k) (vaN 0 (vaN 3 (vaN 2 (vaV (qb4 (v2 (Ap qb0) Ah (vnm 1) (vnm 3))) Ac)))))) (Ag (Fc (qa5 (F7 (qa2 (vnm 2) (qa2 (v2 (Ap qb0) Ah (vnm 1) (vnm 3)) qa7 rfl) rfl))) (Ez (n:=2) rfl (qp3 (Eb (vpn 1) (vnm 3)) (qp3 (A8 2 qz8.nd) Ey))))) Av) (Ab (Ak 3 qz8.nd (qa5 (v2 (Al ql8) ql7 (vnm 3) Af))) (Ab (sif (Ho (q2 (Am (qk7 k.u64) (qa8 _)) Bh (vnm 3) (v2 (Ap qb0) Ah (vnm 0) Af)) (Fe (B9 (tv (v2 (Ap qb0) Ah (vnm 0) Af))))).te (Ag (At (qa5 vbl))) Av) (Ag (Ak 3 qz8.nd (qa5 (v2 (Al qj5) qj4 (vnm 3) (v2 (Ap qb0) Ah (vnm 0) Af)))))))))) (Ag (At (qa5 vbl))))),λ o Q V h=>?_⟩);obtain⟨n,wr,j,g,S,f,rfl,v,n2,L,KP,G,kT,X⟩:=h;have H:=Bk (ps:=j) v f;have M:(S++[f]).Nodup:=zBt.mpr ⟨KP.h.1,(by simp),λ x B y I e=>G (by rw[<- zAg.mp I,<- e];exact B)⟩;refine Au [Aa n wr j,rL n g,.int f,.u,.u] rfl ?_;refine qb3 [Aa n wr j,rL n g,.int f,.int (N2 n j f:Nat),.u] (λ K p=>qM2 (x:=Aa n wr j) (y:=.int f) (d:=.int (N2 n j f:Nat)) rfl rfl rfl ⟨n,wr,j,f,rfl,v,L,by rw[ql0 v]⟩ rfl p) ?_;by_cases Y:∃ e,Gk n.toNat wr (N2 n j) g f e
 . obtain⟨e,Fr⟩:=Y
   refine qb9 (λ _=>False) (λ K p=>?_) λ _ h=>h.elim
   refine qx2 (n:=n) rfl (qD8 (by lia) (by lia)) ?_;have N:dist n.toNat (N2 n j f) (N2 n j f)=0:=(qb5 H H).mpr rfl;refine qd6 (λ i o=>∃ g2 c r t,o=[Aa n wr j,rL n g2,.int c,.int (r:Nat),t]/\Row.Walk n.toNat wr (N2 n j) (S++[f]) f e g2 c r/\dist n.toNat (N2 n j f) r=i) _ 0 _ ⟨g,f,N2 n j f,_,rfl,KP.start G Fr,N⟩ ?_ ?_
   . rintro i x B o ⟨g2,c,r,t,rfl,W,J⟩ K2 A
     rw[zAi] at J A;obtain⟨hi,rfl⟩:=qG1 B;have k:=W.hr;refine qi6 (Au [Aa n wr j,rL n g2,.int c,.int (r:Nat),.int (i:Nat)] rfl ?_);cases s:g2 r with
     | none =>
       refine qg9 true (Ae (Ae rfl rfl (Bw k)) rfl (by rw[s];rfl)) (λ _=>?_) nofun;refine qb3 [Aa n wr j,rL n (Row.set g2 r c),.int c,.int (r:Nat),.int (i:Nat)] (λ K p=>?_) ?_
       . refine qz6 (d:=.int c) (ys:=N5 n.toNat g2) rfl rfl rfl rfl (qM6 k) ?_
         rw[qq0];exact p
       exact kT _ (W.done M s)
     | some y =>
       refine qg9 false (Ae (Ae rfl rfl (Bw k)) rfl (by rw[s];rfl)) nofun λ _=>?_
       have B:wr=false->N2 n j c<=r:=λ h=>(W.ln h).2.1
       have I:wr=false->N2 n j y<=r:=λ h=>(W.ln h).2.2 r y k s
       have lt:=W.lt s;have nx:=W.nx s;refine qb9 (λ o=>∃ g3 u,o=[Aa n wr j,rL n g3,.int u,.int (r:Nat),.int (i:Nat)]/\Row.Walk n.toNat wr (N2 n j) (S++[f]) f e g3 u (Row.next n.toNat r)) (λ K p=>?_) ?_
       . refine if_e (b:=qe3 n wr j (r:Nat) c y) (λ Q V q=>?_) (λ C=>?_) (λ C=>?_)
         . refine qb6 (x:=Aa n wr j) rfl (qb6 (x:=.int (r:Nat)) rfl (qb6 (x:=.int c) rfl (qd0 (y:=.int y) (Ae rfl rfl (by rw[Bw k,s];rfl)) rfl ?_)))
           refine qc1 ?_;refine qa0 (a:=D.int c) rfl ?_;refine qa0 (a:=D.int (r:Nat)) rfl ?_;exact(qa0 (a:=Aa n wr j) rfl (qg6 (d:=.bl (qe3 n wr j (r:Nat) c y)) ⟨n,wr,j,(r:Nat),c,y,rfl,v,L,rfl⟩ q))
         . have ha:=(qp7 v k B I).mp C
           refine qap9 (x:=.int c) (y:=.int y) (ys:=N5 n.toNat g2) ?_ rfl rfl (qM6 k) ?_
           . exact qap7 rfl (Ae (x:=rL n g2) (y:=.int (r:Nat)) rfl rfl (by rw[Bw k,s];rfl)) rfl rfl
           rw[qq0];exact p _ ⟨_,y,rfl,W.swap s ha⟩
         exact p _ ⟨g2,c,rfl,W.on s (λ h=>by rw[(qp7 v k B I).mpr h] at C;cases C)⟩
       rintro o ⟨g3,u,rfl,W3⟩;refine qb3 [Aa n wr j,rL n g3,.int u,.int ((r:Int)+1),.int (i:Nat)] (λ K p=>p) ?_;have O:((decide ((r:Int)+1=n))&&!wr)=false:=by
         cases wr with
         | true=>rw[Bool.not_true,Bool.and_false]
         | false =>
           have:=(W.ln rfl).1
           have d1:=dor n.toNat (N2 n j f) r;have d2:=dor n.toNat (N2 n j f) e
           have:=W.he
           rw[zAl (by lia)];rfl
       refine qg7 _ (λ Q q=>qi8 (decide ((r:Int)+1=n)) (!wr) (λ Q q=>qe9 (Ae rfl (y:=.int n) rfl rfl) q) (λ _ Q q=>qn9 (b:=wr) rfl q) q) (λ h=>by rw[O] at h;cases h) λ _=>?_
       refine qs3 (d:=.int (Row.next n.toNat r:Nat)) (Ae rfl (y:=.int n) rfl (by rw[Db (by lia),qL9 v k])) ?_;exact A _ ⟨g3,u,_,_,rfl,W3,by lia⟩
   rintro o ⟨g2,c,r,t,rfl,W,J⟩
   have:=qe0 W.hr H
   unfold Bj at J;rw[zA8,zAv] at J;lia
 have R:∀ e,¬ Gk n.toNat wr (N2 n j) g f e:=λ e z=>Y ⟨e,z⟩
 have full:∀ e,e < n.toNat->(wr=false->N2 n j f<=e)->∃ x,g e=some x:=λ e U E=>by
   cases h:g e with
   | some x=>exact⟨x,rfl⟩
   | none=>exact absurd ⟨U,h,E⟩ (R e)
 refine qb9 (λ o=>∃ g2 c Z t,o=[Aa n wr j,rL n g2,.int c,Z,t]) (λ K p=>?_) ?_
 . refine qx2 (n:=n) rfl (qD8 (by lia) (by lia)) ?_
   refine qd6 (λ i o=>∃ g2 c r t,o=[Aa n wr j,rL n g2,.int c,.int (r:Nat),t]/\r < n.toNat/\(wr=false->N2 n j f<=r)/\∀ e,e < n.toNat->(wr=false->N2 n j f<=e)->∃ x,g2 e=some x) _ 0 _ ⟨g,f,N2 n j f,_,rfl,H,λ _=>zA4 _,full⟩ ?_ ?_
   . rintro i x B o ⟨g2,c,r,t,rfl,k,E,full2⟩ K2 A
     obtain⟨hi,rfl⟩:=qG1 B;refine qi6 (Au [Aa n wr j,rL n g2,.int c,.int (r:Nat),.int (i:Nat)] rfl ?_);obtain⟨y,s⟩:=full2 r k E;refine qg9 false (Ae (Ae rfl rfl (Bw k)) rfl (by rw[s];rfl)) nofun λ _=>?_
     refine qb9 (λ o=>∃ g3 u,o=[Aa n wr j,rL n g3,.int u,.int (r:Nat),.int (i:Nat)]/\∀ e,e < n.toNat->(wr=false->N2 n j f<=e)->∃ x,g3 e=some x) (λ K p=>?_) ?_
     . refine if_e (b:=qe3 n wr j (r:Nat) c y) (λ Q V q=>?_) (λ C=>?_) (λ C=>?_)
       . refine qb6 (x:=Aa n wr j) rfl (qb6 (x:=.int (r:Nat)) rfl (qb6 (x:=.int c) rfl (qd0 (y:=.int y) (Ae rfl rfl (by rw[Bw k,s];rfl)) rfl ?_)))
         refine qc1 ?_;refine qa0 (a:=D.int c) rfl ?_;refine qa0 (a:=D.int (r:Nat)) rfl ?_;exact(qa0 (a:=Aa n wr j) rfl (qg6 (d:=.bl (qe3 n wr j (r:Nat) c y)) ⟨n,wr,j,(r:Nat),c,y,rfl,v,L,rfl⟩ q))
       . refine qap9 (x:=.int c) (y:=.int y) (ys:=N5 n.toNat g2) ?_ rfl rfl (qM6 k) ?_
         . exact qap7 rfl (Ae (x:=rL n g2) (y:=.int (r:Nat)) rfl rfl (by rw[Bw k,s];rfl)) rfl rfl
         rw[qq0];refine p _ ⟨_,y,rfl,λ e U E=>?_⟩;by_cases z:e=r
         . rw[z,Row.qc2];exact⟨_,rfl⟩
         rw[Row.qd8 z];exact full2 e U E
       exact p _ ⟨g2,c,rfl,full2⟩
     rintro o ⟨g3,u,rfl,full3⟩;have nr:=nor n.toNat r;refine qb3 [Aa n wr j,rL n g3,.int u,.int ((r:Int)+1),.int (i:Nat)] (λ K p=>p) ?_;refine qg7 _ (λ Q q=>qi8 (decide ((r:Int)+1=n)) (!wr) (λ Q q=>qe9 (Ae rfl (y:=.int n) rfl rfl) q) (λ _ Q q=>qn9 (b:=wr) rfl q) q) (λ h=>?_) λ h=>?_
     . exact X R g3
     refine qs3 (d:=.int (Row.next n.toNat r:Nat)) (Ae rfl (y:=.int n) rfl (by rw[Db (by lia),qL9 v k])) ?_;refine A _ ⟨g3,u,_,_,rfl,Row.qP3 k,λ z=>?_,full3⟩
     have:=E z
     subst z;rw[Bool.not_false,Bool.and_true] at h
     have:=zB8 h
     lia
   rintro o ⟨g2,c,r,t,rfl,_⟩;exact p _ ⟨g2,c,_,_,rfl⟩
 rintro o ⟨g2,c,Z,t,rfl⟩;exact X R g2
theorem qf9:qa9 ["_law_case_here", "_law_keys_here", "_law_found", "_law_rooms", "_law_key_here", "_law_after"] ["_law_case_here", "_law_keys_here"] (qa3 qv7):=by walk_at "s"
theorem qac2{z:Bool}{g:Nat->Option Int}:G7 (.l z (N5 N g))=some (.l false (N5 N g)):=qk2 (qx0 N g)
def qU1:VSp:=λ ds Q _=>∃ n wr ps a ks,ds=[Aa n wr ps,.l a (N4 ks)]/\1<=n/\n<=64/\(ps.map (·.1)).Nodup/\ks.Nodup/\ks.length<=200 /\
 ∀ S g,S.Sublist ks->(ks≠[]->S≠[])->Kept n.toNat wr (N2 n ps) g S->Q (kL S) ds
theorem qV2(T:Txt K mg a):VFn P w K mg base 5 a.f40 a.d40 ["_law_case_here", "_law_keys_here"] qU1:=by
 refine VFn.mk2 T.d40.F qf9 (wOf [true,true]) (by walk_at "m") (by walk_at "l") (λ _ _ _ _ _ _ _ M=>⟨_,(Ab (Ak 2 qf9.nd (qa5 (Dk qa7))) (Ab (Ak 3 qf9.nd (qa5 (v2 (Al qo7) qo5 (Dk (qa2 A7 qa7 rfl)) (v2 (Ap qb0) Ah (vnm 0) Af)))) (Ab (Jb Nd (vpn 1) (A8 4 qf9.nd) (Ab (Ak 5 qf9.nd (qa5 (Ev qd2 qx7.ops T.Ch (qa2 (vnm 3) qa7 rfl)))) (Ag (sif (te (Aj T.d39 (qaJ9 T) qa1 (rm M) (vaN 0 (vaN 5 (vaN 4 Ac))))) (Ab (Ak 3 qf9.nd (emv 5)) (Ag (Dl (Ga 2 qM0 Ni Nj Nk qh1 (vaN 4 Ac))))) Av)))) (Ag (At (emv 2)))))),λ p Q V h=>?_⟩);obtain⟨n,wr,c,u,j,rfl,A,I,N,B,C,q⟩:=h;refine Au [Aa n wr c,.l u (N4 j),.u,.u,.u,.u] rfl ?_;refine qb3 [Aa n wr c,.l u (N4 j),kL [],.u,.u,.u] (λ K o=>o) ?_;refine qb3 [Aa n wr c,.l u (N4 j),kL [],.l false (N5 n.toNat λ _=>none),.u,.u] (λ K o=>qa0 (Ae rfl (y:=.int n) rfl (qD7 (by lia) I)) o) ?_;refine qb9 (λ p=>∃ S g J r s,p=[Aa n wr c,.l u (N4 j),kL S,J,r,s]/\S.Sublist j/\(j≠[]->S≠[])/\Kept n.toNat wr (N2 n c) g S) (λ K o=>?_) ?_
 . refine qa0 (a:=(1,[])) rfl (qa0 (a:=D.l u (N4 j)) rfl (qa0 (a:=N4 j) rfl ⟨qk9 j,λ w=>?_⟩))
   refine qd6 (λ i p=>∃ S g r s,p=[Aa n wr c,.hole w,kL S,rL n g,r,s]/\S.Sublist (j.take i)/\(1<=i->S≠[])/\Kept n.toNat wr (N2 n c) g S) _ 0 _ ⟨[],_,_,_,rfl,.slnil,λ h=>absurd h (by decide),Kept.none (by lia) (Bk A)⟩ ?_ ?_
   . rintro i y O p ⟨S,g,r,s,rfl,b,f,KP⟩ K2 t
     rw[zAi] at b f t;obtain⟨k,E,rfl⟩:=qaA7 O;have G:¬ k∈S:=λ z=>qw3 B E (b.subset z)
     have L:S.length<=200:=zAm (b.trans (K6 _ _)).length_le C;refine qb3 [Aa n wr c,.hole w,kL S,rL n g,.int k,rL n g] (λ K o=>qa0 (qac2 (z:=false)) o) ?_;refine qap2 (x:=Aa n wr c) (y:=rL n g) (w:=.int k) rfl rfl rfl rfl rfl ⟨n,wr,c,g,S,k,rfl,A,I,N,KP,G,λ v K'=>?_,λ R v=>?_⟩
     . refine qa0 (a:=[Aa n wr c,.hole w,kL S,rL n g,.int k,rL n v]) rfl (qa0 (a:=true) rfl ?_)
       refine Bu rfl ?_;refine qb3 [Aa n wr c,.hole w,kL S,rL n v,.int k,.u] (λ K o=>o) ?_;refine qaP7 (ys:=N4 S) (d:=.int k) rfl rfl rfl (by decide) (by rw[qj7];unfold big;lia) ?_;rw[qac6];refine t _ ⟨S++[k],v,_,_,rfl,?_,λ _=>by simp,K'⟩;rw[qo0 E];exact b.append (List.Sublist.refl _)
     refine qa0 (a:=[Aa n wr c,.hole w,kL S,rL n g,.int k,rL n v]) rfl (qa0 (a:=false) rfl ?_);refine E6 (by decide) (t _ ⟨S,g,_,_,rfl,b.trans (by rw[qo0 E];exact List.sublist_append_left _ _),λ _=>f ?_,KP⟩);refine Nat.one_le_iff_ne_zero.mpr λ H=>?_
     subst H;have U:S=[]:=List.sublist_nil.mp b;subst U;refine R (N2 n c k) ⟨Bk A k,?_,λ _=>zA4 _⟩;cases e:g (N2 n c k) with
     | none=>rfl
     | some z=>have:=(KP.h.2 z).mpr ⟨_,Bk A k,e⟩;simp at this
   rintro p ⟨S,g,r,s,rfl,b,f,KP⟩;rw[zAi,qj7] at b f;rw[zC1] at b;exact qa0 (qag7 rfl) (o _ ⟨S,g,_,r,s,rfl,b,λ h=>f (zCk.mpr h),KP⟩)
 rintro p ⟨S,g,J,r,s,rfl,b,f,KP⟩;exact q S g b f KP
theorem qu0:qa9 ["_law_bag_here", "_law_most", "_law_case_here", "_law_full", "_law_keys_here"] ["_law_bag_here", "_law_most"] (qa3 qL0):=by walk_at "s"
def qai9:VSp:=λ ds Q _=>∃ b ns M,ds=[b,.int M]/\Oe ns b/\1<=M/\M<=64/\∀ a n wr ps S g,Oe ns a->1<=n->n<=64->(ps.map (·.1)).Nodup->Ik ps->Kept n.toNat wr (N2 n ps) g S->(∀ k∈S,Aq k)->S≠[]->Q (.q [Aa n wr ps,kL S]) [a,.int M]
theorem qak7(T:Txt K mg a):VFn P w K mg base 6 a.f41 a.d41 ["_law_bag_here", "_law_most"] qai9:=by
 refine VFn.mk2 T.d41.F qu0 (wOf [true,true]) (by walk_at "m") (by walk_at "l") (λ _ _ _ _ _ _ _ o=>⟨_,(Ab (Ak 2 qu0.nd (Aj T.d33 (qaz4 T) qa1 (rm o) (vaN 0 (vaN 1 Ac)))) (Ab (Ak 3 qu0.nd (Aj T.d32 (qc4 T) qa1 (rm o) (vaN 0 (vaV (qa5 Af) Ac)))) (Ab (Ak 4 qu0.nd (Aj T.d35 (qaz2 T) qa1 (rm o) (vaN 0 (vaN 2 (vaV (e2vP (Ap qb0) Ah (elst (vaV (e2 (Al ql8) ql7 (qa5 Af) (Aj T.d32 (qc4 T) qa1 (rm o) (vaN 0 (vaV (qb4 (v2 (Ap qb0) Ah (vnm 2) Af)) Ac)))) (vaV (qb4 (v2 (Ap qb0) Ah (vnm 2) Af)) (vaV (qa5 (v2 (Al ql8) ql7 (v2 (Ap qb0) Ah (vnm 2) Af) Af)) Ac)))) (vnm 3)) Ac))))) (Ag (At (Gp (vaN 2 (vaV (Aj T.d40 (qV2 T) qa1 (rm o) (vaN 2 (vaN 4 Ac))) Ac)))))))),λ f Q U h=>?_⟩);obtain⟨b,p,M,rfl,B,M1,M2,q⟩:=h;refine Au [b,.int M,.u,.u,.u] rfl ?_;refine qb9 (λ f=>∃ b n wr,f=[b,.int M,Aa n wr [],.u,.u]/\Oe p b/\1<=n/\n<=64) (λ K r=>?_) ?_
 . exact qN8 (x:=b) (y:=.int M) (qe5 rfl B.known) rfl (qe5 rfl B.known) ⟨b,p,M,rfl,B,M1,M2,λ s n wr B' t A=>r _ ⟨s,n,wr,rfl,B',t,A⟩⟩
 rintro f ⟨b,n,wr,rfl,B,t,A⟩;refine qb9 (λ f=>∃ b full,f=[b,.int M,Aa n wr [],.int full,.u]/\Oe p b/\0<=full/\full < 3) (λ K r=>?_) ?_
 . exact qf1 rfl B rfl (by decide) (by decide) λ v s I J B'=>r _ ⟨s,v,rfl,B',I,J⟩
 rintro f ⟨b,full,rfl,B,L,f1⟩;refine qb9 (λ f=>∃ b c e,f=[b,.int M,Aa n wr e,.int full,kL c]/\Oe p b/\c.Nodup/\(∀ k∈c,qs0 k)/\c.length<=70/\c≠[]/\Drawn c e) (λ K r=>?_) ?_
 . refine qi0 (qn0 ?_)
   refine qb6 (x:=b) (qe5 rfl B.known) ?_;refine qb6 (x:=Aa n wr []) rfl ?_;refine qh3 (qap8 (qab9 (qh3 (qaF5 (x:=.int 1) rfl ?_))));refine qX2 (ds:=[b,.int M,Aa n wr [],.int full,.u]) (m:=n) rfl B rfl (by lia) (by lia) λ v G V W B1=>?_
   refine qa0 (a:=D.int (1+v)) rfl ?_;refine qd0 (y:=.int n) rfl rfl (qd9 (y:=.int (n+6)) rfl (qc1 ⟨lt3,?_⟩));refine qa0 (a:=D.int full) rfl ⟨rfl,?_⟩;obtain⟨d,H,N⟩:=qB3 (xs:=[D.int (1+v),D.int n,D.int (n+6)]) (i:=full) L f1;obtain⟨m,rfl,X,Y⟩:∃ m:Int,d=.int m/\1<=m/\m<=70:=by
     simp only[zAh,zBn,or_false] at H;rcases H with rfl | rfl | rfl
     . exact⟨_,rfl,by lia,by lia⟩
     . exact⟨_,rfl,by lia,by lia⟩
     exact⟨_,rfl,by lia,by lia⟩
   refine qa0 (a:=D.int m) N ?_;refine qc1 ?_;refine qa0 (a:=Aa n wr []) rfl ?_;refine qa0 (a:=G) (qe5 rfl B1.known) ?_;refine⟨G,n,wr,m,p,rfl,B1,t,by lia,by lia,by lia,λ s c e B' E C u j Dr=>?_⟩;exact r _ ⟨s,c,e,rfl,B',E,C,by lia,j (by lia),Dr⟩
 rintro f ⟨b,c,e,rfl,B,E,C,u,j,Dr⟩;refine qi2 (qai2 (qb6 (x:=Aa n wr e) rfl (qh3 ?_)));refine qN8 (x:=Aa n wr e) (y:=kL c) rfl rfl rfl ⟨n,wr,e,false,c,rfl,t,A,Dr.nd,E,by lia,λ S g O z KP=>?_⟩;refine qa0 (a:=[b,.int M,Aa n wr e,.int full,kL c]) rfl (qc1 ?_);refine qa0 (a:=Aa n wr e) rfl ⟨lt2,?_⟩;exact q b n wr e S g B t A Dr.nd (Dr.good C) KP (λ k R=>(C k (O.subset R)).num) (z j)
theorem qo4:qa9 ["_law_case_here", "_law_keys_here", "_law_at", "_law_rooms", "_law_found", "_law_room", "_law_after"] ["_law_case_here", "_law_keys_here", "_law_at", "_law_rooms"] (qa3 qK9):=by walk_at "s"
def qh0(N:Nat)(ok:Int->Nat->Bool):List Int->(Nat->Option Int)->List (Nat->Option Int)
 | [],g=>[g]
 | k::ks,g=>(Kz N).flatMap λ r=>if ((g r).isNone&&ok k r)=true then qh0 N ok ks (Row.set g r k) else []
def okB(n:Int)(wr:Bool)(ps:Pr)(k:Int)(r:Nat):Bool:=(An n wr ps k (r:Int)).isSome
theorem qM5{α β:Type}{f:α->List β}{c:Nat}(h:∀ a,(f a).length<=c):∀ l:List α,(l.flatMap f).length<=l.length * c
 | []=>by simp
 | x::l=>by
   rw[Ml,zAk,zAf,Nat.add_mul,Nat.one_mul]
   have:=qM5 h l
   have:=h x
   lia
theorem qu4{N:Nat}{ok:Int->Nat->Bool}:∀(ks:List Int)(g:Nat->Option Int),(qh0 N ok ks g).length<=N ^ ks.length
 | [],g=>by simp[qh0]
 | k::ks,g=>by
   have:=qM5 (f:=λ r=>if ((g r).isNone&&ok k r)=true then qh0 N ok ks (Row.set g r k) else []) (c:=N ^ ks.length) (λ r=>by
     show (if ((g r).isNone&&ok k r)=true then qh0 N ok ks (Row.set g r k) else []).length<=_;split
     . exact qu4 ks _
     exact zBi _) (Kz N)
   rw[zAv] at this;rw[zAf,Nat.pow_succ,Nat.mul_comm];exact this
theorem qD2{m:Nat}(h:N<=5)(h':m<=5):N ^ m<=3125:=zAm (Nat.pow_le_pow_left h m) (Nat.pow_le_pow_right (by decide) h':5 ^ m<=5 ^ 5)
def hsD(N:Nat)(gs:List (Nat->Option Int)):Ds:=gs.map λ g=>.l true (N5 N g)
theorem qad7(N:Nat)(gs:List (Nat->Option Int)):D.imms (hsD N gs)=true:=qE6 (λ _=>rfl) _
theorem qat3{hs:List (Nat->Option Int)}:hsD N gs++hsD N hs=hsD N (gs++hs):=by unfold hsD;rw[zBe]
theorem qal9(N:Nat)(gs:List (Nat->Option Int)):(hsD N gs).length=gs.length:=by unfold hsD;rw[zA8]
theorem qaC1:∀ l:Ds,(∀ d∈l,d=.non∨∃ k,d=.int k)->D.fzs l=l
 | [],_=>rfl
 | d::l,h=>by
   show d.fz::D.fzs l=_;rw[qaC1 l λ x a=>h x (zA3 _ a)];rcases h d zA7 with rfl | ⟨k,rfl⟩<;>rfl
theorem qaX9{z z':Bool}{hs:List (Nat->Option Int)}(h:gs.length+hs.length<=1000000):Gn (.l z (hsD N gs)) (.l z' (hsD N hs))=some (.l false (hsD N (gs++hs))):=by
 show gd _ (.l false (hsD N gs++hsD N hs))=_;rw[qat3];exact qk2 ⟨qad7 _ _,qad7 _ _,by rw[qal9,qal9];exact h⟩
def spE:Nat->VSp
 | 0=>λ _ _ _=>False
 | j+1=>λ ds Q _=>∃ n wr ps z ks m a g,ds=[Aa n wr ps,.l z (N4 ks),.int (m:Nat),.l a (N5 n.toNat g)]/\1<=n/\n<=5/\(ps.map (·.1)).Nodup/\ks.length<=5/\m<=ks.length/\ks.length - m<=j /\
   Q (.l false (hsD n.toNat (qh0 n.toNat (okB n wr ps) (ks.drop m) g))) ds
theorem qY3:∀ j,Bl (spE j)
 | 0=>λ _ _ _ _ _ _ _ h=>h
 | j+1=>λ s Q Q' t a b _ ⟨n,wr,c,z,d,m,e,g,f,i,k,l,o,p,r,q⟩=>⟨n,wr,c,z,d,m,e,g,f,i,k,l,o,p,r,b _ _ q⟩
abbrev qk3(n:Int)(wr:Bool)(ps:Pr) (z) (ks) (m) (z') (g) (F) (i) (a:D):=([Aa n wr ps,.l z (N4 ks),.int (m:Nat),.l z' (N5 n.toNat g),.l false (hsD n.toNat F),.int (i:Nat),a]:Ds)
theorem qG5(T:Txt K mg a):∀ j,VFn P w K mg base (j+2) a.f42 a.d42 ["_law_case_here", "_law_keys_here", "_law_at", "_law_rooms"] (spE j)
 | 0=>⟨⟨λ V H Q E ⟨_,_,_,_,_,h⟩=>Ny h,λ A outer s H args us V Q E _ _ _ _ ⟨_,_,_,_,_,h⟩=>Ny h⟩,qY3 0⟩
 | j+1=>by
   have qD5:∀ _:Txt K mg a,VFn P w K mg base (j+2) a.f42 a.d42 ["_law_case_here", "_law_keys_here", "_law_at", "_law_rooms"] (spE j):=λ T=>qG5 T j
   refine VFn.mk2 T.d42.F qo4 (wOf [true,true,true,true]) (qY3 _) (λ p Q W h=>by obtain⟨n,wr,b,z,f,m,l,g,e,_⟩:=h;rw[e];exact⟨rfl,rfl⟩) (λ _ _ _ _ _ _ _ G=>⟨_,(Ab (sif (q2 (Am (qk7 G.u64) (qa8 _)) Bh (vnm 2) (vbi qt9 qt8.ops T.Ci (qa2 (vnm 1) qa7 rfl))) (Ag (At (elst (vaV (efzV (qa5 (Ev qd2 qx7.ops T.Ch (qa2 (vnm 3) qa7 rfl)))) Ac)))) Av) (Ab (Ak 4 qo4.nd (qa5 (Dk qa7))) (Ab (qU2 Nd T.Ce (Da (vaV (qb4 (v2 (Ap qb0) Ah (vnm 0) Af)) Ac)) (A8 5 qo4.nd) (Ag (sif (Ho (q2 (Am Br (qa8 _)) B6 (v2 (Ap qb0) Ah (vnm 3) (vnm 5)) A7) (Fe (q2v (A6 qk6 (qa8 _)) (Am qk6 (qa8 _)) qo6 (Aj T.d37 (qA1 T) qa1 (G.mono (by lia)) (vaN 0 (vaV (qb4 (v2 (Ap qb0) Ah (vnm 1) (vnm 2))) (vaN 5 Ac)))) A7))).te (Ab (Ak 6 qo4.nd (qa5 (Ev qd2 qx7.ops T.Ch (qa2 (vnm 3) qa7 rfl)))) (Ab (Fc (qb4 (v2 (Ap qb0) Ah (vnm 1) (vnm 2))) (Eb (vpn 6) (vnm 5))) (Ag (Ak 4 qo4.nd (e2n 4 (Al ql8) ql7 (Aj T.d42 (qD5 T) qa1 (G.mono (by lia)) (vaN 0 (vaN 1 (vaV (qa5 (v2 (Al ql8) ql7 (vnm 2) Af)) (vaN 6 Ac)))))))))) Av))) (Ag (At (emv 4)))))),λ p Q W h=>?_⟩);obtain⟨n,wr,b,z,f,m,l,g,rfl,M,Y,O,Z,hm,hj,q⟩:=h;refine Au [Aa n wr b,.l z (N4 f),.int (m:Nat),.l l (N5 n.toNat g),.u,.u,.u] rfl ?_;have elen:f2 gEq (rdN 2) (A4 (fx1 Et) (Ax (rdN 1) λ _=>some [])) [Aa n wr b,.l z (N4 f),.int (m:Nat),.l l (N5 n.toNat g),.u,.u,.u]=some (.bl (decide (m=f.length))):=Ae (x:=.int (m:Nat)) rfl (qn5 rfl) (by
     rw[qj7];show some (D.bl ((m:Int) == ((f.length:Nat):Int)))=_;congr 2;by_cases h:m=f.length
     . rw[h,zB9,zAb rfl]
     rw[zAl h];exact zBs.mpr λ z=>h (Int.ofNat_inj.mp z))
   refine qg9 _ elen (λ h=>?_) λ h=>?_
   . have e:f.drop m=[]:=by rw[zAc h,Lg]
     rw[e] at q;refine qi2 ?_;refine qh3 (qr6 (qac2 (z:=l)) ?_);refine qc1 ⟨by show 1<=1000000;decide,?_⟩;show Q (.l false [.l true (D.fzs (N5 n.toNat g))]) [Aa n wr b,.l z (N4 f),.int (m:Nat),.l l (N5 n.toNat g)];rw[qaC1 _ λ _=>qaj8];exact q
   have a0:¬ m=f.length:=zB8 h;obtain⟨k,R⟩:∃ k,f[m]? = some k:=⟨f[m]'(by lia),by simp⟩
   have ed:f.drop m=k::f.drop (m+1):=by
     obtain⟨h1,h2⟩:=zA5.mp R;rw[zCe h1,h2]
   rw[ed] at q;have B:(N4 f)[m]? = some (.int k):=by unfold N4;rw[zAy,R];rfl
   obtain⟨S,rfl⟩:∃ S,j=S+1:=⟨j - 1,by lia⟩
   refine qb3 [Aa n wr b,.l z (N4 f),.int (m:Nat),.l l (N5 n.toNat g),.l false (hsD n.toNat []),.u,.u] (λ K t=>t) ?_;refine qb9 (λ p=>∃ u o,p=[Aa n wr b,.l z (N4 f),.int (m:Nat),.l l (N5 n.toNat g),.l false (hsD n.toNat (qh0 n.toNat (okB n wr b) (k::f.drop (m+1)) g)),u,o]) (λ K t=>?_) ?_
   . refine qx2 (n:=n) rfl (qD8 (by lia) (by lia)) ?_
     refine qd6 (λ i p=>i<=n.toNat/\∃ u o,p=[Aa n wr b,.l z (N4 f),.int (m:Nat),.l l (N5 n.toNat g),.l false (hsD n.toNat ((Kz i).flatMap λ r=>if ((g r).isNone&&okB n wr b k r)=true then qh0 n.toNat (okB n wr b) (f.drop (m+1)) (Row.set g r k) else [])),u,o]) _ 0 _ ⟨zBi _,_,_,rfl⟩ ?_ ?_
     . rintro i x hx p ⟨_,u,o,rfl⟩ K2 v
       rw[zAi] at v ⊢;obtain⟨U,rfl⟩:=qG1 hx;have I:∀ X:List (Nat->Option Int),(if ((g i).isNone&&okB n wr b k i)=true then qh0 n.toNat (okB n wr b) (f.drop (m+1)) (Row.set g i k) else [])=X->((Kz (i+1)).flatMap λ r=>if ((g r).isNone&&okB n wr b k r)=true then qh0 n.toNat (okB n wr b) (f.drop (m+1)) (Row.set g r k) else [])=((Kz i).flatMap λ r=>if ((g r).isNone&&okB n wr b k r)=true then qh0 n.toNat (okB n wr b) (f.drop (m+1)) (Row.set g r k) else [])++X:=λ X hX=>by
         rw[zCi,List.flatMap_append,Ml,List.flatMap_nil,zAe,hX]
       have J:((Kz i).flatMap λ r=>if ((g r).isNone&&okB n wr b k r)=true then qh0 n.toNat (okB n wr b) (f.drop (m+1)) (Row.set g r k) else []).length<=5 * 3125:=by
         refine zAm (qM5 (c:=3125) (λ r=>?_) (Kz i)) ?_
         . show (if ((g r).isNone&&okB n wr b k r)=true then qh0 n.toNat (okB n wr b) (f.drop (m+1)) (Row.set g r k) else []).length<=_
           split
           . exact zAm (qu4 _ _) (qD2 (by lia) (by rw[zBz];lia))
           exact zBi _
         rw[zAv];lia
       generalize hF:((Kz i).flatMap λ r=>if ((g r).isNone&&okB n wr b k r)=true then qh0 n.toNat (okB n wr b) (f.drop (m+1)) (Row.set g r k) else [])=F at I J ⊢;refine qi6 (Au (qk3 n wr b z f m l g F i o) rfl ?_);refine Hf ((g i).isNone&&okB n wr b k i) (λ Q q=>qi8 (g i).isNone (okB n wr b k i) (λ Q q=>qe9 (Ae (Ae rfl rfl (Bw U)) rfl (by cases g i<;>rfl)) q) (λ _ Q q=>?_) q) (λ L=>?_) λ L=>?_
       . refine qC9 (qn0 ?_)
         refine qb6 (x:=Aa n wr b) rfl ?_;refine qd0 (y:=.int k) (Ae rfl rfl (Gg B)) rfl ?_;refine qb6 (x:=.int (i:Nat)) rfl ?_;refine qc1 ?_;refine qa0 (a:=D.int (i:Nat)) rfl ?_;refine qa0 (a:=Aa n wr b) rfl ?_;refine qg6 (d:=Dg (An n wr b k (i:Nat))) ⟨n,wr,b,k,(i:Nat),rfl,M,O,rfl⟩ ?_;have ef:Hm (Dg (An n wr b k (i:Nat))) .non=some (.bl (okB n wr b k i)):=by
           unfold okB;cases An n wr b k (i:Nat)<;>rfl
         refine qa0 (a:=(qk3 n wr b z f m l g F i o)) rfl ?_;refine qa0 (a:=D.bl (okB n wr b k i)) ef ?_;exact qa0 (a:=okB n wr b k i) rfl q
       . have C:=I _ (if_pos L)
         refine qb3 (qk3 n wr b z f m l g F i (rL n g)) (λ K t=>qs3 (qac2 (z:=l)) t) ?_;refine qb3 (qk3 n wr b z f m l g F i (rL n (Row.set g i k))) (λ K t=>?_) ?_
         . refine qz6 (d:=.int k) (ys:=N5 n.toNat g) (Ae rfl rfl (Gg B)) rfl rfl rfl (qM6 U) ?_
           rw[qq0];exact t
         refine⟨rfl,?_⟩;refine qb6 (x:=Aa n wr b) rfl (qb6 (x:=.l z (N4 f)) rfl (qd9 (y:=.int ((m+1:Nat):Int)) rfl (qb6 (x:=rL n (Row.set g i k)) rfl (qc1 ?_))));refine qa0 (a:=D.l false (N5 n.toNat (Row.set g i k))) rfl ?_;refine qa0 (a:=D.l z (N4 f)) rfl ?_;refine qa0 (a:=Aa n wr b) rfl ?_;refine⟨n,wr,b,z,f,m+1,false,Row.set g i k,rfl,M,Y,O,Z,by lia,by lia,?_⟩;refine qa0 (a:=(qk3 n wr b z f m l g F i (rL n (Row.set g i k)))) rfl ?_;refine qa0 (a:=D.l false (hsD n.toNat (F++qh0 n.toNat (okB n wr b) (f.drop (m+1)) (Row.set g i k)))) (qaX9 (z:=false) (z':=false) ?_) ?_
         . have:=zAm (qu4 (N:=n.toNat) (ok:=okB n wr b) (f.drop (m+1)) (Row.set g i k)) (qD2 (by lia) (by rw[zBz];lia))
           lia
         rw[<- C];exact v _ ⟨by lia,_,_,rfl⟩
       have C:=I _ (if_neg (by rw[L];decide));rw[zAe] at C;rw[<- C];exact v _ ⟨by lia,_,_,rfl⟩
     rintro p ⟨_,u,o,rfl⟩;rw[zAi,qA5];exact t _ ⟨u,o,rfl⟩
   rintro p ⟨u,o,rfl⟩;exact q
theorem qD5(T:Txt K mg a):VFn P w K mg base 8 a.f42 a.d42 ["_law_case_here", "_law_keys_here", "_law_at", "_law_rooms"] (spE 6):=qG5 T 6
theorem qf6:qa9 ["_law_bag_here", "_law_case_here", "_law_keys_here", "_law_rooms", "_law_near", "_law_home_here", "_law_key_here", "_law_free", "_law_at"] ["_law_bag_here", "_law_case_here", "_law_keys_here"] (qa3 qK8):=by walk_at "s"
theorem qan0{wr:Bool}{g:Nat->Option Int}(m:∀ q,¬ Crowd N wr hm S q)(o:0 < N)(p:hm k < N)(H:Holds N g T)(inj:∀ i j k,i < N->j < N->g i=some k->g j=some k->i=j){R:List Int}(n:(T++[k]++R).Perm S)(r:wr=false->∀ x∈T,hm k<=hm x):∃ j,j < N/\g j=none/\(wr=false->hm k<=j):=by
 refine Classical.byContradiction λ s=>?_
 have all:∀ j,j < N->(wr=false->hm k<=j)->∃ x∈T,g j=some x:=λ j a t=>by
   cases e:g j with
   | none=>exact absurd ⟨j,a,e,t⟩ s
   | some x=>exact⟨x,(H.2 x).mpr ⟨j,a,e⟩,rfl⟩
 have fits:∀ c,(∀ j,c<=j->wr=false->hm k<=j)->N - c<=T.length:=λ c f=>by
   have:=qA0 (g:=g) (List.range' c (N - c)) T List.nodup_range' (λ i h=>by
     have:=List.mem_range'_1.mp h
     exact all i (by lia) (f i (by lia))) λ i h j a x l b=>by
       have:=List.mem_range'_1.mp h
       have:=List.mem_range'_1.mp a
       exact inj i j x (by lia) (by lia) l b
   rwa[List.length_range'] at this
 cases wr with
 | true =>
   have l:=fits 0 λ _ _ z=>nomatch z
   have b:=n.length_eq;simp only[zAk,zAf,zBv] at b;exact m 0 ⟨o,by rw[if_pos rfl];exact⟨rfl,by lia⟩⟩
 | false =>
   have l:=fits (hm k) λ j a _=>a
   have b:=(n.filter λ x=>decide (hm k<=hm x)).length_eq;rw[Mf,zAk,List.filter_eq_self.mpr (λ x d=>by
     rcases zAj.mp d with d | d
     . exact zAb (r rfl x d)
     rw[zAg.mp d];exact zAb (zA4 _))] at b
   simp only[zAk,zAf,zBv] at b;exact m (hm k) ⟨p,by rw[if_neg (by decide)];lia⟩
theorem Holds.set{g:Nat->Option Int}(H:Holds N g T)(f:¬ k∈T)(h:r < N)(e:g r=none):Holds N (Row.set g r k) (T++[k]):=by
 refine⟨zBt.mpr ⟨H.1,by simp,λ a j b l=>by rw[zAg.mp l];exact λ z=>f (z ▸ j)⟩,λ x=>?_⟩;rw[zAj,zAg,H.2 x];constructor
 . rintro (⟨i,d,c⟩ | rfl)
   . exact⟨i,d,by unfold Row.set;rw[if_neg λ z=>by rw[z,e] at c;cases c];exact c⟩
   exact⟨r,h,if_pos rfl⟩
 rintro⟨i,d,c⟩;unfold Row.set at c;split at c
 . exact .inr (Nc c).symm
 exact .inl ⟨i,d,c⟩
theorem qaM7{g:Nat->Option Int}(H:Holds N g T)(inj:∀ i j k,i < N->j < N->g i=some k->g j=some k->i=j)(c:¬ k∈T):∀ i j x,i < N->j < N->Row.set g r k i=some x->Row.set g r k j=some x->i=j:=λ i j x d e a b=>by
 unfold Row.set at a b;split at a<;>split at b
 . lia
 . cases a;exact absurd ((H.2 k).mpr ⟨j,e,b⟩) c
 . cases b;exact absurd ((H.2 k).mpr ⟨i,d,a⟩) c
 exact inj i j x d e a b
theorem qw4:∀ a:List (Int×Int),(N6 a).mapM Ee=some a
 | []=>rfl
 | q::a=>by
   show (D.q [.int q.1,.int q.2]::N6 a).mapM Ee=_;rw[Ms,qw4 a];rfl
theorem qaM2{p:Nat->Bool}(N:Nat):(Bj 0 N).filterMap (Dy λ x=>p x.toNat)=N4 (((Kz N).filter p).map λ i=>((i:Nat):Int)):=by
 unfold Bj N4
 induction Kz N with
 | nil=>rfl
 | cons j l a =>
   rw[zAo,zAz,show (0+(j:Int))=(j:Int) from Int.zero_add _];cases h:p j with
   | true=>rw[qA6 (p:=λ x=>p x.toNat) (k:=(j:Int)) h,zCl h,zAo,zAo,a]
   | false=>rw[qA7 (p:=λ x=>p x.toNat) (k:=(j:Int)) h,zCm (by rw[h];decide),a]
theorem t1_to{g:D->Option D}(h:ta ds (λ x ds1=>orF (g x) λ d=>Q d ds1) xe):t1 g ta ds Q xe:=h
theorem qaO1{g:VTG}(h:te ds (λ d ds1=>orF d.lstOf λ ys=>D.imms ys=true/\Dm g t e ys ds1) e.xe):sForL te g t e ds:=h
theorem qaD8{gc:Ds->Option D}{fc:FV}{w:D}(a:fa ds=some x)(b:fb ds=some y)(c:fc ds=some w):A4 gc (Ax fa (Ax fb (Ax fc λ _=>some []))) ds=gc [x,y,w]:=by
 unfold A4 Ax;rw[a,b,c];rfl
theorem qaM4:Hm (Dg o) .non=some (.bl o.isSome):=by cases o<;>rfl
def qai8:VSp:=λ ds Q _=>∃ b ns n wr ps z S,ds=[b,Aa n wr ps,.l z (N4 S)]/\Oe ns b/\1<=n/\n<=64/\(ps.map (·.1)).Nodup/\S.Nodup/\S.length<=64/\(∀ q,¬ Crowd n.toNat wr (N2 n ps) S q) /\
 ∀ a g,Oe ns a->Holds n.toNat g S->(∀ i j k,i < n.toNat->j < n.toNat->g i=some k->g j=some k->i=j)->(wr=false->∀ i k,i < n.toNat->g i=some k->N2 n ps k<=i)->Q (rL n g) [a,Aa n wr ps,.l z (N4 S)]
theorem qak6(T:Txt K mg a):VFn P w K mg base 3 a.f43 a.d43 ["_law_bag_here", "_law_case_here", "_law_keys_here"] qai8:=by
 refine VFn.mk2 T.d43.F qf6 (wOf [true,true,true]) (by walk_at "m") (by walk_at "l") (λ _ _ _ _ _ _ _ I=>⟨_,(Ab (Ak 3 qf6.nd (qa5 (v2 (Al qo7) qo5 (Dk (qa2 A7 qa7 rfl)) (v2 (Ap qb0) Ah (vnm 1) Af)))) (Ab (Ak 4 qf6.nd (Aj T.d32 (qc4 T) qa1 (rm I) (vaN 0 (vaV (qa5 Af) Ac)))) (Ab (I9 Nd (erev (ebi qag4 qaD4.ops T.Cu (Da (vaV (ecN (NY:=["_law_key_here", "_law_case_here"]) (src:=[none,some 1]) 2 (blk (λ N C O H0 U=>(A8 0 (show (["_law_key_here", "_law_case_here"]:List Str).Nodup by decide +kernel))) (λ N C O H0 U=>Dn) (λ N C O H0 U=>(Gp (vaV (Aj T.d36 (qD4 T) L2.qa1 (rm I) (vaN 1 (vaN 0 Ac))) (vaV (qb4 (vnm 0)) Ac)))))) Ac)))) (Ez (n:=2) rfl (qp3 (A8 5 qf6.nd) (qp3 (A8 6 qf6.nd) Ey))) (Ab (scR1 (NY:=["_law_room", "_law_rooms"]) (src:=[none,some 3]) 7 qf6.nd T.Ce (Da (vaV (qb4 (v2 (Ap qb0) Ah (vnm 1) Af)) Ac)) (blk (λ N C O H0 U=>(A8 0 (show (["_law_room", "_law_rooms"]:List Str).Nodup by decide +kernel))) (λ N C O H0 U=>(Ec (q2 (Am Br (qa8 _)) B6 (v2 (Ap qb0) Ah (vnm 1) (vnm 0)) A7))) (λ N C O H0 U=>(qb4 (vnm 0))))) (Ab (scN (NY:=["_law_room", "_law_case_here", "_law_key_here"]) (src:=[none,some 1,some 6]) 7 7 qf6.nd (blk (λ N C O H0 U=>(A8 0 (show (["_law_room", "_law_case_here", "_law_key_here"]:List Str).Nodup by decide +kernel))) (λ N C O H0 U=>(Ec (q2v (A6 qk6 (qa8 _)) (Am qk6 (qa8 _)) qo6 (Aj T.d37 (qA1 T) L2.qa1 (rm I) (vaN 1 (vaN 2 (vaN 0 Ac)))) A7))) (λ N C O H0 U=>(qb4 (vnm 0))))) (Ab (Ak 8 qf6.nd (Aj T.d32 (qc4 T) qa1 (rm I) (vaN 0 (vaV (qa5 (vbi qt9 qt8.ops T.Ci (qa2 (vnm 7) qa7 rfl))) Ac)))) (Ab (sif (q2 (Am (qk7 I.u64) (qa8 _)) Bh (vnm 4) Af) (Ag (Ak 8 qf6.nd (qa5 (vbi (qao8 rfl) qaJ5 T.Cv (qa2 (vnm 8) (qa2 Af (qa2 (v2 (Al qr4) qr3 (vbi qt9 qt8.ops T.Ci (qa2 (vnm 7) qa7 rfl)) Af) qa7 rfl) rfl) rfl))))) Av) (Ag (Fc (qb4 (vnm 6)) (Eb (vpn 3) (v2 (Ap qb0) Ah (vnm 7) (vnm 8)))))))))) (Ag (At (emv 3)))))),λ u Q xe h=>?_⟩);obtain⟨b,ns,n,wr,f,z,S,rfl,B,W,n2,nd,X,lS,nc,q⟩:=h;refine Au [b,Aa n wr f,.l z (N4 S),.u,.u,.u,.u,.u,.u] rfl ?_;refine qb3 [b,Aa n wr f,.l z (N4 S),.l false (N5 n.toNat λ _=>none),.u,.u,.u,.u,.u] (λ K A=>qs3 (Ae rfl (y:=.int n) rfl (qD7 (by lia) n2)) A) ?_;refine qb9 (λ u=>∃ b v,u=[b,Aa n wr f,.l z (N4 S),.l false (N5 n.toNat λ _=>none),.int v,.u,.u,.u,.u]/\Oe ns b) (λ K A=>?_) ?_
 . exact qf1 rfl B rfl (by decide) (by decide) λ v b' v0 v1 B'=>A _ ⟨b',v,rfl,B'⟩
 rintro u ⟨b,near,rfl,B⟩;have z0:=Bk (ps:=f) W;refine qb9 (λ u=>∃ b g Y Z V E,u=[b,Aa n wr f,.l z (N4 S),rL n g,.int near,Y,Z,V,E]/\Oe ns b/\Holds n.toNat g S/\(∀ i j k,i < n.toNat->j < n.toNat->g i=some k->g j=some k->i=j)/\(wr=false->∀ i k,i < n.toNat->g i=some k->N2 n f k<=i)) (λ K A=>?_) ?_
 . refine qaO1 (t1_to (Fl (qh3 (qa0 (a:=D.l z (N4 S)) rfl (qa0 (a:=N4 S) rfl ⟨qk9 S,?_⟩)))))
   refine qe2 (λ ι=>∃ d,ι=[d,Aa n wr f]) (λ x=>some (match x with | .int k=>.q [.int (qb7 n f k),.int k] | d=>d)) _ [] _ (by show 0+_ < 1000000;rw[qj7];lia) ⟨_,rfl⟩ ?_ ?_
   . rintro y J ι M ⟨d,rfl⟩ R hR s
     obtain⟨k,_,rfl⟩:=zAt.mp J;have this:=hR [.int k,Aa n wr f] ⟨_,rfl⟩;refine qi6 (qF2 (Bu rfl (qh3 (qM2 (x:=Aa n wr f) (y:=.int k) (d:=.int (qb7 n f k)) rfl rfl rfl ⟨n,wr,f,k,rfl,W,nd,rfl⟩ rfl ?_))));exact qd0 (y:=.int k) rfl rfl (qc1 ⟨lt2,s,this⟩)
   rintro ι ⟨d,rfl⟩;rw[zB0,qV9];have eL:((N4 S).map λ x=>match x with | .int k=>D.q [.int (qb7 n f k),.int k] | d=>d)=N6 (S.map λ k=>(qb7 n f k,k)):=by
     unfold N4 N6;rw[zCj,zCj];rfl
   rw[eL];obtain⟨L,hL⟩:∃ L,L=(Ej (S.map λ k=>(qb7 n f k,k))).reverse:=⟨_,rfl⟩
   have eS:(S.map λ k=>(qb7 n f k,k)).map Prod.snd=S:=by rw[zCj];exact List.map_id S
   have pm:(L.map (·.2)).Perm S:=by
     rw[hL]
     have:((Ej (S.map λ k=>(qb7 n f k,k))).reverse.map Prod.snd).Perm ((S.map λ k=>(qb7 n f k,k)).map Prod.snd):=((List.reverse_perm _).trans (Mc _ _)).map _
     rwa[eS] at this
   have fst:∀ p∈L,p.1=qb7 n f p.2:=λ p G=>by
     rw[hL,List.mem_reverse,List.mem_mergeSort] at G;obtain⟨k,_,rfl⟩:=zAt.mp G;rfl
   have a0:L.Pairwise λ p q=>q.1<=p.1:=by
     rw[hL,List.pairwise_reverse];refine(qY4 _).imp λ{p q} h=>?_
     simp only[S6.plt,decide_eq_false_iff_not] at h;lia
   have a3:(L.map (·.2)).Nodup:=pm.nodup_iff.mpr X;refine qc1 (qa0 (a:=D.l false (N6 (Ej (S.map λ k=>(qb7 n f k,k))))) ?_ (qa0 (a:=D.l false (N6 L)) ?_ (qa0 (a:=N6 L) rfl ⟨qk8 L,?_⟩)))
   . show ((N6 _).mapM Ee).bind _=_
     rw[qw4];refine qk2 ⟨?_,by rw[zA8];exact lS⟩;refine zCf.mpr (X.imp λ h z=>h (congrArg Prod.snd z))
   . refine(qk2 (qk8 _)).trans ?_
     rw[hL];unfold N6;rw[List.map_reverse]
   refine qd6 (λ i u=>∃ b g Y Z V E,u=[b,Aa n wr f,.l z (N4 S),rL n g,.int near,Y,Z,V,E]/\Oe ns b/\Holds n.toNat g ((L.take i).map (·.2))/\(∀ i j k,i < n.toNat->j < n.toNat->g i=some k->g j=some k->i=j)/\(wr=false->∀ i k,i < n.toNat->g i=some k->N2 n f k<=i)) _ 0 _ ⟨b,_,_,_,_,_,rfl,B,⟨Lz,λ k=>⟨nofun,λ ⟨_,_,h⟩=>(nomatch h)⟩⟩,(λ _ _ _ _ _ h=>nomatch h),λ _ _ _ _ h=>nomatch h⟩ ?_ ?_
   . rintro i y J u ⟨b,g,Y,Z,V,E,rfl,B,H,inj,ln⟩ K2 a1
     rw[zAi] at H a1;unfold N6 at J;rw[zAy] at J;obtain⟨⟨h0,k⟩,G,rfl⟩:=zAa.mp J;have hi:=(zA5.mp G).1;have hs:L=L.take i++(h0,k)::L.drop (i+1):=by
       conv=>lhs;rw[<- zBg i L,zCe hi,(zA5.mp G).2]
     obtain rfl:h0=qb7 n f k:=fst _ (zB4 G);have tk:(L.take (i+1)).map (·.2)=(L.take i).map (·.2)++[k]:=by rw[zBk,G,zBe];rfl
     have nk:¬ k∈(L.take i).map (·.2):=λ h=>by
       have z:((L.take (i+1)).map (·.2)).Nodup:=a3.sublist ((K6 _ _).map _);rw[tk,zBt] at z;exact z.2.2 k h k (by simp) rfl
     rw[hs,zBe,zAo] at pm;obtain⟨j,hj,gj,lj⟩:=qan0 (R:=(L.drop (i+1)).map (·.2)) nc (by lia) (z0 k) H inj (by rw[zAw];exact pm) λ _ x hx=>by
       obtain⟨p,G,rfl⟩:=zAt.mp hx;rw[hs,List.pairwise_append] at a0;have h1:=a0.2.2 p G _ zA7;have h2:=fst p ((List.take_subset _ _) G);have h3:=ql0 (ps:=f) W k;have h4:=ql0 (ps:=f) W p.2;dsimp only at h1;lia
     refine qs2 (Au [b,Aa n wr f,.l z (N4 S),rL n g,.int near,.int (qb7 n f k),.int k,V,E] rfl ?_);refine qb3 [b,Aa n wr f,.l z (N4 S),rL n g,.int near,.int (qb7 n f k),.int k,kL (((Kz n.toNat).filter λ j=>(g j).isNone).map λ i=>((i:Nat):Int)),E] (λ K A=>qi0 (qaD5 (qd0 (y:=.int n) rfl rfl (qc1 (qa0 (a:=n) rfl ⟨qD8 (by lia) (by lia),?_⟩))))) ?_
     . refine qe2 (λ ι=>∃ d,ι=[d,rL n g]) (Dy λ x=>(g x.toNat).isNone) _ [] _ (by show 0+_ < 1000000;rw[qA5];lia) ⟨_,rfl⟩ ?_ ?_
       . rintro y J ι M ⟨d,rfl⟩ R hR s
         obtain⟨j,hj,rfl⟩:=zAt.mp J;have hj:=zA9.mp hj;have ej:(0+(j:Int))=((j:Nat):Int):=Int.zero_add _;rw[ej];have this:=hR [.int (j:Nat),rL n g] ⟨_,rfl⟩;rw[ej] at this;refine qi6 (qe9 (b:=(g j).isNone) (Ae (Ae rfl rfl (Bw hj)) rfl (by cases g j<;>rfl)) (ite_b (λ h=>?_) λ h=>?_))
         . rw[qA6 (by exact h)] at this
           exact qt7 (d:=.int (j:Nat)) rfl rfl ⟨s,this⟩
         rw[qA7 (by exact h)] at this;have this:R (M++[]) _:=this;rw[zAe] at this;exact this
       rintro ι ⟨d,rfl⟩;rw[qaM2 (p:=λ j=>(g j).isNone),zB0];exact A
     obtain⟨FF,hF⟩:∃ FF,FF=(((Kz n.toNat).filter λ j=>(g j).isNone).map λ i=>((i:Nat):Int)).filter λ x=>(An n wr f k x).isSome:=⟨_,rfl⟩
     have len0:(((Kz n.toNat).filter λ j=>(g j).isNone).map λ i=>((i:Nat):Int)).length<=64:=by
       rw[zA8]
       have:=Lh (λ j=>(g j).isNone) (Kz n.toNat)
       rw[zAv] at this;lia
     have lenF:FF.length<=64:=by rw[hF];exact zAm (Lh _ _) len0
     have memF:∀ x∈FF,∃ r:Nat,x=(r:Nat)/\r < n.toNat/\g r=none/\(An n wr f k (r:Nat)).isSome=true:=λ x hx=>by
       rw[hF] at hx;obtain⟨r,I,rfl⟩:=zAt.mp (zB5.mp hx).1;obtain⟨h1,h2⟩:=zB5.mp I;exact⟨r,rfl,zA9.mp h1,Option.isNone_iff_eq_none.mp h2,(zB5.mp hx).2⟩
     have a4:0 < FF.length:=by
       refine List.length_pos_of_mem (a:=((j:Nat):Int)) ?_;rw[hF];refine zB5.mpr ⟨zAt.mpr ⟨j,zB5.mpr ⟨zA9.mpr hj,by rw[gj];rfl⟩,rfl⟩,?_⟩;unfold An;cases wr with
       | true=>rfl
       | false =>
         have h3:=ql0 (ps:=f) W k;have h4:=lj rfl;rw[if_neg (by decide),if_pos (by lia)];rfl
     refine qb3 [b,Aa n wr f,.l z (N4 S),rL n g,.int near,.int (qb7 n f k),.int k,kL FF,E] (λ K A=>qi0 (qa0 (a:=D.l false (N4 _)) rfl (qa0 (a:=N4 _) rfl ⟨qk9 _,?_⟩))) ?_
     . refine qe2 (λ ι=>∃ d,ι=[d,Aa n wr f,.int k]) (Dy λ x=>(An n wr f k x).isSome) _ [] _ (by show 0+_ < 1000000;rw[qj7];lia) ⟨_,rfl⟩ ?_ ?_
       . rintro y J ι M ⟨d,rfl⟩ R hR s
         obtain⟨x,_,rfl⟩:=zAt.mp J;have this:=hR [.int x,Aa n wr f,.int k] ⟨_,rfl⟩;refine qi6 (qC9 (qV6 (x:=Aa n wr f) (y:=.int k) (w:=.int x) (d:=Dg (An n wr f k x)) rfl rfl rfl rfl rfl ⟨n,wr,f,k,x,rfl,W,nd,rfl⟩ rfl ?_));refine qa0 (a:=D.bl (An n wr f k x).isSome) qaM4 (qa0 (a:=(An n wr f k x).isSome) rfl (ite_b (λ h=>?_) λ h=>?_))
         . rw[qA6 (by exact h)] at this
           exact qt7 (d:=.int x) rfl rfl ⟨s,this⟩
         rw[qA7 (by exact h)] at this;have this:R (M++[]) _:=this;rw[zAe] at this;exact this
       rintro ι ⟨d,rfl⟩;rw[qw8,zB0,<- hF];exact A
     have lenD:(N4 FF).length=FF.length:=qj7 FF;refine qb9 (λ u=>∃ b v,u=[b,Aa n wr f,.l z (N4 S),rL n g,.int near,.int (qb7 n f k),.int k,kL FF,.int v]/\Oe ns b/\0<=v/\v < (FF.length:Nat)) (λ K A=>?_) ?_
     . exact qf1 (m:=(FF.length:Nat)) rfl B (by rw[qn5 (z:=false) (ys:=N4 FF) rfl,lenD]) (by lia) (by lia) λ v b' v0 v1 B'=>A _ ⟨b',v,rfl,B',v0,v1⟩
     rintro u ⟨b,v,rfl,B,v0,v1⟩;refine qb9 (λ u=>∃ v,u=[b,Aa n wr f,.l z (N4 S),rL n g,.int near,.int (qb7 n f k),.int k,kL FF,.int v]/\0<=v/\v < (FF.length:Nat)) (λ K A=>?_) ?_
     . refine if_v (b:=decide (near=0)) rfl (λ _=>?_) λ _=>A _ ⟨v,rfl,v0,v1⟩
       refine qs3 (d:=.int (if 1 < v then (if ((FF.length:Nat):Int) - 1 < 1 then ((FF.length:Nat):Int) - 1 else 1) else (if ((FF.length:Nat):Int) - 1 < v then ((FF.length:Nat):Int) - 1 else v))) ?_ (A _ ⟨_,rfl,?_,?_⟩)
       . rw[qaD8 (x:=.int v) (y:=.int 1) (w:=.int ((FF.length:Nat) - 1)) rfl rfl (Ae (x:=.int (FF.length:Nat)) (y:=.int 1) (by rw[qn5 (z:=false) (ys:=N4 FF) rfl,lenD]) rfl rfl)]
         rfl
       . repeat' split
         all_goals lia
       repeat' split
       all_goals lia
     rintro u ⟨v,rfl,v0,v1⟩;obtain⟨t,rfl⟩:∃ t:Nat,v=(t:Nat):=⟨v.toNat,by lia⟩
     have ht:t < FF.length:=by lia
     obtain⟨r,I,a2,gr,fr⟩:=memF FF[t] (Lf ht);refine qz6 (ys:=N5 n.toNat g) (d:=.int k) (k:=(r:Nat)) (n:=r) rfl rfl rfl (Ae rfl rfl (qI4 (by unfold N4;rw[zAy,zB3 ht,I];rfl))) (qM6 a2) ?_;rw[show (N5 n.toNat g).set r (D.int k)=N5 n.toNat (Row.set g r k) from qaq3 (o:=some k)];refine a1 _ ⟨b,_,_,_,_,_,rfl,B,?_,qaM7 H inj nk,λ hw i k' hi e=>?_⟩
     . rw[tk]
       exact Holds.set H nk a2 gr
     unfold Row.set at e;by_cases c:i=r
     . rw[if_pos c] at e
       cases e;subst hw;have h3:=ql0 (ps:=f) W k;unfold An at fr;rw[if_neg (by decide)] at fr;by_cases z:0<=((r:Nat):Int) - qb7 n f k
       . lia
       rw[if_neg z] at fr;cases fr
     rw[if_neg c] at e;exact ln hw i k' hi e
   rintro u ⟨b,g,Y,Z,V,E,rfl,B,H,inj,ln⟩;rw[zAi,show (N6 L).length=L.length from zA8 _,zC1] at H;exact A _ ⟨b,g,Y,Z,V,E,rfl,B,⟨X,λ k=>by rw[<- pm.mem_iff];exact H.2 k⟩,inj,ln⟩
 rintro u ⟨b,g,Y,Z,V,E,rfl,B,H,inj,ln⟩;exact q b g B H inj ln
theorem qaw5:qa9 ["_law_case_here", "_law_rooms"] ["_law_case_here", "_law_rooms"] (qa3 qZ3):=by walk_at "s"
def A5(n:Int)(ps:Pr)(g:Nat->Option Int):Pr:=(Kz n.toNat).filterMap λ i=>(g i).map λ k=>(((dist n.toNat (N2 n ps k) i:Nat):Int),k)
def lnOk(n:Int)(wr:Bool)(ps:Pr)(g:Nat->Option Int):Prop:=wr=false->∀ i k,i < n.toNat->g i=some k->N2 n ps k<=i
def Gj(n:Int)(ps:Pr)(g:Nat->Option Int)(x:D):Option D:=match x with
 | .int i=>(g i.toNat).map λ k=>.q [.int ((dist n.toNat (N2 n ps k) i.toNat:Nat):Int),.int k]
 | _=>none
theorem qan7{n:Int}{ps:Pr}{g:Nat->Option Int}(N:Nat):(Bj 0 N).filterMap (Gj n ps g)=N6 ((Kz N).filterMap λ i=>(g i).map λ k=>(((dist n.toNat (N2 n ps k) i:Nat):Int),k)):=by
 have:∀ l:List Nat,(l.map λ i:Nat=>D.int (0+(i:Int))).filterMap (Gj n ps g)=N6 (l.filterMap λ i=>(g i).map λ k=>(((dist n.toNat (N2 n ps k) i:Nat):Int),k)):=λ l=>by
   induction l with
   | nil=>rfl
   | cons a l b =>
     rw[zAo,zAz,zAz];have e:Gj n ps g (.int (0+(a:Int)))=(g a).map λ k=>.q [.int ((dist n.toNat (N2 n ps k) a:Nat):Int),.int k]:=by
       show (g (0+(a:Int)).toNat).map _=_;rw[show (0+(a:Int)).toNat=a by lia]
     rw[e];cases g a with
     | none=>exact b
     | some k=>exact congrArg _ b
 exact this _
def qaw0:VSp:=Aw λ ds d=>∃ n wr ps z g,ds=[Aa n wr ps,.l z (N5 n.toNat g)]/\1<=n/\n<=64/\(ps.map (·.1)).Nodup/\lnOk n wr ps g/\d=.l false (N6 (A5 n ps g))
theorem qaz3(T:Txt K mg a):VFn P w K mg base 3 a.f44 a.d44 ["_law_case_here", "_law_rooms"] qaw0:=by
 refine VFn.mk2 T.d44.F qaw5 (wOf [true,true]) qb2 (by walk_at "l") (λ _ _ _ _ _ _ _ A=>⟨_,(Ag (At (ecR1 (NY:=["_law_k", "_law_case_here", "_law_rooms"]) (src:=[none,some 0,some 1]) T.Ce (Da (vaV (qb4 (v2 (Ap qb0) Ah (vnm 0) Af)) Ac)) (blk (λ r C s H0 t=>(A8 0 (show (["_law_k", "_law_case_here", "_law_rooms"]:List Str).Nodup by decide +kernel))) (λ r C s H0 t=>(Ec (q2 (Am qk6 (qa8 _)) qo6 (v2 (Ap qb0) Ah (vnm 2) (vnm 0)) A7))) (λ r C s H0 t=>(Gp (vaV (Aj T.d37 (qA1 T) L2.qa1 (rm A) (vaN 1 (vaV (qb4 (v2 (Ap qb0) Ah (vnm 2) (vnm 0))) (vaN 0 Ac)))) (vaV (qb4 (v2 (Ap qb0) Ah (vnm 2) (vnm 0))) Ac)))))))),λ L Q M h=>?_⟩);obtain⟨d,⟨n,wr,f,z,g,rfl,u,N,B,E,rfl⟩,q⟩:=h;refine Au [Aa n wr f,.l z (N5 n.toNat g)] rfl (qi2 (qaD5 (qd0 (y:=.int n) rfl rfl (qc1 (qa0 (a:=n) rfl ⟨qD8 (by lia) (by lia),?_⟩)))));refine qe2 (λ ι=>∃ d,ι=[d,Aa n wr f,.l z (N5 n.toNat g)]) (Gj n f g) _ [] _ (by show 0+_ < 1000000;rw[qA5];lia) ⟨_,rfl⟩ ?_ ?_
 . rintro y G ι m ⟨d,rfl⟩ R H o
   obtain⟨j,p,rfl⟩:=zAt.mp G;have p:=zA9.mp p;have v:(0+(j:Int))=((j:Nat):Int):=Int.zero_add _;rw[v];have this:=H [.int (j:Nat),Aa n wr f,.l z (N5 n.toNat g)] ⟨_,rfl⟩;rw[v] at this;have i:f2 gIx (rdN 2) (rdN 0) [.int (j:Nat),Aa n wr f,.l z (N5 n.toNat g)]=some (De (g j)):=Ae rfl rfl (Bw p);have e:Gj n f g (.int (j:Nat))=(g j).map λ k=>.q [.int ((dist n.toNat (N2 n f k) j:Nat):Int),.int k]:=rfl
   rw[e] at this;cases c:g j with
   | none =>
     rw[c] at this i;have this:R (m++[]) _:=this;rw[zAe] at this;exact qi6 (qe9 (b:=false) (Ae i rfl rfl) (E6 (by decide) this))
   | some k =>
     rw[c] at this i;have this:R (m++[.q [.int ((dist n.toNat (N2 n f k) j:Nat):Int),.int k]]) _:=this;have I:An n wr f k (j:Nat)=some ((dist n.toNat (N2 n f k) j:Nat):Int):=qp5 u p λ J=>E J j k p c
     refine qi6 (qe9 (b:=true) (Ae i rfl rfl) (Bu rfl (qai2 (qh3 (qn0 (qb6 (x:=Aa n wr f) rfl (qd0 (y:=.int k) i rfl (qb6 (x:=.int (j:Nat)) rfl (qc1 (qa0 (a:=D.int (j:Nat)) rfl (qa0 (a:=Aa n wr f) rfl ⟨_,⟨n,wr,f,k,(j:Nat),rfl,u,B,rfl⟩,?_⟩)))))))))));rw[I];refine qa0 (a:=[.int (j:Nat),Aa n wr f,.l z (N5 n.toNat g)]) rfl (qd0 (y:=.int k) i rfl (qc1 ⟨lt2,o,?_⟩));exact this
 rintro ι ⟨d,rfl⟩;rw[zB0,qan7];exact q
theorem qG0:qa9 ["_law_case_here", "_law_keys_here", "_law_window", "_law_rooms"] ["_law_case_here", "_law_keys_here", "_law_window"] (qa3 qC6):=by walk_at "s"
def qY2:VSp:=Aw λ ds d=>∃ n wr ps z S s h,ds=[Aa n wr ps,.l z (N4 S),.q [.int (s:Nat),.int (h:Nat)]]/\1<=n/\n<=64/\(ps.map (·.1)).Nodup/\S.length<=1000/\s < n.toNat/\h < n.toNat/\d=.l false (N4 (S.filter λ y=>decide (dist n.toNat s (N2 n ps y)<=dist n.toNat s h)))
theorem qaa6(T:Txt K mg a):VFn P w K mg base 2 a.f45 a.d45 ["_law_case_here", "_law_keys_here", "_law_window"] qY2:=by
 refine VFn.mk2 T.d45.F qG0 (wOf [true,true,true]) qb2 (by walk_at "l") (λ _ _ _ _ _ _ _ u=>⟨_,(Ab (Ak 3 qG0.nd (qa5 (Dk (qa2 (v2 (Ap qb0) Ah (vnm 2) Af) qa7 rfl)))) (Ab (qX5 Nd (Ho (q2 (Am (qak4 u.u64) (qa8 _)) Iq (v2 (Ap qb0) Ah (vnm 3) (vneg Af)) (v2 (Ap qb0) Ah (vnm 2) Af)) (Fe (q2 (Am Gz (qa8 _)) G6 (vbi qt9 qt8.ops T.Ci (qa2 (vnm 3) qa7 rfl)) (v2 (Ap qb0) Ah (vnm 0) Af)))).te (Ag (Dl (Ga 3 qM0 Ni Nj Nk qh1 (vaV (qa5 (v2 (Al qj5) qj4 (v2 (Al ql8) ql7 (v2 (Ap qb0) Ah (vnm 3) (vneg Af)) Af) (v2 (Ap qb0) Ah (vnm 0) Af))) Ac))))) (Ag (At (ecN (NY:=["_law_key_here", "_law_rooms", "_law_case_here"]) (src:=[none,some 3,some 0]) 1 (blk (λ v C A H0 B=>(A8 0 (show (["_law_key_here", "_law_rooms", "_law_case_here"]:List Str).Nodup by decide +kernel))) (λ v C A H0 B=>(Ec (q2v (A6 qo8 (by with_unfolding_all rfl)) (Am qo8 (by with_unfolding_all rfl)) F4 (Aj T.d36 (qD4 T) L2.qa1 (rm u) (vaN 2 (vaN 0 Ac))) (vnm 1)))) (λ v C A H0 B=>(qb4 (vnm 0))))))))),λ g Q U h=>?_⟩);obtain⟨d,⟨n,wr,b,z,S,s,h,rfl,i,V,H,E,c,G,rfl⟩,q⟩:=h;refine Au [Aa n wr b,.l z (N4 S),.q [.int (s:Nat),.int (h:Nat)],.u] rfl ?_;have I:rot n.toNat s 0=s:=by have:=qC7 c c;rwa[(qb5 c c).mpr rfl] at this
 refine qb3 [Aa n wr b,.l z (N4 S),.q [.int (s:Nat),.int (h:Nat)],kL (Bo n.toNat s 0)] (λ K j=>?_) ?_
 . refine qs3 (d:=kL (Bo n.toNat s 0)) ?_ j
   unfold Bo;show _=some (D.l false [.int (rot n.toNat s 0:Nat)]);rw[I];rfl
 have o:=qe0 G c;refine qb3 [Aa n wr b,.l z (N4 S),.q [.int (s:Nat),.int (h:Nat)],kL (Bo n.toNat s (dist n.toNat s h))] (λ K j=>?_) ?_
 . refine qI8 (λ m g=>∃ t,g=[Aa n wr b,.l z (N4 S),.q [.int (s:Nat),.int (h:Nat)],kL (Bo n.toNat s t)]/\t+m=dist n.toNat s h) (dist n.toNat s h) ⟨0,rfl,by lia⟩ ?_
   rintro m g ⟨t,rfl,W⟩ K2 p;have J:f2 gLe (A4 (fx1 Et) (Ax (rdN 3) λ _=>some [])) (f2 gIx (rdN 0) (kC (.int 0))) [Aa n wr b,.l z (N4 S),.q [.int (s:Nat),.int (h:Nat)],kL (Bo n.toNat s t)]=some (.bl true):=by
     refine Ae (x:=.int (t+1:Nat)) (y:=.int n) (by rw[qn5 (z:=false) (ys:=N4 (Bo n.toNat s t)) rfl,qj7,qW4]) rfl ?_;show some (D.bl (decide (((t+1:Nat):Int)<=n)))=_;rw[zAb (by lia)]
   refine qi8 (!(((rot n.toNat s t:Nat):Int) == ((h:Nat):Int))) true (λ Q q=>qe9 (Ae (Ae rfl rfl qO2) rfl rfl) q) (λ _ Q q=>qe9 J q) ?_;rw[Bool.and_true];by_cases e:t=dist n.toNat s h
   . have e2:rot n.toNat s t=h:=by rw[e];exact qC7 c G
     rw[e2,zB9];refine E6 (by decide) ?_;rw[e];exact j
   have e2:rot n.toNat s t≠h:=λ z=>e (by rw[<- z,qx4 c (by lia)])
   have L:(((rot n.toNat s t:Nat):Int) == ((h:Nat):Int))=false:=zBs.mpr (by lia);rw[L];refine Bu rfl (qB1 (qah3 (ys:=N4 (Bo n.toNat s t)) (d:=.int (rot n.toNat s (t+1):Nat)) rfl (Ae (Ae (Ae rfl rfl qO2) rfl rfl) rfl ?_) (by rw[qj7,qW4];unfold big;lia) ?_))
   . rw[Db (by lia)]
     have a:=qaj5 c (show t < n.toNat by lia);have M:rot n.toNat s (t+1)=(rot n.toNat s t+1) % n.toNat:=by
       rw[qaG6 a (by lia)];unfold rot
       split<;>split<;>split<;>lia
     rw[M];exact congrArg (λ x=>some (D.int x)) (by rw[Int.natCast_emod,show ((n.toNat:Nat):Int)=n by lia];rfl)
   rw[qac6,qah8];exact p (m - 1) _ (by lia) ⟨t+1,rfl,by lia⟩
 refine qi2 (qa0 (a:=D.l z (N4 S)) rfl (qa0 (a:=N4 S) rfl ⟨qk9 S,?_⟩));refine qe2 (λ ι=>∃ d,ι=[d,kL (Bo n.toNat s (dist n.toNat s h)),Aa n wr b]) (Dy λ y=>decide (dist n.toNat s (N2 n b y)<=dist n.toNat s h)) _ [] _ (by show 0+_ < 1000000;rw[qj7];lia) ⟨_,rfl⟩ ?_ ?_
 . rintro y N ι r ⟨d,rfl⟩ R O f
   obtain⟨k,_,rfl⟩:=zAt.mp N;have this:=O [.int k,kL (Bo n.toNat s (dist n.toNat s h)),Aa n wr b] ⟨_,rfl⟩;refine qi6 (qC9 (qN8 (x:=Aa n wr b) (y:=.int k) rfl rfl rfl ⟨_,⟨n,wr,b,k,rfl,i,H,rfl⟩,?_⟩));refine qa0 (a:=[.int k,kL (Bo n.toNat s (dist n.toNat s h)),Aa n wr b]) rfl ?_;rw[<- ql0 i k];refine qa0 (a:=D.bl (decide (((N2 n b k:Nat):Int)∈Bo n.toNat s (dist n.toNat s h)))) (qas7 (z:=false)) (qa0 (a:=decide (((N2 n b k:Nat):Int)∈Bo n.toNat s (dist n.toNat s h))) rfl ?_);rw[decide_eq_decide.mpr (qau9 c (Bk i k) o)];refine ite_b (λ h=>?_) λ h=>?_
   . rw[qA6 h] at this
     exact qt7 (d:=.int k) rfl rfl ⟨f,this⟩
   rw[qA7 h] at this;have this:R (r++[]) _:=this;rw[zAe] at this;exact this
 rintro ι ⟨d,rfl⟩;rw[qw8,zB0];exact q
theorem qk4:qa9 ["_law_script", "_law_bag_here", "_law_small", "_law_case_here", "_law_keys_here", "_law_row", "_law_key_here", "_law_window", "_law_far_here", "_law_some", "_law_every_here", "_law_told", "_law_least", "_law_total", "_law_fars_here"] ["_law_script"] (qa3 Ge):=by walk_at "s"
theorem qR4{N:Nat}{ok:Int->Nat->Bool}:∀(ks:List Int)(g h:Nat->Option Int),h∈qh0 N ok ks g->∀ x,(∃ i,i < N/\h i=some x)↔(x∈ks∨∃ i,i < N/\g i=some x)
 | [],g,h,a,x=>by rw[zAg.mp a];simp
 | k::ks,g,h,a,x=>by
   obtain⟨r,b,a⟩:=List.mem_flatMap.mp a;have b:=zA9.mp b;split at a
   . rename_i hc
     rw[qR4 ks _ h a x,zAh];constructor
     . rintro (c | ⟨i,d,e⟩)
       . exact .inl (.inr c)
       by_cases z:i=r
       . subst z
         rw[Row.qc2] at e;exact .inl (.inl (Nc e).symm)
       rw[Row.qd8 z] at e;exact .inr ⟨i,d,e⟩
     rintro ((rfl | c) | ⟨i,d,e⟩)
     . exact .inr ⟨r,b,Row.qc2⟩
     . exact .inl c
     refine .inr ⟨i,d,?_⟩;have z:i≠r:=λ z=>by subst z;rw[e] at hc;cases hc
     rw[Row.qd8 z];exact e
   cases a
theorem qaf2{N:Nat}{ok:Int->Nat->Bool}{b:Nat->Option Int}(inj0:∀ i j k,i < N->j < N->b i=some k->b j=some k->i=j)(m:∀ i k,i < N->b i=some k->ok k i=true) :
   ∀(ks:List Int)(g:Nat->Option Int),(∀ i,i < N->g i=none∨g i=b i)->(∀ k∈ks,∃ i,i < N/\b i=some k/\g i=none)->(∀ i k,i < N->b i=some k->g i=none->k∈ks)->ks.Nodup->∃ h∈qh0 N ok ks g,∀ i,i < N->h i=b i
 | [],g,h1,_,h3,_=>by
   refine⟨g,zAg.mpr rfl,λ i a=>?_⟩;rcases h1 i a with e | e
   . rw[e]
     cases f:b i with
     | none=>rfl
     | some k=>have:=h3 i k a f e;cases this
   exact e
 | k::ks,g,h1,h2,h3,o=>by
   have o:=zBw.mp o;obtain⟨c,d,f,r⟩:=h2 k zA7;obtain⟨h,s,q⟩:=qaf2 inj0 m ks (Row.set g c k) (λ i a=>by
     by_cases z:i=c
     . subst z;rw[Row.qc2,f];exact .inr rfl
     . rw[Row.qd8 z];exact h1 i a) (λ p n=>by
     obtain⟨i,a,l,e2⟩:=h2 p (zA3 _ n);refine⟨i,a,l,?_⟩;have z:i≠c:=λ z=>by subst z;rw[f] at l;cases l;exact o.1 n
     rw[Row.qd8 z];exact e2) (λ i p a l e2=>by
     have z:i≠c:=λ z=>by subst z;rw[Row.qc2] at e2;cases e2
     rw[Row.qd8 z] at e2;rcases zAh.mp (h3 i p a l e2) with rfl | h
     . exact absurd (inj0 i c p a d l f) z
     exact h) o.2
   refine⟨h,List.mem_flatMap.mpr ⟨c,zA9.mpr d,?_⟩,q⟩;rw[if_pos (by rw[r,m c k d f];rfl)];exact s
theorem qR3{N:Nat}{ok:Int->Nat->Bool}:∀(ks:List Int)(g h:Nat->Option Int),h∈qh0 N ok ks g->ks.Nodup->(∀ k∈ks,∀ i,i < N->g i≠some k)->(∀ i j k,i < N->j < N->g i=some k->g j=some k->i=j)->∀ i j k,i < N->j < N->h i=some k->h j=some k->i=j
 | [],g,h,a,_,_,inj=>by rw[zAg.mp a];exact inj
 | k::ks,g,h,a,f,nk,inj=>by
   obtain⟨r,_,a⟩:=List.mem_flatMap.mp a;have f:=zBw.mp f;split at a
   . refine qR3 ks _ h a f.2 (λ n b i l e=>?_) λ i j x l m c d=>?_
     . unfold Row.set at e
       split at e
       . cases e;exact f.1 b
       exact nk n (zA3 _ b) i l e
     unfold Row.set at c d;split at c<;>split at d
     . lia
     . cases c;exact absurd d (nk k zA7 j m)
     . cases d;exact absurd c (nk k zA7 i l)
     exact inj i j x l m c d
   cases a
theorem qaf1{N:Nat}{ok:Int->Nat->Bool}:∀(ks:List Int)(g h:Nat->Option Int),h∈qh0 N ok ks g->∀ i x,h i=some x->g i=some x∨ok x i=true
 | [],g,h,a,i,x,e=>by rw[<- zAg.mp a];exact .inl e
 | k::ks,g,h,a,i,x,e=>by
   obtain⟨r,_,a⟩:=List.mem_flatMap.mp a;split at a
   . rename_i hc
     rcases qaf1 ks _ h a i x e with e | e
     . unfold Row.set at e
       split at e
       . rename_i z
         cases e;rw[z];exact .inr (zAn.mp hc).2
       exact .inl e
     exact .inr e
   cases a
def Hous(n:Int)(wr:Bool)(ps:Pr)(S:List Int)(g:Nat->Option Int):Prop:=Holds n.toNat g S/\(∀ i j k,i < n.toNat->j < n.toNat->g i=some k->g j=some k->i=j)/\lnOk n wr ps g
theorem ok_ln{n:Int}{wr:Bool}{ps:Pr}(a:1<=n)(h:okB n wr ps k r=true)(b:wr=false):N2 n ps k<=r:=by
 subst b;have c:=ql0 (ps:=ps) a k;unfold okB An at h;rw[if_neg (by decide)] at h;by_cases z:0<=((r:Nat):Int) - qb7 n ps k
 . lia
 rw[if_neg z] at h;cases h
theorem qad8{n:Int}{wr:Bool}{ps:Pr}{h:Nat->Option Int}(b:1<=n)(a:S.Nodup)(hm:h∈qh0 n.toNat (okB n wr ps) S λ _=>none):Hous n wr ps S h:=by
 refine⟨⟨a,λ k=>?_⟩,qR3 S _ h hm a (λ _ _ _ _ z=>nomatch z) (λ _ _ _ _ _ z=>nomatch z),λ c i k d e=>?_⟩
 . rw[qR4 S _ h hm k]
   exact⟨.inl,λ z=>z.elim id λ ⟨_,_,z⟩=>nomatch z⟩
 rcases qaf1 S _ h hm i k e with z | z
 . cases z
 exact ok_ln b z c
theorem qad2{n:Int}{wr:Bool}{ps:Pr}{g:Nat->Option Int}(b:1<=n)(KP:Kept n.toNat wr (N2 n ps) g S):∃ h∈qh0 n.toNat (okB n wr ps) S λ _=>none,∀ i,i < n.toNat->h i=g i:=by
 refine qaf2 KP.o.inj (λ i k a e=>?_) S _ (λ _ _=>.inl rfl) (λ k c=>?_) (λ i k a e _=>(KP.h.2 k).mpr ⟨i,a,e⟩) KP.h.1
 . unfold okB
   rw[qp5 b a λ d=>KP.ln d i k a e];rfl
 obtain⟨i,a,e⟩:=(KP.h.2 k).mp c;exact⟨i,a,e,rfl⟩
theorem qM9{n:Int}{ps:Pr}{g:Nat->Option Int}:q∈A5 n ps g↔∃ i,i < n.toNat/\g i=some q.2/\q.1=((dist n.toNat (N2 n ps q.2) i:Nat):Int):=by
 unfold A5;rw[zCa];constructor
 . rintro⟨i,a,e⟩
   obtain⟨k,b,rfl⟩:=zAa.mp e;exact⟨i,zA9.mp a,b,rfl⟩
 rintro⟨i,a,e,e2⟩;exact⟨i,zA9.mpr a,by rw[e];exact congrArg some (Prod.ext e2.symm rfl)⟩
theorem qX8{g:Nat->Option Int}(l:List Nat):((l.filterMap λ i=>(g i).map λ k=>(((dist N (hm k) i:Nat):Int),k)).map (·.1)).sum=(((l.map (Es N hm g)).sum:Nat):Int)/\((l.filterMap λ i=>(g i).map λ k=>(k,((dist N (hm k) i:Nat):Int))).map (·.2)).sum=(((l.map (Es N hm g)).sum:Nat):Int):=by
 induction l with
 | nil=>exact⟨rfl,rfl⟩
 | cons a l b =>
   rw[zAz,zAz,zAo,zCc];cases c:g a with
   | none =>
     have e:Es N hm g a=0:=by unfold Es;rw[c]
     rw[e,zAi];exact b
   | some k =>
     have e:Es N hm g a=dist N (hm k) a:=by unfold Es;rw[c]
     rw[e];refine⟨?_,?_⟩
     . show (((dist N (hm k) a:Nat):Int)::Mz _ _).sum=_
       rw[zCc,b.1];lia
     show (((dist N (hm k) a:Nat):Int)::Mz _ _).sum=_;rw[zCc,b.2];lia
theorem Jq{α β:Type}{f g:α->Option β}:∀ l:List α,(∀ x∈l,f x=g x)->l.filterMap f=l.filterMap g
 | [],_=>rfl
 | a::l,h=>by rw[zAz,zAz,h a zA7,Jq l λ x b=>h x (zA3 _ b)]
theorem qae9{n:Int}{ps:Pr}{g h:Nat->Option Int}(e:∀ i,i < n.toNat->h i=g i):A5 n ps h=A5 n ps g:=by
 unfold A5;refine Jq _ λ i a=>?_
 rw[e i (zA9.mp a)]
def tlD(n:Int)(ps:Pr)(gs:List (Nat->Option Int)):Ds:=gs.map λ g=>.l true (N6 (A5 n ps g))
theorem qad6(n:Int)(ps:Pr)(gs:List (Nat->Option Int)):D.imms (tlD n ps gs)=true:=qE6 (λ _=>rfl) _
theorem tl_at{n:Int}{ps:Pr}(h:(tlD n ps gs)[i]? = some y):∃ g∈gs,y=.l true (N6 (A5 n ps g)):=by
 unfold tlD at h;rw[zAy] at h;obtain⟨g,e,rfl⟩:=zAa.mp h;exact⟨g,zB4 e,rfl⟩
def mxQ(l:Pr):Int:=((Hv l).map (·.1)).getD 0
theorem qal1{l:Pr}(h:l≠[]):∃ p,Hv l=some p/\mxQ l=p.1/\p∈l/\∀ q∈l,q.1<=p.1:=by
 cases e:Hv l with
 | none=>cases l with
   | nil=>exact absurd rfl h
   | cons=>cases e
 | some p =>
   obtain⟨a,b⟩:=qP6 e;exact⟨p,rfl,by unfold mxQ;rw[e];rfl,a,λ q c=>by have:=b q c;unfold pgt at this;lia⟩
theorem qaK9{z:Bool}{l:Pr}{p:Int×Int}(h:Hv l=some p):Jk (.l z (N6 l))=some (.q [.int p.1,.int p.2]):=by
 show ((N6 l).mapM Ee).bind _=_;rw[qw4,Option.bind_some,h];rfl
theorem qat5{l:Pr}{K:Ds->Ds->Prop}(g:l.length<=1000)(h:∀ d,K (N4 (l.map (·.1))) [d]):Dz (gNm 0) qYes (Bq (f2 gIx (rdN 0) (kC (.int 0)))) K (N6 l) [] [d]:=by
 refine qe2 (λ ι=>∃ d,ι=[d]) (λ x=>some (match x with | .q [a,_]=>a | d=>d)) _ [] _ (by show 0+_ < 1000000;rw[show (N6 l).length=l.length from zA8 _];lia) ⟨_,rfl⟩ ?_ ?_
 . rintro y c ι e ⟨d,rfl⟩ R f b
   obtain⟨p,_,rfl⟩:=zAt.mp c;exact qi6 (qF2 (Bu rfl (qt7 (d:=.int p.1) rfl rfl ⟨b,f [.q [.int p.1,.int p.2]] ⟨_,rfl⟩⟩)))
 rintro ι ⟨d,rfl⟩;rw[qV9,zB0,show (N6 l).map (λ x=>match x with | .q [a,_]=>a | d=>d)=N4 (l.map (·.1)) by unfold N6 N4;rw[zCj,zCj];rfl];exact h d
theorem qaK7{z:Bool}{m:Int}(h:Gc ks m):gMinL (.l z (N4 ks))=some (.int m):=by
 show (intsD (N4 ks)).bind _=_;rw[qG8,Option.bind_some];cases e:minI ks with
 | none=>cases ks with
   | nil=>cases h.1
   | cons=>cases e
 | some k =>
   have a:=qP4 e
   have:m=k:=Int.le_antisymm (h.2 _ a.1) (a.2 _ h.1)
   rw[this];rfl
theorem qaP5{g:VTG}(h:te ds (λ d a=>g d a e.nx) e.xe):Dt te g e ds:=h
theorem qaV8(h:qc ds (λ b a=>if b=true then t e a else u e a) e.xe):sIf qc t u e ds:=h
theorem ix_k{z:Bool}{v x:Int}(a:0<=v)(h:S[v.toNat]? = some x):gIx (.l z (N4 S)) (.int v)=some (.int x):=by
 have e:v=((v.toNat:Nat):Int):=by lia
 rw[e];exact qI4 (by unfold N4;rw[zAy,h];rfl)
theorem qaK8{a:FV}(h:tr ds (λ xs _ ds1=>orF (He xs) λ ns=>orF ((a ds1).bind D.asI) λ k=>∀ m,qaB1 ns k m->Q (.int m) ds1) xe):tMaxD (Gs tr) a ds Q xe:=h
theorem qaT8(T:Txt K mg a):Fo P w K mg base (CX1 P w) 12 a.f46 a.d46 ["_law_script"] (G4 K):=by
 refine T.d46.F.okX qk4 (λ vs H Q E h=>?_) (λ b1 A outer s H vs Q E hr h=>?_)
 . obtain⟨l,ns,rfl,_⟩:=h
   rfl
 obtain⟨l,ns,rfl,hS,hl,k⟩:=h;refine⟨_,qZ7 (sset 1 qk4.nd (callD T.d31 (qaK0 T) (rm hr) (qg5 (pv 0) qy7))) (show VSs ⟨λ _=>E,λ _=>false,K3 15 none,[]⟩ (Eg true (CX1 P w) P w K mg base ["_law_script", "_law_bag_here", "_law_small", "_law_case_here", "_law_keys_here", "_law_row", "_law_key_here", "_law_window", "_law_far_here", "_law_some", "_law_every_here", "_law_told", "_law_least", "_law_total", "_law_fars_here"] "law" (qa3 Ge) a.f46 b1 A outer s H E) _ _ from(Ab (Ak 2 qk4.nd (e2v (A6 (qk7 hr.u64) (qa8 _)) Bh (Aj T.d32 (qc4 T) qa1 (rm hr) (vaN 1 (vaV (qa5 Af) Ac))) Af)) (Ab (Fc (Aj T.d41 (qak7 T) qa1 (rm hr) (vaN 1 (vaV (qa5 (v2 (Ap qb0) Ah (Dk (qa2 Af (qa2 Af qa7 rfl) rfl)) (Ev qS5 qaO8.ops T.Ct (qa2 (vnm 2) qa7 rfl)))) Ac))) (Ez (n:=2) rfl (qp3 (A8 3 qk4.nd) (qp3 (A8 4 qk4.nd) Ey)))) (Ab (Ak 5 qk4.nd (qaW4 (ndv:=[]) T.C7 T.D4 T.d21.bn (qV1 T) qa1 (rm hr) (vaV (efzV (emake T.C5 T.D0 T.d7 (qL8 T) qa1 (rm hr) (vaV (qb4 (v2 (Ap qb0) Ah (vnm 3) Af)) (vaV (qb4 (v2 (Ap qb0) Ah (vnm 3) Af)) (vaV (qa5 (Ev qd2 qx7.ops T.Ch (qa2 (v2 (Ap qb0) Ah (vnm 3) Af) qa7 rfl))) Ac))))) Ac))) (Ab (Jb Nd (vpn 4) (A8 6 qk4.nd) (Ag (Dl (qm2 5 T.d25 T.C7.cl (qaa5 T) qa1 (rm hr) (vaN 6 Ac))))) (Ab (Ak 6 qk4.nd (e2nP 4 (Ap qb0) Ah (Aj T.d32 (qc4 T) qa1 (rm hr) (vaN 1 (vaV (qa5 (vbi qt9 qt8.ops T.Ci (qa2 (vnm 4) qa7 rfl))) Ac))))) (Ab (Ak 7 qk4.nd (Aj T.d30 (qL5 T) qa1 (rm hr) (vaN 5 (vaN 6 Ac)))) (Ab (Ak 8 qk4.nd (Aj T.d37 (qA1 T) qa1 (rm hr) (vaN 3 (vaN 6 (vaV (qm2 5 T.d24 T.C7.cl (qf7 T) qa1 (rm hr) (vaN 6 Ac)) Ac))))) (Ab (Ak 9 qk4.nd (Aj T.d45 (qaa6 T) qa1 (rm hr) (vaN 3 (vaN 4 (vaN 7 Ac))))) (Ab (sif (q2 (Am Gz (qa8 _)) G6 (v2 (Ap qb0) Ah (vnm 3) Af) Af) (Ag (Ak 10 qk4.nd (Aj T.d42 (qD5 T) qa1 (rm hr) (vaN 3 (vaN 4 (vaV (qa5 Af) (vaV (qa5 (v2 (Al qo7) qo5 (Dk (qa2 A7 qa7 rfl)) (v2 (Ap qb0) Ah (vnm 3) Af))) Ac))))))) (Ag (scR1 (NY:=["_law_k", "_law_bag_here", "_law_case_here", "_law_keys_here"]) (src:=[none,some 1,some 3,some 4]) 10 qk4.nd T.Ce (Da (vaV (qa5 Af) Ac)) (blk (λ av C s0 H0 ex=>(A8 0 (show (["_law_k", "_law_bag_here", "_law_case_here", "_law_keys_here"]:List Str).Nodup by decide +kernel))) (λ av C s0 H0 ex=>Dn) (λ av C s0 H0 ex=>(efzV (Aj T.d43 (qak6 T) L2.qa1 (rm hr) (vaN 1 (vaN 2 (vaN 3 Ac)))))))))) (Ab (scN (NY:=["_law_rooms", "_law_case_here"]) (src:=[none,some 3]) 11 10 qk4.nd (blk (λ av C s0 H0 ex=>(A8 0 (show (["_law_rooms", "_law_case_here"]:List Str).Nodup by decide +kernel))) (λ av C s0 H0 ex=>Dn) (λ av C s0 H0 ex=>(efzV (Aj T.d44 (qaz3 T) L2.qa1 (rm hr) (vaN 1 (vaN 0 Ac))))))) (Ab (Ak 12 qk4.nd (e2vP (Ap qb0) Ah (Aj T.d28 (qU9 T) qa1 (rm hr) (vaN 5 Ac)) Af)) (Ab (Ak 13 qk4.nd (Aj T.d29 (qaa4 T) qa1 (rm hr) (vaN 5 Ac))) (Ab (Jb Nd (vpn 11) (A8 14 qk4.nd) (Ab (sif (VTw.te (tor (q2 (Am Du (qa8 _)) Eh (v2 (Ap qb0) Ah (vbi (qS4 rfl hr.u64) qau1.ops T.Cs (qa2 (vnm 14) qa7 rfl)) Af) (vnm 12)) (Iv (q2v (A6 Du (qa8 _)) (Am Du (qa8 _)) Eh (ebi (qN5 rfl) qaD3.ops T.Cw (Da (vaV (ecN (NY:=["_law_one"]) (src:=[none]) 14 (blk (λ av C s0 H0 ex=>(A8 0 (show (["_law_one"]:List Str).Nodup by decide +kernel))) (λ av C s0 H0 ex=>Dn) (λ av C s0 H0 ex=>(qb4 (v2 (Ap qb0) Ah (vnm 0) Af))))) Ac))) (vnm 13))))) (Ag (At (qa5 vbl))) Av) (Ag (sif (q2v (A6 Du (qa8 _)) (Am Du (qa8 _)) Eh (emaxD rfl T.Cs (Da (vaV (ecN (NY:=["_law_one", "_law_some"]) (src:=[none,some 9]) 14 (blk (λ av C s0 H0 ex=>(A8 0 (show (["_law_one", "_law_some"]:List Str).Nodup by decide +kernel))) (λ av C s0 H0 ex=>(Ec (q2 (Am qo8 (by with_unfolding_all rfl)) F4 (v2 (Ap qb0) Ah (vnm 0) Af) (vnm 1)))) (λ av C s0 H0 ex=>(qb4 (v2 (Ap qb0) Ah (vnm 0) Af))))) Ac)) (vneg Af)) (vnm 8)) (Ag (At (qa5 vbl))) Av)))) (Ab (sif (q2 (Am Bp (qa8 _)) Bz (v2 (Ap qb0) Ah (vnm 3) Af) Af) (Ag (At (qa5 vbl))) Av) (Ab (sif (q2v (A6 (qak4 hr.u64) (qa8 _)) (Am (qak4 hr.u64) (qa8 _)) Iq (ebi (qS3 rfl) qau0.ops T.Cv (Da (vaV (ecN (NY:=["_law_fars_here"]) (src:=[none]) 11 (blk (λ av C s0 H0 ex=>(A8 0 (show (["_law_fars_here"]:List Str).Nodup by decide +kernel))) (λ av C s0 H0 ex=>Dn) (λ av C s0 H0 ex=>(qa5 (v2 (Ap qb0) Ah (vbi (qS4 rfl hr.u64) qau1.ops T.Cs (qa2 (vnm 0) qa7 rfl)) Af))))) Ac))) (vnm 12)) (Ag (At (qa5 vbl))) Av) (Ag (At (e2v (A6 (qk7 hr.u64) (qa8 _)) Bh (ebi (qS3 rfl) qau0.ops T.Cv (Da (vaV (ecN (NY:=["_law_fars_here"]) (src:=[none]) 11 (blk (λ av C s0 H0 ex=>(A8 0 (show (["_law_fars_here"]:List Str).Nodup by decide +kernel))) (λ av C s0 H0 ex=>Dn) (λ av C s0 H0 ex=>(ebi (qN5 rfl) qaD3.ops T.Cw (Da (vaV (ecN (NY:=["_law_one"]) (src:=[none]) 0 (blk (λ av C s0 H0 ex=>(A8 0 (show (["_law_one"]:List Str).Nodup by decide +kernel))) (λ av C s0 H0 ex=>Dn) (λ av C s0 H0 ex=>(qb4 (v2 (Ap qb0) Ah (vnm 0) Af))))) Ac)))))) Ac))) (vnm 13)))))))))))))))))))).h,?_⟩;refine⟨_,rfl,l,ns,rfl,hS,hl,λ p L H' hp hL kp B=>?_⟩;obtain⟨x,y,z,Z,B⟩:=B;refine qam1 (rest:=[]) (X:=Eg true (CX1 P w) P w K mg base [] "law" (qa3 Ge) a.f46 b1 A outer s H E) (n:=13) (x:=x) (y:=y) (z:=z) (ns:=Z) rfl (λ _=>rfl) rfl B.at_ B.li B.ne (λ H'=>k H') ?_;have B0:Oe Z (bagD x y z Z):=⟨x,y,z,rfl,B.x0,B.y0,B.y1,B.z0,B.nn⟩
 generalize bagD x y z Z=b at B0;generalize V.ref l=u;clear hS;refine Au [D.hole u,b,.u,.u,.u,.u,.u,.u,.u,.u,.u,.u,.u,.u,.u] rfl ?_;refine qb9 (λ N=>∃ b O,N=[D.hole u,b,.bl O,.u,.u,.u,.u,.u,.u,.u,.u,.u,.u,.u,.u]/\Oe Z b) (λ K Y=>qi0 (qai4 (qf1 (ds:=[D.hole u,b,.u,.u,.u,.u,.u,.u,.u,.u,.u,.u,.u,.u,.u]) rfl B0 rfl (by decide) (by decide) λ v b v0 v1 B=>qa0 (a:=D.bl (decide (v=0))) rfl (Y _ ⟨b,_,rfl,B⟩)))) ?_;rintro N ⟨b,O,rfl,B⟩;obtain⟨M,em,M1,M2⟩:∃ M:Int,f2 gIx (A4 gLst (Ax (kC (.int 64)) (Ax (kC (.int 5)) λ _=>some []))) (A4 (fx1 gInt) (Ax (rdN 2) λ _=>some [])) [D.hole u,b,.bl O,.u,.u,.u,.u,.u,.u,.u,.u,.u,.u,.u,.u]=some (.int M)/\1<=M/\M<=64:=by
   cases O with
   | true=>exact⟨5,rfl,by decide,by decide⟩
   | false=>exact⟨64,rfl,by decide,by decide⟩
 refine qb9 (λ N=>∃ b n wr r S g0,N=[D.hole u,b,.bl O,Aa n wr r,kL S,.u,.u,.u,.u,.u,.u,.u,.u,.u,.u]/\Oe Z b/\1<=n/\n<=64/\(r.map (·.1)).Nodup/\Ik r/\Kept n.toNat wr (N2 n r) g0 S/\(∀ k∈S,Aq k)/\S≠[]) (λ K Y=>?_) ?_
 . refine qaP5 (qn0 (qb6 (x:=b) (qe5 rfl B.known) (qd9 (y:=.int M) em (qc1 (qa0 (a:=b) (qe5 rfl B.known) ⟨b,Z,M,rfl,B,M1,M2,λ b' n wr r S g B' n1 n2 nd G KP hS a8=>qa0 (a:=[D.hole u,b',.bl O,.u,.u,.u,.u,.u,.u,.u,.u,.u,.u,.u,.u]) rfl (qs2 (Y _ ⟨b',n,wr,r,S,g,rfl,B',n1,n2,nd,G,KP,hS,a8⟩))⟩)))))
 clear B;rintro N ⟨b,n,wr,r,S,g0,rfl,B,n1,n2,nd,G,KP0,hS,a8⟩;have lS:=KP0.len;have c8:=zCk.mpr a8;have K0:Kept n.toNat wr (N2 n r) (λ _=>none) []:=Kept.none (by lia) (Bk n1);refine qb3 [D.hole u,b,.bl O,Aa n wr r,kL S,rA a n wr r (λ _=>none) [],.u,.u,.u,.u,.u,.u,.u,.u,.u] (λ K Y=>qi0 (qh3 (Jm (qaL0 (qd0 (y:=.int n) rfl rfl (qd0 (y:=.bl wr) rfl rfl (qd9 (y:=.l false (N6 r)) (qas5 (z:=false)) (qc1 ⟨n,wr,false,r,rfl,n1,n2,G,rfl,qa0 (a:=Ad false a.C3 n wr r) rfl (qa0 (a:=[D.hole u,b,.bl O,Aa n wr r,kL S,.u,.u,.u,.u,.u,.u,.u,.u,.u,.u]) rfl ?_)⟩)))))))) ?_
 . rw[qaN9]
   exact qc1 ⟨n,wr,r,.non,λ _=>none,[],rfl,n1,n2,nofun,K0,.inl ⟨rfl,rfl⟩,rfl,Y⟩
 refine qb9 (λ N=>∃ g I d6,N=[D.hole u,b,.bl O,Aa n wr r,kL S,rA a n wr r g I,d6,.u,.u,.u,.u,.u,.u,.u,.u]/\Kept n.toNat wr (N2 n r) g S) (λ K Y=>?_) ?_
 . refine qa0 (a:=(4,[])) rfl (qa0 (a:=D.l false (N4 S)) rfl (qa0 (a:=N4 S) rfl ⟨qk9 S,λ w=>?_⟩))
   refine qd6 (λ i N=>∃ g I d6,N=[D.hole u,b,.bl O,Aa n wr r,.hole w,rA a n wr r g I,d6,.u,.u,.u,.u,.u,.u,.u,.u]/\Kept n.toNat wr (N2 n r) g (S.take i)/\I.length=i) _ 0 _ ⟨_,[],_,rfl,K0,rfl⟩ ?_ ?_
   . rintro i y' hy N ⟨g,I,d6,rfl,K1,hd⟩ K2 a4
     rw[zAi] at K1 hd a4;obtain⟨k,hi,rfl⟩:=qaA7 hy;have c9:=(zA5.mp hi).1;have b4:=zB4 hi;refine qi6 (qB1 (qV5 (p:=rA a n wr r g I) rfl (qt0 rfl) (qb6 (x:=.int k) rfl (qc1 (qa0 (a:=D.int k) rfl (qa0 (a:=rA a n wr r g I) rfl ⟨n,wr,r,g,I,S.take i,k,rfl,n1,n2,hS k b4,λ x hx=>hS x (L9 hx),K1,qw3 KP0.h.1 hi,λ q c=>?_,by lia,λ came g' K'=>?_⟩))))))
     . rw[<- qo0 hi] at c
       exact KP0.no_crowd q (c.mono (K6 _ _))
     rw[<- qo0 hi] at K';exact qa0 (a:=[D.hole u,b,.bl O,Aa n wr r,.hole w,rA a n wr r g' (I++[D.q [.str "put",.int k]]),.int k,.u,.u,.u,.u,.u,.u,.u,.u]) rfl (a4 _ ⟨g',_,_,rfl,K',by rw[zAk,hd];rfl⟩)
   rintro N ⟨g,I,d6,rfl,K1,hd⟩;rw[zAi,qj7,zC1] at K1;exact qa0 (qag7 rfl) (Y _ ⟨g,I,d6,rfl,K1⟩)
 rintro N ⟨g,I,d6,rfl,KP⟩;clear KP0;refine qb9 (λ N=>∃ b t,N=[D.hole u,b,.bl O,Aa n wr r,kL S,rA a n wr r g I,.int t,.u,.u,.u,.u,.u,.u,.u,.u]/\Oe Z b/\t∈S) (λ K Y=>qi0 ⟨rfl,qf1 (ds:=[D.hole u,b,.bl O,Aa n wr r,kL S,rA a n wr r g I,d6,.u,.u,.u,.u,.u,.u,.u,.u]) (m:=(S.length:Nat)) rfl B (by rw[qn5 (z:=false) (ys:=N4 S) rfl,qj7]) (by lia) (by lia) λ v b v0 v1 B=>?_⟩) ?_
 . obtain⟨x,hx⟩:∃ x,S[v.toNat]? = some x:=⟨_,zB3 (by lia)⟩
   exact qa0 (a:=D.int x) (ix_k (z:=false) v0 hx) ⟨rfl,Y _ ⟨b,x,rfl,B,zB4 hx⟩⟩
 clear B;rintro N ⟨b,t,rfl,B,a5⟩;refine qb9 (λ N=>∃ s U,N=[D.hole u,b,.bl O,Aa n wr r,kL S,rA a n wr r g I,.int t,.q [.int (s:Nat),.int (N2 n r t:Nat)],.u,.u,.u,.u,.u,.u,.u]/\U < n.toNat/\g U=some t/\Jp n wr r g U t s) (λ K Y=>qi0 (qN8 (x:=rA a n wr r g I) (y:=.int t) rfl rfl rfl ⟨false,n,wr,r,g,I,S,t,rfl,n1,n2,hS,KP,a5,λ i s hi e W=>qa0 (a:=[D.hole u,b,.bl O,Aa n wr r,kL S,rA a n wr r g I,.int t,.u,.u,.u,.u,.u,.u,.u,.u]) rfl (Y _ ⟨s,i,rfl,hi,e,W⟩)⟩)) ?_;rintro N ⟨s,U,rfl,a2,a3,W⟩;have b5:Dp n.toNat g t=.int (U:Nat):=qaG7 a2 a3 λ j hj e=>KP.o.inj j U t hj a2 e a3
 have b6:An n wr r t (U:Nat)=some ((dist n.toNat (N2 n r t) U:Nat):Int):=qp5 n1 a2 λ hw=>KP.ln hw U t a2 a3
 refine qb3 [D.hole u,b,.bl O,Aa n wr r,kL S,rA a n wr r g I,.int t,.q [.int (s:Nat),.int (N2 n r t:Nat)],.int ((dist n.toNat (N2 n r t) U:Nat):Int),.u,.u,.u,.u,.u,.u] (λ K Y=>qi0 (qn0 (qb6 (x:=Aa n wr r) rfl (qb6 (x:=.int t) rfl (qh3 (qD9 (p:=rA a n wr r g I) (x:=.int t) (d:=.int (U:Nat)) rfl (qt0 rfl) rfl rfl ⟨false,n,wr,r,g,I,t,rfl,hS t a5,b5.symm⟩ rfl (qc1 (qa0 (a:=D.int t) rfl (qa0 (a:=Aa n wr r) rfl ⟨_,⟨n,wr,r,t,(U:Nat),rfl,n1,nd,rfl⟩,qa0 (a:=[D.hole u,b,.bl O,Aa n wr r,kL S,rA a n wr r g I,.int t,.q [.int (s:Nat),.int (N2 n r t:Nat)],.u,.u,.u,.u,.u,.u,.u]) rfl ?_⟩))))))))) ?_
 . rw[b6];exact Y
 refine qb3 [D.hole u,b,.bl O,Aa n wr r,kL S,rA a n wr r g I,.int t,.q [.int (s:Nat),.int (N2 n r t:Nat)],.int ((dist n.toNat (N2 n r t) U:Nat):Int),kL (S.filter λ y=>decide (dist n.toNat s (N2 n r y)<=dist n.toNat s (N2 n r t))),.u,.u,.u,.u,.u] (λ K Y=>qi0 (qap2 (x:=Aa n wr r) (y:=kL S) (w:=.q [.int (s:Nat),.int (N2 n r t:Nat)]) rfl rfl rfl rfl rfl ⟨_,⟨n,wr,r,false,S,s,N2 n r t,rfl,n1,n2,nd,by lia,W.1,Bk n1 t,rfl⟩,qa0 (a:=[D.hole u,b,.bl O,Aa n wr r,kL S,rA a n wr r g I,.int t,.q [.int (s:Nat),.int (N2 n r t:Nat)],.int ((dist n.toNat (N2 n r t) U:Nat):Int),.u,.u,.u,.u,.u,.u]) rfl Y⟩)) ?_;refine qb9 (λ N=>∃ b GS,N=[D.hole u,b,.bl O,Aa n wr r,kL S,rA a n wr r g I,.int t,.q [.int (s:Nat),.int (N2 n r t:Nat)],.int ((dist n.toNat (N2 n r t) U:Nat):Int),kL (S.filter λ y=>decide (dist n.toNat s (N2 n r y)<=dist n.toNat s (N2 n r t))),.l false (hsD n.toNat GS),.u,.u,.u,.u]/\Oe Z b/\GS≠[]/\GS.length<=3125/\(∀ h∈GS,Hous n wr r S h)/\(n<=5->∃ h∈GS,∀ i,i < n.toNat->h i=g i)) (λ K Y=>if_v (b:=decide (n<=5)) rfl (λ hb=>?_) λ hb=>?_) ?_
 . have n5:n<=5:=zAc hb
   refine qi0 (qn0 (qb6 (x:=Aa n wr r) rfl (qb6 (x:=kL S) rfl (qd9 (y:=.int ((0:Nat):Int)) rfl (qd9 (y:=.l false (N5 n.toNat λ _=>none)) (Ae rfl (y:=.int n) rfl (qD7 (by lia) (by lia))) (qc1 (qa0 (a:=D.l false (N4 S)) rfl (qa0 (a:=Aa n wr r) rfl ⟨n,wr,r,false,S,0,false,λ _=>none,rfl,n1,n5,nd,by lia,zBi _,by show S.length<=5;lia,?_⟩))))))));obtain⟨h,hm,e⟩:=qad2 n1 KP;refine qa0 (a:=[D.hole u,b,.bl O,Aa n wr r,kL S,rA a n wr r g I,.int t,.q [.int (s:Nat),.int (N2 n r t:Nat)],.int ((dist n.toNat (N2 n r t) U:Nat):Int),kL (S.filter λ y=>decide (dist n.toNat s (N2 n r y)<=dist n.toNat s (N2 n r t))),.u,.u,.u,.u,.u]) rfl (Y _ ⟨b,qh0 n.toNat (okB n wr r) S λ _=>none,rfl,B,List.ne_nil_of_mem hm,zAm (qu4 _ _) (qD2 (by lia) (by lia)),λ h hm=>qad8 n1 KP.h.1 hm,λ _=>⟨h,hm,e⟩⟩)
 . have n5:¬ n<=5:=zB8 hb
   refine qi0 (qaD5 (qd9 (y:=.int 8) rfl (qc1 (qa0 (a:=(8:Int)) rfl ⟨by decide,?_⟩))));refine qag0 (λ i J ι=>∃ d b GS,ι=[d,b,Aa n wr r,kL S]/\Oe Z b/\J=hsD n.toNat GS/\GS.length=i/\∀ h∈GS,Hous n wr r S h) _ 0 [] _ ⟨_,b,[],rfl,B,rfl,rfl,nofun⟩ ?_ ?_
   . rintro j y hy J ι ⟨d,b,GS,rfl,B,rfl,hl,hG⟩ R hR
     obtain⟨hj,rfl⟩:=qG1 hy;rw[zAi] at hl hR;refine qi6 (qF2 (Bu rfl (Jm (qap2 (x:=b) (y:=Aa n wr r) (w:=kL S) (qe5 rfl B.known) rfl rfl rfl (qe5 rfl B.known) ⟨b,Z,n,wr,r,false,S,rfl,B,n1,n2,nd,KP.h.1,by lia,KP.no_crowd,λ b' g' B' H' inj' b7=>qa0 (a:=[.int (j:Nat),b',Aa n wr r,kL S]) rfl ⟨by rw[qal9];unfold big;have:j < 8:=hj;lia,?_⟩⟩))));rw[show (rL n g').fz=.l true (N5 n.toNat g') from congrArg (D.l true) (qaC1 _ λ _=>qaj8)];refine hR _ _ ⟨_,b',GS++[g'],rfl,B',qat3 (hs:=[g']),by rw[zAk,hl];rfl,λ h hh=>?_⟩;rcases zAj.mp hh with z | z
     . exact hG h z
     rw[zAg.mp z];exact⟨H',inj',b7⟩
   rintro J ι ⟨d,b,GS,rfl,B,rfl,hl,hG⟩;rw[zAi,qA5] at hl;have hl:GS.length=8:=hl;exact Y _ ⟨b,GS,rfl,B,(λ z=>by rw[z] at hl;cases hl),by lia,hG,λ z=>absurd z n5⟩
 clear B;rintro N ⟨b,GS,rfl,B,Gne,Gl,hG,b8⟩;refine qb3 [D.hole u,b,.bl O,Aa n wr r,kL S,rA a n wr r g I,.int t,.q [.int (s:Nat),.int (N2 n r t:Nat)],.int ((dist n.toNat (N2 n r t) U:Nat):Int),kL (S.filter λ y=>decide (dist n.toNat s (N2 n r y)<=dist n.toNat s (N2 n r t))),.l false (hsD n.toNat GS),.l false (tlD n r GS),.u,.u,.u] (λ K Y=>qi0 (qa0 (a:=D.l false (hsD n.toNat GS)) rfl (qa0 (a:=hsD n.toNat GS) rfl ⟨qad7 _ _,?_⟩))) ?_
 . refine qag0 (λ i J ι=>∃ d,ι=[d,Aa n wr r]/\J=tlD n r (GS.take i)) _ 0 [] _ ⟨_,rfl,rfl⟩ ?_ ?_
   . rintro j y hy J ι ⟨d,rfl,rfl⟩ R hR
     rw[zAi] at hR ⊢;unfold hsD at hy;rw[zAy] at hy;obtain⟨h,eh,rfl⟩:=zAa.mp hy;have hj:=(zA5.mp eh).1;refine qi6 (qF2 (Bu rfl (Jm (qN8 (x:=Aa n wr r) (y:=.l true (N5 n.toNat h)) rfl rfl rfl ⟨_,⟨n,wr,r,true,h,rfl,n1,n2,nd,(hG h (zB4 eh)).2.2,rfl⟩,qa0 (a:=[.l true (N5 n.toNat h),Aa n wr r]) rfl ⟨?_,hR _ _ ⟨_,rfl,?_⟩⟩⟩))))
     . unfold tlD
       rw[zA8,zBh];unfold big;lia
     unfold tlD;rw[zBk,eh,zBe,show (D.l false (N6 (A5 n r h))).fz=.l true (N6 (A5 n r h)) from congrArg (D.l true) (qae5 _)];rfl
   rintro J ι ⟨d,rfl,rfl⟩;rw[zAi,qal9,zC1];exact Y
 have a6:∀ i k,i < n.toNat->g i=some k->Aq k:=λ i k hi e=>hS k ((KP.h.2 k).mpr ⟨i,hi,e⟩)
 have a7:∀ i x,i < n.toNat->g i=some x->x∈S:=λ i x hi e=>(KP.h.2 x).mpr ⟨i,hi,e⟩
 obtain⟨i1,k1,b9,e1,eb,c0⟩:∃ i k,i < n.toNat/\g i=some k/\bst (Dh n r g)=some (k,((dist n.toNat (N2 n r k) i:Nat):Int))/\∀ j k',j < n.toNat->g j=some k'->dist n.toNat (N2 n r k') j<=dist n.toNat (N2 n r k) i:=by
   rcases qag6 (n:=n) (ps:=r) (g:=g) n.toNat with⟨_,no⟩ | ⟨i,k,hi,e,eb,mx,_⟩
   . rw[no U a2] at a3;cases a3
   exact⟨i,k,hi,e,eb,mx⟩
 obtain⟨F,hF⟩:∃ F:Int,F=((dist n.toNat (N2 n r k1) i1:Nat):Int):=⟨_,rfl⟩
 rw[<- hF] at eb;refine qb3 [D.hole u,b,.bl O,Aa n wr r,kL S,rA a n wr r g I,.int t,.q [.int (s:Nat),.int (N2 n r t:Nat)],.int ((dist n.toNat (N2 n r t) U:Nat):Int),kL (S.filter λ y=>decide (dist n.toNat s (N2 n r y)<=dist n.toNat s (N2 n r t))),.l false (hsD n.toNat GS),.l false (tlD n r GS),.int F,.u,.u] (λ K Y=>qi0 (qap8 (qN9 (x:=rA a n wr r g I) rfl ⟨_,⟨false,n,wr,r,g,I,rfl,n1,n2,a6,KP.ln,rfl⟩,qa0 (a:=[D.hole u,b,.bl O,Aa n wr r,kL S,rA a n wr r g I,.int t,.q [.int (s:Nat),.int (N2 n r t:Nat)],.int ((dist n.toNat (N2 n r t) U:Nat):Int),kL (S.filter λ y=>decide (dist n.toNat s (N2 n r y)<=dist n.toNat s (N2 n r t))),.l false (hsD n.toNat GS),.l false (tlD n r GS),.u,.u,.u]) rfl (qa0 (a:=D.int 0) rfl ⟨rfl,qa0 (a:=D.int F) (by rw[eb];rfl) Y⟩)⟩))) ?_;obtain⟨TT,hT⟩:∃ TT:Int,TT=((Dh n r g).map (·.2)).sum:=⟨_,rfl⟩
 refine qb3 [D.hole u,b,.bl O,Aa n wr r,kL S,rA a n wr r g I,.int t,.q [.int (s:Nat),.int (N2 n r t:Nat)],.int ((dist n.toNat (N2 n r t) U:Nat):Int),kL (S.filter λ y=>decide (dist n.toNat s (N2 n r y)<=dist n.toNat s (N2 n r t))),.l false (hsD n.toNat GS),.l false (tlD n r GS),.int F,.int TT,.u] (λ K Y=>qi0 (qN9 (x:=rA a n wr r g I) rfl ⟨_,⟨false,n,wr,r,g,I,rfl,n1,n2,a6,KP.ln,rfl⟩,qa0 (a:=[D.hole u,b,.bl O,Aa n wr r,kL S,rA a n wr r g I,.int t,.q [.int (s:Nat),.int (N2 n r t:Nat)],.int ((dist n.toNat (N2 n r t) U:Nat):Int),kL (S.filter λ y=>decide (dist n.toNat s (N2 n r y)<=dist n.toNat s (N2 n r t))),.l false (hsD n.toNat GS),.l false (tlD n r GS),.int F,.u,.u]) rfl ?_⟩)) ?_
 . rw[<- hT];exact Y
 have b2:TT=(((Kz n.toNat).map (Es n.toNat (N2 n r) g)).sum:Nat):=hT.trans (qX8 _).2;have far1:∀ h∈GS,A5 n r h≠[]/\(A5 n r h).length<=64/\F<=mxQ (A5 n r h)/\TT<=((A5 n r h).map (·.1)).sum:=λ h hh=>by
   obtain⟨Hh,ih,lh⟩:=hG h hh;obtain⟨s1,c2,c1⟩:=qaP6 KP.o KP.c b9 e1 a7;obtain⟨k,i,hk,hi,e,hf⟩:=qap4 (Bk n1) c2 Hh c1;have hq:(((dist n.toNat (N2 n r k) i:Nat):Int),k)∈A5 n r h:=qM9.mpr ⟨i,hi,e,rfl⟩;have ne:A5 n r h≠[]:=λ z=>by rw[z] at hq;cases hq
   obtain⟨p,ep,em,_,mp⟩:=qal1 ne;refine⟨ne,?_,?_,?_⟩
   . have:=La (λ i=>(h i).map λ k=>(((dist n.toNat (N2 n r k) i:Nat):Int),k)) (Kz n.toNat)
     rw[zAv] at this;exact zAm this (by lia)
   . have:=mp _ hq
     rw[em,hF];dsimp only at this;lia
   rw[b2,show ((A5 n r h).map (·.1)).sum=_ from(qX8 _).1];exact Int.ofNat_le.mpr (qam0 KP.o KP.c KP.h Hh ih)
 refine qb9 (λ N=>∃ a1,N=[D.hole u,b,.bl O,Aa n wr r,kL S,rA a n wr r g I,.int t,.q [.int (s:Nat),.int (N2 n r t:Nat)],.int ((dist n.toNat (N2 n r t) U:Nat):Int),kL (S.filter λ y=>decide (dist n.toNat s (N2 n r y)<=dist n.toNat s (N2 n r t))),.l false (hsD n.toNat GS),.l false (tlD n r GS),.int F,.int TT,a1]) (λ K Y=>?_) ?_
 . refine qa0 (a:=(11,[])) rfl (qa0 (a:=D.l false (tlD n r GS)) rfl (qa0 (a:=tlD n r GS) rfl ⟨qad6 _ _ _,λ w=>?_⟩))
   refine qd6 (λ i N=>∃ a1,N=[D.hole u,b,.bl O,Aa n wr r,kL S,rA a n wr r g I,.int t,.q [.int (s:Nat),.int (N2 n r t:Nat)],.int ((dist n.toNat (N2 n r t) U:Nat):Int),kL (S.filter λ y=>decide (dist n.toNat s (N2 n r y)<=dist n.toNat s (N2 n r t))),.l false (hsD n.toNat GS),.hole w,.int F,.int TT,a1]) _ 0 _ ⟨_,rfl⟩ ?_ ?_
   . rintro i y hy N ⟨a1,rfl⟩ K2 a4
     obtain⟨h,hh,rfl⟩:=tl_at hy;obtain⟨ne,le,fF,fT⟩:=far1 h hh;obtain⟨p,ep,em,_,mp⟩:=qal1 ne;rw[em] at fF;have eM:A4 (fx1 Jk) (Ax (rdN 14) λ _=>some []) [D.hole u,b,.bl O,Aa n wr r,kL S,rA a n wr r g I,.int t,.q [.int (s:Nat),.int (N2 n r t:Nat)],.int ((dist n.toNat (N2 n r t) U:Nat):Int),kL (S.filter λ y=>decide (dist n.toNat s (N2 n r y)<=dist n.toNat s (N2 n r t))),.l false (hsD n.toNat GS),.hole w,.int F,.int TT,.l true (N6 (A5 n r h))]=some (.q [.int p.1,.int p.2]):=by
       unfold A4 Ax;exact qaK9 (z:=true) ep
     refine qi6 (Au [D.hole u,b,.bl O,Aa n wr r,kL S,rA a n wr r g I,.int t,.q [.int (s:Nat),.int (N2 n r t:Nat)],.int ((dist n.toNat (N2 n r t) U:Nat):Int),kL (S.filter λ y=>decide (dist n.toNat s (N2 n r y)<=dist n.toNat s (N2 n r t))),.l false (hsD n.toNat GS),.hole w,.int F,.int TT,.l true (N6 (A5 n r h))] rfl ?_);refine qg7 false (λ Q q=>qO5 false false (λ Q q=>qe9 (b:=false) (Ae (x:=.int p.1) (y:=.int F) (Ae eM rfl rfl) rfl ?_) q) (λ _ Q q=>qC9 (Fl (qh3 (qa0 (a:=D.l true (N6 (A5 n r h))) rfl (qa0 (a:=N6 (A5 n r h)) rfl ⟨qk8 _,qat5 (by lia) λ d=>qc1 (qa0 (a:=D.int (Mv ((A5 n r h).map λ x:Int×Int=>x.1))) (show gSum (kL _)=_ from qav6 _) (qa0 (a:=D.bl false) ?_ (qa0 (a:=false) rfl q)))⟩))))) q) nofun λ _=>?_
     . show some (D.bl (decide (p.1 < F)))=_
       rw[zAl (by lia)]
     . show some (D.bl (decide (_ < TT)))=_
       rw[zAl (by lia)]
     obtain⟨Hh,ih,lh⟩:=hG h hh;obtain⟨kw,iw,c3,c4,ew,d0⟩:=qap4 (Bk n1) W.1 Hh (W.2.2 S a7);refine qaV8 (qC9 (qaK8 (qh3 (qa0 (a:=D.l true (N6 (A5 n r h))) rfl (qa0 (a:=N6 (A5 n r h)) rfl ⟨qk8 _,?_⟩)))));refine qe2 (λ ι=>∃ d,ι=[d,kL (S.filter λ y=>decide (dist n.toNat s (N2 n r y)<=dist n.toNat s (N2 n r t)))]) (λ x=>match x with | .q [.int a,.int k]=>if k∈(S.filter λ y=>decide (dist n.toNat s (N2 n r y)<=dist n.toNat s (N2 n r t))) then some (.int a) else none | _=>none) _ [] _ (by show 0+_ < 1000000;rw[show (N6 (A5 n r h)).length=(A5 n r h).length from zA8 _];lia) ⟨_,rfl⟩ ?_ ?_
     . rintro y hy ι J ⟨d,rfl⟩ R hR a0
       obtain⟨q,_,rfl⟩:=zAt.mp hy;have this:=hR [.q [.int q.1,.int q.2],kL (S.filter λ y=>decide (dist n.toNat s (N2 n r y)<=dist n.toNat s (N2 n r t)))] ⟨_,rfl⟩;refine qi6 (qe9 (b:=decide (q.2∈(S.filter λ y=>decide (dist n.toNat s (N2 n r y)<=dist n.toNat s (N2 n r t))))) (Ae (x:=.int q.2) (y:=kL (S.filter λ y=>decide (dist n.toNat s (N2 n r y)<=dist n.toNat s (N2 n r t)))) (Ae rfl rfl rfl) rfl qas7) (ite_b (λ z=>?_) λ z=>?_))
       . have z:=zAc z
         have this:R (J++(if q.2∈(S.filter λ y=>decide (dist n.toNat s (N2 n r y)<=dist n.toNat s (N2 n r t))) then some (D.int q.1) else none).toList) _:=this;rw[if_pos z] at this;exact qt7 (d:=.int q.1) rfl rfl ⟨a0,this⟩
       have z:=zB8 z;have this:R (J++(if q.2∈(S.filter λ y=>decide (dist n.toNat s (N2 n r y)<=dist n.toNat s (N2 n r t))) then some (D.int q.1) else none).toList) _:=this;rw[if_neg z] at this;have this:R (J++[]) _:=this;rw[zAe] at this;exact this
     rintro ι ⟨d,rfl⟩;have eN:(N6 (A5 n r h)).filterMap (λ x=>match x with | .q [.int a,.int k]=>if k∈(S.filter λ y=>decide (dist n.toNat s (N2 n r y)<=dist n.toNat s (N2 n r t))) then some (D.int a) else none | _=>none)=N4 ((A5 n r h).filterMap λ q=>if q.2∈(S.filter λ y=>decide (dist n.toNat s (N2 n r y)<=dist n.toNat s (N2 n r t))) then some q.1 else none):=by
       unfold N6 N4;rw[zCs,Lr];refine Jq _ λ q _=>?_
       show (if q.2∈(S.filter λ y=>decide (dist n.toNat s (N2 n r y)<=dist n.toNat s (N2 n r t))) then some (D.int q.1) else none)=_;by_cases z:q.2∈(S.filter λ y=>decide (dist n.toNat s (N2 n r y)<=dist n.toNat s (N2 n r t)))
       . rw[if_pos z,if_pos z];rfl
       rw[if_neg z,if_neg z];rfl
     rw[zB0,eN];refine qc1 (qa0 (qG8 _) (qa0 (a:=(-1:Int)) rfl λ m hm=>qa0 (a:=D.bl false) ?_ (qa0 (a:=false) rfl (E6 (by decide) (a4 _ ⟨_,rfl⟩)))));have a9:((dist n.toNat (N2 n r kw) iw:Nat):Int)∈(A5 n r h).filterMap λ q=>if q.2∈(S.filter λ y=>decide (dist n.toNat s (N2 n r y)<=dist n.toNat s (N2 n r t))) then some q.1 else none:=zCa.mpr ⟨(((dist n.toNat (N2 n r kw) iw:Nat):Int),kw),qM9.mpr ⟨iw,c4,ew,rfl⟩,if_pos c3⟩
     rcases hm with⟨z,_⟩ | hm
     . rw[z] at a9;cases a9
     have:=hm.2 _ a9
     show some (D.bl (decide (m < ((dist n.toNat (N2 n r t) U:Nat):Int))))=_;rw[zAl (by lia)]
   rintro N ⟨a1,rfl⟩;exact qa0 (qag7 rfl) (Y _ ⟨_,rfl⟩)
 rintro N ⟨a1,rfl⟩;refine qg9 (decide (n > 5)) rfl (λ _=>qi3 (.bl true) rfl rfl) λ hb=>?_
 have n5:n<=5:=by have:=zB8 hb;lia
 obtain⟨h0,b0,c5⟩:=b8 n5;have eQ:A5 n r h0=A5 n r g:=qae9 c5;have tl_len:(tlD n r GS).length=GS.length:=zA8 _;have mF:mxQ (A5 n r h0)=F:=by
   obtain⟨ne,_,fF,_⟩:=far1 h0 b0;obtain⟨p,_,em,hp,_⟩:=qal1 ne;rw[em] at fF ⊢;rw[eQ] at hp;obtain⟨i,hi,e,e2⟩:=qM9.mp hp
   have:=c0 i p.2 hi e
   lia
 have mT:((A5 n r h0).map (·.1)).sum=TT:=by rw[eQ,b2];exact(qX8 _).1
 have c6:Gc (GS.map λ h=>mxQ (A5 n r h)) F:=by
   refine⟨zAt.mpr ⟨h0,b0,mF⟩,λ x hx=>?_⟩;obtain⟨h,hh,rfl⟩:=zAt.mp hx;exact(far1 h hh).2.2.1
 have c7:Gc (GS.map λ h=>((A5 n r h).map (·.1)).sum) TT:=by
   refine⟨zAt.mpr ⟨h0,b0,mT⟩,λ x hx=>?_⟩;obtain⟨h,hh,rfl⟩:=zAt.mp hx;exact(far1 h hh).2.2.2
 have b3:∀ f:Pr->Int,∀ v:D->D,(∀ l,v (.l true (N6 l))=.int (f l))->(tlD n r GS).filterMap (λ x=>some (v x))=N4 (GS.map λ h=>f (A5 n r h)):=λ f v hv=>by
   rw[qV9];unfold tlD N4;rw[zCj,zCj];exact Mb λ h _=>hv _
 refine qg7 false (λ Q q=>qC9 (Fl (qh3 (qa0 (a:=D.l false (tlD n r GS)) rfl (qa0 (a:=tlD n r GS) rfl ⟨qad6 _ _ _,?_⟩))))) nofun λ _=>?_
 . refine qe2 (λ ι=>∃ d,ι=[d]) (λ x=>some (match x with | .l _ ys=>.int (mxQ ((ys.mapM Ee).getD [])) | d=>d)) _ [] _ (by show 0+_ < 1000000;rw[tl_len];lia) ⟨_,rfl⟩ ?_ ?_
   . rintro y hy ι J ⟨d,rfl⟩ R hR a0
     obtain⟨h,hh,rfl⟩:=zAt.mp hy;obtain⟨p,ep,em,_,_⟩:=qal1 (far1 h hh).1;have this:=hR [.l true (N6 (A5 n r h))] ⟨_,rfl⟩;have this:R (J++[D.int (mxQ (((N6 (A5 n r h)).mapM Ee).getD []))]) _:=this;rw[qw4] at this;have this:R (J++[D.int (mxQ (A5 n r h))]) _:=this;rw[em] at this;refine qi6 (qF2 (Bu rfl (qr6 (d:=.int p.1) (Ae (x:=.q [.int p.1,.int p.2]) (y:=.int 0) ?_ rfl rfl) ⟨a0,this⟩)));unfold A4 Ax;exact qaK9 (z:=true) ep
   rintro ι ⟨d,rfl⟩;rw[zB0,b3 mxQ _ λ l=>by show D.int (mxQ (((N6 l).mapM Ee).getD []))=_;rw[qw4];rfl];refine qc1 (qa0 (a:=D.int F) (qaK7 (z:=true) c6) (qa0 (a:=D.bl false) ?_ (qa0 (a:=false) rfl q)));show some (D.bl (!(F == F)))=_;rw[zB9];rfl
 refine qi2 (qai4 (Fl (qh3 (qa0 (a:=D.l false (tlD n r GS)) rfl (qa0 (a:=tlD n r GS) rfl ⟨qad6 _ _ _,?_⟩)))));refine qe2 (λ ι=>∃ d,ι=[d]) (λ x=>some (match x with | .l _ ys=>.int ((((ys.mapM Ee).getD []).map (·.1)).sum) | d=>d)) _ [] _ (by show 0+_ < 1000000;rw[tl_len];lia) ⟨_,rfl⟩ ?_ ?_
 . rintro y hy ι J ⟨d,rfl⟩ R hR a0
   obtain⟨h,hh,rfl⟩:=zAt.mp hy;have le:=(far1 h hh).2.1;have this:=hR [.l true (N6 (A5 n r h))] ⟨_,rfl⟩;have this:R (J++[D.int (((((N6 (A5 n r h)).mapM Ee).getD []).map (·.1)).sum)]) _:=this;rw[qw4] at this;exact qi6 (qF2 (Bu rfl (Fl (qh3 (qa0 (a:=D.l true (N6 (A5 n r h))) rfl (qa0 (a:=N6 (A5 n r h)) rfl ⟨qk8 _,qat5 (by lia) λ d=>qc1 (qa0 (a:=D.int (Mv ((A5 n r h).map λ x:Int×Int=>x.1))) (show gSum (kL _)=_ from qav6 _) ⟨a0,this⟩)⟩))))))
 rintro ι ⟨d,rfl⟩;rw[zB0,b3 (λ l=>(l.map (·.1)).sum) _ λ l=>by show D.int ((((N6 l).mapM Ee).getD []).map (·.1)).sum=_;rw[qw4];rfl];refine qc1 (qa0 (a:=D.int TT) (qaK7 (z:=true) c7) (qa0 (a:=D.bl true) ?_ rfl));show some (D.bl (TT == TT))=_;rw[zB9]
end
theorem dfX{K:Nf}{mg:Str->Option V'}{x qual:Str}{st:Km}{f:γ}{ps:List Str}{oc:V'}{n g:Option γ}{m:Array (Option V')}{kV e i d j:V'}{h:Heap}(X:K.In h)(G:h.Ns J1 mg)(a:W.nsIn K J1 x=some (some (.ref f)))(l:K.lookup f=some ⟨oc,n,.func (W.fnOf x qual (qe1 st) (qc6 st) (qa3 st) .none kV e i g d j),m⟩)(c:W.codeIn K d qual=true)(k:W.keepIn K (.ref f)=true)(b:∀(kV e i:V')(g:Option γ)(d j:V')(us:List V'),us.length=ps.length->bindArgs (W.fnOf x qual (qe1 st) (qc6 st) (qa3 st) .none kV e i g d j) ⟨us,[]⟩=pure (ps.zip us)) :
 Df K mg x qual st f (W.fnOf x qual (qe1 st) (qc6 st) (qa3 st) .none kV e i g d j) ps:=dfmk l c k (W.mg_of X G a) b
theorem qaX7{l:W.OpenLaw}{w:Kk}{K:Nf}{mg:Str->Option V'}{fa f0 f1 f2 f3 f4 f5 f6 f7 f8 f9 d f g h i j n o p q r c t u x y z A B C D E F G H I J L M N O P Q R S T e3 C0 C1:γ}{d0 d1 d2 d3 d4 d5 d6 d7 d8 d9 U V X Y Z a0 a1 a2 a3 a4 a5 a6 a7 a8 a9 b0 b1 b2 b3 b4 b5 b6 b7 b8 b9 c0 c1 c2 c3 c4 c5 c6 c7 c8 c9 e0 b:δ}{Cb Cf Cg:Tok}(e4:mg "law" = some (.ref fa))(j0:Df K mg "_wall" "_wall" qaq6 f0 d0 ["k"])(j1:Df K mg "is_whole" "is_whole" qv1 f1 d1 ["thing"])(j2:Df K mg "is_whole_within" "is_whole_within" qf2 f2 d2 ["thing", "least", "most"])(j3:Df K mg "is_number" "is_number" qq8 f3 d3 ["thing"])(j4:Df K mg "are_parted" "are_parted" qn4 f4 d4 ["numbers"])(j5:Df K mg "is_number_pair" "is_number_pair" qg3 f5 d5 ["thing"])(j6:Df K mg "is_home_list" "is_home_list" qj0 f6 d6 ["thing"])(j7:Md K C0 "__init__" "Plan.__init__" qr0 f7 d7 ["self", "rooms", "wraps", "homes"])(j8:Md K C0 "is_room" "Plan.is_room" qj2 f8 d8 ["self", "thing"])(j9:Md K C0 "home" "Plan.home" qr1 f9 d9 ["self", "key"])(e5:Md K C0 "far" "Plan.far" qv6 d U ["self", "key", "room"])(e6:Md K C0 "goes_ahead" "Plan.goes_ahead" qf3 f V ["self", "room", "one", "other"])(e7:Df K mg "room_ahead" "room_ahead" qn3 g X ["plan", "room"])(e8:Df K mg "word_by_room_ahead" "word_by_room_ahead" qd1 h Y ["plan", "rooms", "room"])(e9:Df K mg "word_due" "word_due" qv0 i Z ["plan", "rooms", "room"])(g0:Df K mg "is_turned" "is_turned" qq7 j a0 ["plan", "rooms"])(g9:Df K mg "fault_of" "fault_of" qv2 n a1 ["plan", "rooms"])(h0:Df K mg "are_crowd" "are_crowd" qq9 o a2 ["plan", "keys", "room"])(h1:Df K mg "crowded_room" "crowded_room" qj1 p a3 ["plan", "keys"])(h2:Df K mg "refuse_crowd" "refuse_crowd" qi9 q a4 ["plan", "keys"])(h3:Df K mg "bring_in" "bring_in" qv4 r a5 ["plan", "rooms", "key"])(h4:MdN K C1 "__init__" "Row.__init__" qv5 c a6 ["self", "plan", "rooms"])(h5:Md K C1 "rooms_held" "Row.rooms_held" qg4 t a7 ["self"])(h6:Md K C1 "keys_held" "Row.keys_held" qh6 u a8 ["self"])(h7:Md K C1 "room_of" "Row.room_of" qk5 x a9 ["self", "key"])(h8:Md K C1 "put" "Row.put" qC5 y b0 ["self", "key"])(h9:Df K mg "refuse_wrong_row_or_key" "refuse_wrong_row_or_key" qc3 z b1 ["row", "key"])(i0:Df K mg "fars_of" "fars_of" qC3 A b2 ["row"])(i1:Df K mg "farthest" "farthest" qv3 B b3 ["row"])(i2:Df K mg "far_sum" "far_sum" qC4 C b4 ["row"])(i3:Df K mg "window_of" "window_of" qq6 D b5 ["row", "key"])(i4:Df K mg "_law_bag" "_law_bag" qaw9 E b6 ["_law_script"])(i5:Df K mg "_law_take" "_law_take" qZ0 F b7 ["_law_bag_here", "_law_many"])(i6:Df K mg "_law_case" "_law_case" qZ4 G b8 ["_law_bag_here", "_law_most"])(i7:Df K mg "_law_key" "_law_key" qaw7 H b9 ["_law_bag_here", "_law_rooms", "_law_home_here"])(i8:Df K mg "_law_keys" "_law_keys" qZ1 I c0 ["_law_bag_here", "_law_case_here", "_law_many"])(i9:Df K mg "_law_home" "_law_home" qZ2 J c1 ["_law_case_here", "_law_key_here"])(k0:Df K mg "_law_far" "_law_far" qaw8 L c2 ["_law_case_here", "_law_key_here", "_law_room"])(k1:Df K mg "_law_ahead" "_law_ahead" qL1 M c3 ["_law_case_here", "_law_room", "_law_one", "_law_other_here"])(k2:Df K mg "_law_put" "_law_put" qaw6 N c4 ["_law_case_here", "_law_rooms", "_law_key_here"])(k3:Df K mg "_law_fitting" "_law_fitting" qv7 O c5 ["_law_case_here", "_law_keys_here"])(k4:Df K mg "_law_drawn" "_law_drawn" qL0 P c6 ["_law_bag_here", "_law_most"])(k5:Df K mg "_law_every" "_law_every" qK9 Q c7 ["_law_case_here", "_law_keys_here", "_law_at", "_law_rooms"])(k6:Df K mg "_law_other" "_law_other" qK8 R c8 ["_law_bag_here", "_law_case_here", "_law_keys_here"])(k7:Df K mg "_law_fars" "_law_fars" qZ3 S c9 ["_law_case_here", "_law_rooms"])(k8:Df K mg "_law_within" "_law_within" qC6 T e0 ["_law_case_here", "_law_keys_here", "_law_window"])(e1:Df K mg "law" "law" Ge e3 b ["_law_script"])(k9:mg "MOST_NUMBER" = some (.int 1000000000000000000 Cb))(l0:mg "MOST_ROOMS" = some (.int 64 Cf))(l1:mg "MOST_HOMES" = some (.int 64 Cg))(l2:mg "abs" = none)(l3:mg "all" = none)(l4:mg "bool" = none)(l5:mg "dict" = none)(l6:mg "enumerate" = none)(l7:mg "int" = none)(l8:mg "isinstance" = none)(l9:mg "len" = none)(m0:mg "list" = none)(m1:mg "max" = none)(m2:mg "min" = none)(m3:mg "range" = none)(m4:mg "set" = none)(m5:mg "sorted" = none)(m6:mg "sum" = none)(m7:mg "tuple" = none)(m8:Cl K mg "Plan" C0)(m9:Mk K C0 f7)(n0:qf4 K C0 "rooms")(n1:qf4 K C0 "wraps")(n2:qf4 K C0 "homes")(n3:qf4 K C0 "home_numbers")(n4:IsO K C0)(n5:Cl K mg "Row" C1)(n6:Mk K C1 c)(n7:qf4 K C1 "plan")(n8:qf4 K C1 "held")(n9:qf4 K C1 "done")(o0:IsO K C1)(hb:∀(s:Sh)(v:V'),BindsTo s b ⟨[v],[]⟩ [("_law_script",v)]):∃ fd:δ,(∀(s:Sh)(v:V'),BindsTo s fd ⟨[v],[]⟩ [("_law_script",v)])/\∀ base:Heap,K.In base->base.Ns J1 mg->Fo l.prog w K mg base (CX1 l.prog w) 12 fa fd ["_law_script"] (G4 K):=by
 have e:=e4.symm.trans e1.m;injection e with e
 injection e with e
 subst e;exact⟨b,hb,λ base _ _=>qaT8 (a:=⟨f0,d0,f1,d1,f2,d2,f3,d3,f4,d4,f5,d5,f6,d6,f7,d7,f8,d8,f9,d9,d,U,f,V,g,X,h,Y,i,Z,j,a0,n,a1,o,a2,p,a3,q,a4,r,a5,c,a6,t,a7,u,a8,x,a9,y,b0,z,b1,A,b2,B,b3,C,b4,D,b5,E,b6,F,b7,G,b8,H,b9,I,c0,J,c1,L,c2,M,c3,N,c4,O,c5,P,c6,Q,c7,R,c8,S,c9,T,e0,fa,b,Cb,Cf,Cg,C0,C1⟩) ⟨j0,j1,j2,j3,j4,j5,j6,j7,j8,j9,e5,e6,e7,e8,e9,g0,g9,h0,h1,h2,h3,h4,h5,h6,h7,h8,h9,i0,i1,i2,i3,i4,i5,i6,i7,i8,i9,k0,k1,k2,k3,k4,k5,k6,k7,k8,e1,k9,l0,l1,l2,l3,l4,l5,l6,l7,l8,l9,m0,m1,m2,m3,m4,m5,m6,m7,m8,m9,n0,n1,n2,n3,n4,n5,n6,n7,n8,n9,o0⟩⟩
theorem walk{l:W.OpenLaw}{q:Ki}{loose:List Str}{XP:(Str->Option V')->Heap->Prop}{YP:Kk->Heap->Prop}{d:DefRec}{K:Params->Nf}(c:l.most=some 63)(b:d.params.defaults=[])(e:∀(w:Kk)(h:Heap),YP w h->(K w.params).In h)(F:∀(w:Kk)(mg:Str->Option V')(fa:γ)(h:Heap),(K w.params).In h->h.Ns J1 mg->mg d.name=some (.ref fa) ->
 ∃ fd:δ,(∀(s:Sh)(u:V'),BindsTo s fd ⟨[u],[]⟩ [("_law_script",u)])/\∀ base:Heap,(K w.params).In base->base.Ns J1 mg->Fo l.prog w (K w.params) mg base (CX1 l.prog w) 12 fa fd ["_law_script"] (G4 (K w.params))) :
 W.WalkO q loose XP YP l.row.toRowW d [] (λ f vs=>PySem.call f vs) :=
 L2.qaE4 (n:=63) (k:=12) (x := "_law_script") (CX:=λ w=>CX1 l.prog w) (sp:=λ w=>G4 (K w.params)) c (by decide) b ⟨λ _=>rfl,by decide,by decide⟩ e F (λ _ _ a g i _ j=>⟨a,g,rfl,j,i,λ _=>rfl⟩) λ _ _ _ _ _ z=>z
end LV.My
open PySem PySem.W PyProof.Rows L2
local macro_rules | `(tactic| walk_at "u")=>`(tactic| (intro _ _ _ _ _ _;repeat' first | exact LV.ec0 (rfl) | refine LV.ec1 λ _=>?_))
local macro_rules | `(tactic| walk_at "d")=>`(tactic| (refine' LV.My.dfX (by assumption) (by assumption) ?a ?l ?c ?k ?b;(case a | l | c | k=>k_is);(case b=>walk_at "u")))
local macro_rules | `(tactic| walk_at "e")=>`(tactic| (refine' mdmk ?l ?c ?k ?a ?i ?b;(case a | i | l | c | k=>k_is);(case b=>walk_at "u")))
local macro_rules | `(tactic| walk_at "c")=>`(tactic| (refine' mg_of (by assumption) (by assumption) ?a;k_is))
local macro_rules | `(tactic| walk_at "z")=>`(tactic| (refine' mg_none_of (by assumption) (by assumption) ?a;k_is))
local macro_rules | `(tactic| walk_at "q")=>`(tactic| (first | k_is | kernel_rfl | rfl))
local macro_rules | `(tactic| walk_at "n")=>`(tactic| (show findIn _ _ _=some none;k_is))
theorem PySem.Challenge.cw_homeward_k54_whole_no_lesser_farthest_holds : PySem.Challenge.rw_homeward_k54_whole_no_lesser_farthest.Holds := by
 w_on;o_law;k_head;(case hw=>w_witness2)
 k_fill
 refine LV.My.walk (l:=PySem.Challenge.rw_homeward_k54_whole_no_lesser_farthest) rfl rfl (λ w h Y=>PySem.W.kIn_of Y) ?F
 case F =>
 intro w g j h KX G f;refine' LV.My.qaX7 f ?j0 ?j1 ?j2 ?j3 ?j4 ?j5 ?j6 ?j7 ?j8 ?j9 ?j10 ?j11 ?j12 ?j13 ?j14 ?j15 ?j16 ?j17 ?j18 ?j19 ?j20 ?j21 ?j22 ?j23 ?j24 ?j25 ?j26 ?j27 ?j28 ?j29 ?j30 ?j31 ?j32 ?j33 ?j34 ?j35 ?j36 ?j37 ?j38 ?j39 ?j40 ?j41 ?j42 ?j43 ?j44 ?j45 ?j46 ?j47 ?j48 ?j49 ?j50 ?j51 ?j52 ?j53 ?j54 ?j55 ?j56 ?j57 ?j58 ?j59 ?j60 ?j61 ?j62 ?j63 ?j64 ?j65 ?j66 ?j67 ?j68 ?j69 ?j70 ?j71 ?j72 ?j73 ?j74 ?j75 ?j76 ?j77 ?j78 ?hb
 case j47|j48|j49=>walk_at "c"
 case j66|j73=>refine' ⟨⟨?_,?_,?_,?_⟩,mg_of (by assumption) (by assumption) ?a⟩;(case a=>k_is);k_is;k_is;k_is;k_is
 case j0|j1|j2|j3|j4|j5|j6|j12|j13|j14|j15|j16|j17|j18|j19|j20|j26|j27|j28|j29|j30|j31|j32|j33|j34|j35|j36|j37|j38|j39|j40|j41|j42|j43|j44|j45|j46=>walk_at "d"
 case j7|j8|j9|j10|j11|j22|j23|j24|j25=>walk_at "e"
 case j21=>refine' LV.mdmkN ?l ?c ?k ?a ?i ?t ?b ?bn;(case a | i | l | c | k | t=>k_is);(case b=>intro _ _ _ _ _ _;repeat' first | exact LV.ec0 (⟨_,rfl,rfl⟩) | refine LV.ec1 λ _=>?_);(case bn=>intro _ _ _ _ _ _;refine LV.ec2 ?_;repeat' first | exact LV.ec0 (⟨_,rfl,rfl⟩) | refine LV.ec1 λ _=>?_)
 case j50|j51|j52|j53|j54|j55|j56|j57|j58|j59|j60|j61|j62|j63|j64|j65=>walk_at "z"
 case j68|j69|j70|j71|j75|j76|j77=>walk_at "n"
 case j72|j78=>refine⟨?_,?_,?_,?_,kf_of ?_ ?_ ?_ ?_ ?_ ?_ ?_⟩<;>walk_at "q"
 case j67|j74=>refine⟨?_,?_,?_,?_⟩<;>k_is
 case hb=>exact λ s v=>.of_eq rfl
#print axioms PySem.Challenge.cw_homeward_k54_whole_no_lesser_farthest_holds
